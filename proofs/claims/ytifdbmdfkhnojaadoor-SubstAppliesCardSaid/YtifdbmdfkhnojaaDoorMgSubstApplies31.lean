/- Texts of one proof, one behind the other. -/
import Derived.Test.YtifdbmdfkhnojaaDoorMgSubstApplies26
import Derived.Deep.RegionWith
/- each: a type's types are handed to a function, those of a bound variable aside. -/
namespace Go.Proofs.YtifdbmdfkhnojaaDoor
open Go.RowKit Go.Shelf Go.Maps Go.WideShapes
attribute [local go_sem ↓] builtin_app
/-- Is it a variable that has a bind? -/
def hasS (l : List Bnd) (k n : Int) : Bool := k == 1 && (fnd l n).isSome
/-- All that are handed on, of a stack whose last one comes first. -/
def vst (l : List Bnd) : Fo → List Tr
  | .nil => []
  | .cons k n u ps r => vst l r ++ (k, n, u) :: (if hasS l k n then [] else vst l ps)
theorem vst_app (l : List Bnd) (f g : Fo) : vst l (f.app g) = vst l g ++ vst l f := by
  induction f with
  | nil => simp [Fo.app, vst]
  | cons k n u ps r _ ih => simp [Fo.app, vst, ih]
theorem vst_size (l : List Bnd) (f : Fo) : (vst l f).length ≤ f.size := by
  induction f with
  | nil => simp [vst]
  | cons k n u ps r i1 i2 =>
    simp only [vst, List.length_append, List.length_cons, Fo.size]
    cases hasS l k n
    · simp only [Bool.false_eq_true, if_false]; omega
    · simp only [if_true, List.length_nil]; omega
theorem vst_pre (l : List Bnd) (f : Fo) : ∀ x ∈ vst l f, x ∈ f.pre := by
  induction f with
  | nil => intro x hx; cases hx
  | cons k n u ps r i1 i2 =>
    intro x hx
    simp only [vst, List.mem_append, List.mem_cons] at hx
    simp only [Fo.pre, List.mem_cons, List.mem_append]
    rcases hx with hx | rfl | hx
    · exact .inr (.inr (i2 x hx))
    · exact .inl rfl
    · split at hx
      · cases hx
      · exact .inr (.inl (i1 x hx))
/-- What turns lies in between. -/
structure Btw (B H : Nat) (W W' : World) : Prop where
  os : W'.os = W.os
  tape : W'.tape = W.tape
  output : W'.output = W.output
  size : W.heap.size ≤ W'.heap.size
  block : ∀ b, (b < B ∨ H ≤ b) → b < W.heap.size → W'.heap[b]? = W.heap[b]?
theorem Btw.refl (B H : Nat) (W : World) : Btw B H W W := ⟨rfl, rfl, rfl, Nat.le_refl _, fun _ _ _ => rfl⟩
theorem Btw.below {B H : Nat} {W W' : World} (h : Btw B H W W') (hB : B ≤ W.heap.size) : Below B W W' := ⟨h.os, h.tape, h.output, h.size, fun b hb => h.block b (.inl hb) (by omega)⟩
theorem Btw.trans {B H : Nat} {a b c : World} (x : Btw B H a b) (y : Btw B H b c) : Btw B H a c :=
  ⟨y.os.trans x.os, y.tape.trans x.tape, y.output.trans x.output, Nat.le_trans x.size y.size, fun k hk hl => (y.block k hk (by have := x.size; omega)).trans (x.block k hk hl)⟩
theorem Btw.of_below {B H : Nat} {W W' : World} (h : Below W.heap.size W W') : Btw B H W W' := ⟨h.os, h.tape, h.output, h.size, fun b _ hl => h.block b hl⟩
theorem Btw.row {B H : Nat} {W W' : World} {base size n : Nat} {e : TypeId} {v : Value} {xs : List Value} (h : Btw B H W W') (hH : H ≤ base) (o : W.ownsRow base e size v n xs) : W'.ownsRow base e size v n xs := by
  refine ⟨o.1, ?_⟩
  rcases o.2 with h2 | ⟨g, cap, cur, hv, hg, hh, r⟩
  · exact .inl h2
  · exact .inr ⟨g, cap, cur, hv, hg, (h.block g (.inr (by omega)) (Array.getElem?_eq_some_iff.1 hh).1).trans hh, r⟩
/-- Between two rounds. -/
def EaInv (l : List Bnd) (J : List Tr → World → Prop) (w : World) (B : Nat) (F0 : Fo) (t : Value) (wr : World) (s : Nat) : Prop :=
  ∃ (F : Fo) (pre : List Tr), F.size = s ∧ s ≤ 1000000 ∧ wr.ownsRow (w.heap.size + 1) 25 3 t F.len (F.top.flatMap trC) ∧ TyL B wr F ∧ F.wf ∧ pre ++ vst l F = vst l F0 ∧ J pre wr ∧ Below B w wr ∧ w.heap.size + 1 ≤ wr.heap.size
set_option maxHeartbeats 4000000 in
set_option maxRecDepth 100000 in
theorem each_bind (w : World) (B : Nat) (hB : B ≤ w.heap.size) (l : List Bnd) (mp : Value) (hm : ∀ W, Below B w W → MapV (mv l) W mp) (gf : Nat) (lb : Array Value) (eg : ∀ args w, (callFunc gf args).run Tryd.prog w = .ok (.enter gf args) w)
    (k n : Int) (u : Sl) (ps : Fo) (hps : TyV B w ps (slv u)) (hs : ps.size < 1000000) (hn : (Lit.int .i64 n).wf = true) (hpw : ps.wf)
    (J : List Tr → World → Prop) (hJ : ∀ pre W W', J pre W → w.heap.size ≤ W.heap.size → Below w.heap.size W W' → J pre W') (h0 : J [] w)
    (hv : ∀ (pre : List Tr) (x : Tr) (W : World), J pre W → Below B w W → w.heap.size ≤ W.heap.size → (Lit.int .i64 x.2.1).wf = true → (∃ r, pre ++ x :: r = vst l (.cons k n u ps .nil)) → Calls Tryd.prog gf (#[trV x] ++ lb) W fun e W' => (∃ v, e = .returned v) ∧ J (pre ++ [x]) W' ∧ Btw B w.heap.size W W') :
    Calls Tryd.prog 43 #[mp, tyVal k n (slv u), .func (.func gf) #[] lb] w fun e w' => (∃ v, e = .returned v) ∧ J (vst l (.cons k n u ps .nil)) w' ∧ Below B w w' ∧ w.heap.size ≤ w'.heap.size := by
  obtain ⟨F0, hF0⟩ : ∃ F0, Fo.cons k n u ps .nil = F0 := ⟨_, rfl⟩
  obtain ⟨u1, u2, u3⟩ := u
  dsimp only [tyVal, slv] at hps ⊢
  obtain ⟨w1, hw1⟩ : ∃ w1, w.alloc (.cells #[.int .i64 k, .int .i64 n, .slice u1 u2 u3] 25) = w1 := ⟨_, rfl⟩
  obtain ⟨w2, hw2⟩ : ∃ w2, w1.alloc (.cells #[.int .i64 k, .int .i64 n, .slice u1 u2 u3] 25) = w2 := ⟨_, rfl⟩
  have hb1 : Below w.heap.size w w1 := by rw [← hw1]; exact (Below.refl _ _).alloc (Nat.le_refl _) _
  have hs1 : w1.heap.size = w.heap.size + 1 := by rw [← hw1]; simp
  have hb2 : Below w.heap.size w w2 := by rw [← hw2]; exact hb1.alloc (by omega) _
  have hB1 : w1.heap[w.heap.size]? = some (.cells #[.int .i64 k, .int .i64 n, .slice u1 u2 u3] 25) := by rw [← hw1]; exact heap_alloc_new _ _
  have hB2 : w2.heap[w1.heap.size]? = some (.cells #[.int .i64 k, .int .i64 n, .slice u1 u2 u3] 25) := by rw [← hw2]; exact heap_alloc_new _ _
  have c0 : w1.cell? ⟨w.heap.size, 0, none⟩ = some (.int .i64 k) := cell_of_row w1 _ 0 _ _ (0, 0) hB1
  have c1 : w1.cell? ⟨w.heap.size, 1, none⟩ = some (.int .i64 n) := cell_of_row w1 _ 1 _ _ (0, 0) hB1
  have c2 : w1.cell? ⟨w.heap.size, 2, none⟩ = some (.slice u1 u2 u3) := cell_of_row w1 _ 2 _ _ (0, 0) hB1
  have hinv : EaInv l J w B F0 (.slice (some ⟨w1.heap.size, 0, none⟩) 1 1) w2 (1 + ps.size) := by
    refine ⟨F0, [], by rw [← hF0]; simp [Fo.size], by omega, ?_, ?_, by rw [← hF0]; exact ⟨hn, hpw, trivial⟩, rfl, hJ _ _ _ h0 (Nat.le_refl _) hb2, hb2.mono hB, by rw [← hw2]; simp; omega⟩
    · rw [← hF0]; exact own_one (u := (u1, u2, u3)) (by omega) hB2 ps
    · rw [← hF0]; exact ⟨hps.below (hb2.mono hB), trivial⟩
  rw [hF0] at hv ⊢
  have HI := Lib.hid hinv
  have HM := Lib.hid hm
  have HJ := Lib.hid hJ
  have HV := Lib.hid hv
  have HW2 := Lib.hid hw2
  have HS1 := Lib.hid hs1
  clear hinv hm hJ h0 hv hps hb1 hb2 hB1 hB2 hF0 hw2 hs1
  go_enter Tryd.func43, Tryd.ntmps43
  go_wp2_with fail
  rw [HW2.out]
  go_loopw [6] (fun t6 wr => ∃ s, EaInv l J w B F0 t6 wr s) (fun t6 wr => least (EaInv l J w B F0 t6 wr))
  case atStart => exact ⟨_, HI.out⟩
  case round =>
    obtain ⟨s, hs⟩ := hrel
    obtain ⟨⟨F, pre, hFs, hsm, hown, hTL, hFw, hpre, hj, hb, hsz⟩, _⟩ := least_of hs
    have hsF6 : F.size ≤ 1000000 := by rw [hFs]; exact hsm
    have HFS := Lib.hid hFs
    clear hs hFs hsm
    rcases Nat.eq_zero_or_pos F.len with hz0 | hz0
    · have hFn : F = .nil := by cases F with
        | nil => rfl
        | cons => simp [Fo.len] at hz0
      subst hFn
      obtain ⟨A, c, rfl, _, _⟩ := own_form hown
      have hpv : pre = vst l F0 := by simpa [vst] using hpre
      subst hpv
      have HF := Lib.hid (And.intro hj (And.intro hb (Nat.le_trans (Nat.le_succ _) hsz)))
      clear hj hb hown hTL hpre hFw
      dsimp only [Fo.len]
      go_wp2_with fail
      go_end0
      exact ⟨⟨_, rfl⟩, HF.out⟩
    · obtain ⟨q, hq⟩ : ∃ q, F.len = q + 1 := ⟨F.len - 1, by omega⟩
      obtain ⟨a, ca, rfl, ha1, ha2⟩ := own_shape hown hz0
      obtain ⟨F', fk, fn, ⟨f1, f2, f3⟩, fps, hFe, hFl⟩ := F.last q hq
      subst hFe
      rw [hq] at hown HFS ⊢
      obtain ⟨e0, e1, e2, ownF⟩ := last_cells hFl hown
      rw [hFl] at ownF
      obtain ⟨hT1, hT2⟩ := hTL.unapp
      have hsF : (F'.app (.cons fk fn (f1, f2, f3) fps .nil)).size = F'.size + (1 + fps.size) := by rw [Fo.size_app]; simp [Fo.size]
      have hlf := fps.len_le_size
      have hln : f2 = fps.len := TyV.len (u := (f1, f2, f3)) hT2.1
      subst hln
      have hFw2 : F'.wf ∧ (Lit.int .i64 fn).wf = true ∧ fps.wf := by
        have : ∀ f g : Fo, (f.app g).wf → f.wf ∧ g.wf := fun f g => by
          induction f with
          | nil => exact fun h => ⟨trivial, h⟩
          | cons k n u ps r _ ih => exact fun h => ⟨⟨h.1, h.2.1, (ih h.2.2).1⟩, (ih h.2.2).2⟩
        have := this _ _ hFw
        exact ⟨this.1, this.2.1, this.2.2.1⟩
      have hvs : vst l (F'.app (.cons fk fn (f1, fps.len, f3) fps .nil)) = (fk, fn, (f1, fps.len, f3)) :: ((if hasS l fk fn then [] else vst l fps) ++ vst l F') := by
        rw [vst_app]; simp [vst]
      rw [hvs] at hpre
      have hql : q ≤ 1000000 := by have := (F'.app (.cons fk fn (f1, fps.len, f3) fps .nil)).len_le_size; omega
      -- the box of the last one
      obtain ⟨w4, hw4⟩ : ∃ w4, wr.alloc (.cells #[.int .i64 fk, .int .i64 fn, .slice f1 fps.len f3] 25) = w4 := ⟨_, rfl⟩
      have hb4 : Below wr.heap.size wr w4 := by rw [← hw4]; exact (Below.refl _ _).alloc (Nat.le_refl _) _
      have hs4 : w4.heap.size = wr.heap.size + 1 := by rw [← hw4]; simp
      have hB4 : w4.heap[wr.heap.size]? = some (.cells #[.int .i64 fk, .int .i64 fn, .slice f1 fps.len f3] 25) := by rw [← hw4]; exact heap_alloc_new _ _
      have d0 : w4.cell? ⟨wr.heap.size, 0, none⟩ = some (.int .i64 fk) := cell_of_row w4 _ 0 _ _ (0, 0) hB4
      have d1 : w4.cell? ⟨wr.heap.size, 1, none⟩ = some (.int .i64 fn) := cell_of_row w4 _ 1 _ _ (0, 0) hB4
      have d2 : w4.cell? ⟨wr.heap.size, 2, none⟩ = some (.slice f1 fps.len f3) := cell_of_row w4 _ 2 _ _ (0, 0) hB4
      have hj4 : J pre w4 := HJ.out _ _ _ hj (by omega) (hb4.mono (by omega))
      have hbw4 : Below B w w4 := hb.trans (hb4.mono (by omega))
      have hcall := HV.out pre (fk, fn, (f1, fps.len, f3)) w4 hj4 hbw4 (by omega) hFw2.2.1 ⟨_, hpre⟩
      have hcp : q + 1 ≤ ca := by
        obtain ⟨_, _, hv, h1, _⟩ := own_form hown
        injection hv with _ _ h3
        omega
      have hz : decide ((q : Int) ≤ (ca : Int)) = true := by simp; omega
      have hz0' : (0 : Int) ≤ (q : Int) := by omega
      have HC := Lib.hid hcall
      have HO := Lib.hid (ownF.kept (bel_grown hb4) (.inr (by simp [Value.ownBlock])))
      have HT := Lib.hid (And.intro (hT1.below (hb4.mono (by omega))) (hT2.1.below (hb4.mono (by omega))))
      have HPRE := Lib.hid hpre
      have HBW := Lib.hid hbw4
      have HBX := Lib.hid hB4
      have HS4 := Lib.hid hs4
      have HSF := Lib.hid hsF
      have HFW := Lib.hid hFw2
      have HFL := Lib.hid hFl
      have hq1 : ((q + 1 : Nat) : Int) - 1 = (q : Int) := by omega
      clear hcall ownF hT1 hT2 hTL hpre hbw4 hB4 hs4 hb4 hsF hFw hFw2 hFl hown hj hj4 hb hvs hq hz0
      dsimp only [trV, slv] at HC e2
      generalize wr = wo at *
      go_wp2_with fail
      go_at_fn gf
      refine HC.out.mono ?_
      clear HC
      rintro e w5 ⟨⟨v5, rfl⟩, hj5, hbt⟩
      have hso : w.heap.size + 1 ≤ wo.heap.size := hsz
      have k5 : w5.heap[wo.heap.size]? = some (.cells #[.int .i64 fk, .int .i64 fn, .slice f1 fps.len f3] 25) := (hbt.block _ (.inr (by omega)) (by have := HS4.out; omega)).trans HBX.out
      have g0 : w5.cell? ⟨wo.heap.size, 0, none⟩ = some (.int .i64 fk) := cell_of_row w5 _ 0 _ _ (0, 0) k5
      have g1 : w5.cell? ⟨wo.heap.size, 1, none⟩ = some (.int .i64 fn) := cell_of_row w5 _ 1 _ _ (0, 0) k5
      have g2 : w5.cell? ⟨wo.heap.size, 2, none⟩ = some (.slice f1 fps.len f3) := cell_of_row w5 _ 2 _ _ (0, 0) k5
      have hB5 : B ≤ w4.heap.size := by have := HS4.out; omega
      have hb5 := HBW.out.trans (hbt.below hB5)
      have hhas := has_bind w5 l mp (HM.out w5 hb5) fk fn (f1, fps.len, f3) HFW.out.2.1
      have O5 := Lib.hid (hbt.row (by omega) HO.out)
      have T5 := Lib.hid (And.intro (HT.out.1.below (hbt.below hB5)) (HT.out.2.below (hbt.below hB5)))
      have HB5 := Lib.hid hb5
      have HJ5 := Lib.hid hj5
      have HZ5 := Lib.hid (Nat.le_trans (by have := HS4.out; omega : w.heap.size + 1 ≤ w4.heap.size) hbt.size)
      have HK5 := Lib.hid (And.intro k5 (Nat.lt_of_lt_of_le (by have := HS4.out; omega : wo.heap.size < w4.heap.size) hbt.size))
      have HH := Lib.hid hhas
      clear hhas hj5 hbt k5 hb5 hB5 d0 d1 d2 HO HT HBW HBX hw4
      dsimp only [tyVal, slv] at HH
      go_wp2_with fail
      refine HH.out.mono ?_
      clear HH
      rintro e w6 ⟨rfl, hb6⟩
      have i2 : w6.cell? ⟨wo.heap.size, 2, none⟩ = some (.slice f1 fps.len f3) := (hb6.cell (p := ⟨wo.heap.size, 2, none⟩) HK5.out.2).trans g2
      have hj6 := HJ.out _ _ _ HJ5.out (by have := HZ5.out; omega) (hb6.mono (by have := HZ5.out; omega))
      have hbB6 : Below B w5 w6 := hb6.mono (by have := HZ5.out; omega)
      have hb06 := HB5.out.trans hbB6
      have o6 := O5.out.kept (bel_grown hb6) (.inr (by simp [Value.ownBlock]))
      have hz6 : w.heap.size + 1 ≤ w6.heap.size := Nat.le_trans HZ5.out hb6.size
      have hF1 := T5.out.1.below hbB6
      have hF2 := T5.out.2.below hbB6
      have hpre := HPRE.out
      clear g0 g1 g2 O5 T5 HJ5 HK5
      cases hh : (fk == 1 && (fnd l fn).isSome)
      · have hhs : hasS l fk fn = false := hh
        rw [hhs] at hpre
        simp only [Bool.false_eq_true, if_false] at hpre
        obtain ⟨v7, w7, hrun, o7, b7, g7, _⟩ := app_ty w6 (w.heap.size + 1) (.slice (some ⟨a, 0, none⟩) q ca) F' (by rw [HFL.out]; exact o6) (.slice f1 fps.len f3) fps (TyV.rd3 (by omega) hF2) (by have := HFL.out; have := HSF.out; omega) hz6
        have hfin : EaInv l J w B F0 v7 w7 (F'.size + fps.size) := by
          have hb7 : Below w.heap.size w6 w7 := b7.mono (by omega)
          refine ⟨F'.app fps, pre ++ [(fk, fn, (f1, fps.len, f3))], by rw [Fo.size_app], by have := HSF.out; omega, o7, (hF1.below (hb7.mono hB)).app ((TyV.list hF2).below (hb7.mono hB)), Fo.wf_app HFW.out.1 HFW.out.2.2, ?_, HJ.out _ _ _ hj6 (by omega) hb7, hb06.trans (hb7.mono hB), Nat.le_trans hz6 b7.size⟩
          rw [vst_app, List.append_assoc]
          exact hpre
        have HF := Lib.hid hfin
        clear hfin o7 b7 g7 o6 hF1 hF2 hb06 hbB6 hj6 hb6 hh hhs hpre hz6
        go_wp2_with fail
        go_roundw
        case rel => exact ⟨_, HF.out⟩
        case measure =>
          have h1 := HFS.out
          have h2 := HSF.out
          refine Nat.lt_of_lt_of_le (Nat.lt_of_le_of_lt (least_of HF.out).2 ?_) (Nat.le_of_eq h1)
          omega
      · have hhs : hasS l fk fn = true := hh
        rw [hhs] at hpre
        simp only [if_true, List.nil_append] at hpre
        have hfin : EaInv l J w B F0 (.slice (some ⟨a, 0, none⟩) q ca) w6 F'.size := by
          refine ⟨F', pre ++ [(fk, fn, (f1, fps.len, f3))], rfl, by have := HSF.out; omega, by rw [HFL.out]; exact o6, hF1, HFW.out.1, ?_, hj6, hb06, hz6⟩
          rw [List.append_assoc]
          exact hpre
        have HF := Lib.hid hfin
        clear hfin o6 hF1 hF2 hb06 hbB6 hj6 hb6 hh hhs hpre hz6
        go_wp2_with fail
        go_roundw
        case rel => exact ⟨_, HF.out⟩
        case measure =>
          have h1 := HFS.out
          have h2 := HSF.out
          refine Nat.lt_of_lt_of_le (Nat.lt_of_le_of_lt (least_of HF.out).2 ?_) (Nat.le_of_eq h1)
          omega
end Go.Proofs.YtifdbmdfkhnojaaDoor
/- Size of what comes of a type. -/
namespace Go.Proofs.YtifdbmdfkhnojaaDoor
open Go.RowKit Go.Shelf Go.Maps Go.WideShapes
/-- How many have no bind; how many are this one's. -/
def dirN (l : List Bnd) (V : List Tr) : Nat := (V.filter fun x => !hasS l x.1 x.2.1).length
def oft (l : List Bnd) (V : List Tr) (v : Int) : Nat := (V.filter fun x => hasS l x.1 x.2.1 && decide (x.2.1 = v)).length
theorem dirN_snoc (l : List Bnd) (V : List Tr) (x : Tr) : dirN l (V ++ [x]) = dirN l V + (if hasS l x.1 x.2.1 then 0 else 1) := by
  unfold dirN
  rw [List.filter_append]
  cases h : hasS l x.1 x.2.1 <;> simp [h]
theorem oft_snoc (l : List Bnd) (V : List Tr) (x : Tr) (v : Int) : oft l (V ++ [x]) v = oft l V v + (if hasS l x.1 x.2.1 && decide (x.2.1 = v) then 1 else 0) := by
  unfold oft
  rw [List.filter_append]
  cases h : (hasS l x.1 x.2.1 && decide (x.2.1 = v)) <;> simp [h]
theorem dirN_le (l : List Bnd) (V : List Tr) : dirN l V ≤ V.length := List.length_filter_le _ _
theorem oft_le (l : List Bnd) (V : List Tr) (v : Int) : oft l V v ≤ V.length := List.length_filter_le _ _
/-- So great is what becomes of the variables that have these binds. -/
def accN (l c : List Bnd) (V : List Tr) : Nat := (c.map fun b => oft l V b.1 * (1 + b.2.2.2.2.size)).sum
/-- What one becomes. -/
def wgt (l : List Bnd) (x : Tr) : Nat := if hasS l x.1 x.2.1 then (match fnd l x.2.1 with | some b => 1 + b.2.2.2.2.size | none => 0) else 1
theorem sum_one (c : List Bnd) (hc : c.Pairwise (fun x y => x.1 ≠ y.1)) (v : Int) (f : Bnd → Nat) : (c.map fun b => if b.1 = v then f b else 0).sum = match fnd c v with | some b => f b | none => 0 := by
  induction hc with
  | nil => rfl
  | @cons d c hd hc ih =>
    simp only [List.map_cons, List.sum_cons, fnd]
    by_cases e : d.1 = v
    · have : (c.map fun b => if b.1 = v then f b else 0).sum = 0 := by
        have hz : (c.map fun b => if b.1 = v then f b else 0) = c.map fun _ => 0 := List.map_congr_left fun b hb => if_neg fun h => hd b hb (e.trans h.symm)
        rw [hz]
        clear hz ih hc hd
        induction c with
        | nil => rfl
        | cons _ _ i2 => simpa using i2
      simp [e, this]
    · simp [e, ih]
theorem acc_snoc (l c : List Bnd) (V : List Tr) (x : Tr) : accN l c (V ++ [x]) = accN l c V + (if hasS l x.1 x.2.1 then (c.map fun b => if b.1 = x.2.1 then 1 + b.2.2.2.2.size else 0).sum else 0) := by
  unfold accN
  cases h : hasS l x.1 x.2.1
  · have : ∀ v, oft l (V ++ [x]) v = oft l V v := fun v => by rw [oft_snoc, h]; simp
    simp [this]
  · simp only [if_true]
    induction c with
    | nil => rfl
    | cons b c ih =>
      simp only [List.map_cons, List.sum_cons]
      rw [ih]
      have h1 : oft l (V ++ [x]) b.1 * (1 + b.2.2.2.2.size) = oft l V b.1 * (1 + b.2.2.2.2.size) + (if b.1 = x.2.1 then 1 + b.2.2.2.2.size else 0) := by
        rw [oft_snoc, h, Bool.true_and]
        by_cases e : b.1 = x.2.1
        · rw [if_pos e, decide_eq_true e.symm, if_pos rfl, Nat.add_mul, Nat.one_mul]
        · rw [if_neg e, decide_eq_false (fun h => e h.symm)]
          simp
      rw [h1]
      omega
theorem tot (l : List Bnd) (V : List Tr) : dirN l V + accN l (cnt l) V = (V.map (wgt l)).sum := by
  have key : ∀ W : List Tr, dirN l W.reverse + accN l (cnt l) W.reverse = (W.map (wgt l)).sum := by
    intro W
    induction W with
    | nil =>
      simp only [List.reverse_nil, List.map_nil, List.sum_nil]
      have : accN l (cnt l) [] = 0 := by
        unfold accN
        induction cnt l with
        | nil => rfl
        | cons b c ih => simpa [oft] using ih
      rw [this]; rfl
    | cons x W ih =>
      rw [List.reverse_cons, dirN_snoc, acc_snoc, List.map_cons, List.sum_cons, sum_one _ (cnt_nd l), fnd_cnt]
      unfold wgt at ih ⊢
      cases h : hasS l x.1 x.2.1
      · simp; omega
      · simp; omega
  have := key V.reverse
  rw [List.reverse_reverse, List.map_reverse, List.sum_reverse] at this
  exact this
theorem wgt_vst (l : List Bnd) (f : Fo) : ((vst l f).map (wgt l)).sum = (f.sub (sg l)).size := by
  induction f with
  | nil => rfl
  | cons k n u ps r i1 i2 =>
    simp only [vst, List.map_append, List.map_cons, List.sum_append, List.sum_cons, i2]
    cases hh : hasS l k n
    · have h1 : k = 1 → sg l n = none := fun hk => by
        unfold hasS at hh
        subst hk
        unfold sg
        cases hf : fnd l n with
        | none => rfl
        | some b => rw [hf] at hh; simp at hh
      rw [Fo.sub_not h1]
      simp only [Bool.false_eq_true, if_false, i1, Fo.size, wgt, hh]
      omega
    · unfold hasS at hh
      simp only [Bool.and_eq_true, beq_iff_eq] at hh
      obtain ⟨rfl, hs⟩ := hh
      cases hf : fnd l n with
      | none => rw [hf] at hs; cases hs
      | some b =>
        have hx : sg l n = some (b.2.1, b.2.2.1, b.2.2.2.2.pure) := by unfold sg; rw [hf]; rfl
        have hh2 : hasS l 1 n = true := by unfold hasS; rw [hf]; rfl
        rw [Fo.sub_has rfl hx]
        simp only [if_true, List.map_nil, List.sum_nil, Fo.size, Fo.pure_size, wgt, hh2, hf]
        omega
/-- How often each was met, as a map tells it. -/
def oftM (l : List Bnd) (V : List Tr) : Int → Option Value := fun v => if oft l V v = 0 then none else some (.int .i64 (oft l V v))
theorem oftM_getD (l : List Bnd) (V : List Tr) (v : Int) : (oftM l V v).getD (.int .i64 0) = .int .i64 (oft l V v) := by
  unfold oftM
  split
  · rename_i h; rw [h]; rfl
  · rfl
theorem oftM_has (l : List Bnd) (V : List Tr) (x : Tr) (h : hasS l x.1 x.2.1 = true) (v : Int) : oftM l (V ++ [x]) v = upd (oftM l V) x.2.1 (.int .i64 ((oft l V x.2.1 : Int) + 1)) v := by
  unfold oftM upd
  rw [oft_snoc, h]
  by_cases e : v = x.2.1
  · subst e; simp
  · simp [e, Ne.symm e]
theorem oftM_not (l : List Bnd) (V : List Tr) (x : Tr) (h : hasS l x.1 x.2.1 = false) (v : Int) : oftM l (V ++ [x]) v = oftM l V v := by
  unfold oftM
  rw [oft_snoc, h]; simp
theorem zeroI (w : World) : (zeroValue 3).run Tryd.prog w = .ok (.int .i64 0) w := by kernel_rfl
theorem intsTy : MapTy 64 3 (.int .i64 0) := ⟨Tryd.underlying64, zeroI⟩
/-- What the visitor keeps. -/
structure SzJ (l : List Bnd) (B H bm bM bO bS bo : Nat) (pre : List Tr) (W : World) : Prop where
  m : Boxed W bM 56 (.map (some bm))
  o : Boxed W bO 64 (.map (some bo))
  s : Boxed W bS 3 (.int .i64 (dirN l pre))
  oft : ∃ S, MapF (oftM l pre) S pre.length bo W
  mv : MapV (mv l) W (.map (some bm))
  bm : bm < B
  le : B ≤ bM ∧ B ≤ bO ∧ B ≤ bS ∧ B ≤ bo ∧ bM < H ∧ bO < H ∧ bS < H ∧ bo < H
  ne : bM ≠ bO ∧ bM ≠ bS ∧ bO ≠ bS ∧ bM ≠ bo ∧ bO ≠ bo ∧ bS ≠ bo
theorem MapV.blk {f : Int → Option Value} {w w' : World} {bm : Nat} (h : MapV f w (.map (some bm))) (hb : w'.heap[bm]? = w.heap[bm]?) : MapV f w' (.map (some bm)) := by
  rcases h with ⟨h, _⟩ | ⟨b, S, L, h1, h2⟩
  · cases h
  · injection h1 with h1
    injection h1 with h1
    subst h1
    exact .inr ⟨bm, S, L, rfl, h2.block hb⟩
theorem SzJ.below {l : List Bnd} {B H bm bM bO bS bo : Nat} {pre : List Tr} {W W' : World} (h : SzJ l B H bm bM bO bS bo pre W) (hb : Below H W W') (hBH : B ≤ H) : SzJ l B H bm bM bO bS bo pre W' := by
  obtain ⟨l1, l2, l3, l4, l5, l6, l7, l8⟩ := h.le
  refine ⟨(hb.block _ l5).trans h.m, (hb.block _ l6).trans h.o, (hb.block _ l7).trans h.s, ?_, h.mv.blk (hb.block _ (by have := h.bm; omega)), h.bm, h.le, h.ne⟩
  obtain ⟨S, hS⟩ := h.oft
  exact ⟨S, hS.block (hb.block _ l8)⟩
set_option maxHeartbeats 2000000 in
set_option maxRecDepth 100000 in
theorem visit_size (l : List Bnd) (B H bm bM bO bS bo : Nat) (hBH : B ≤ H) (pre : List Tr) (hpl : pre.length ≤ 1000000) (x : Tr) (hx : (Lit.int .i64 x.2.1).wf = true) (W : World) (hHW : H ≤ W.heap.size) (hj : SzJ l B H bm bM bO bS bo pre W) :
    Calls Tryd.prog 44 (#[trV x] ++ #[.pointer (some ⟨bM, 0, none⟩), .pointer (some ⟨bO, 0, none⟩), .pointer (some ⟨bS, 0, none⟩)]) W fun e W' => (∃ v, e = .returned v) ∧ SzJ l B H bm bM bO bS bo (pre ++ [x]) W' ∧ Btw B H W W' := by
  obtain ⟨k, n, u1, u2, u3⟩ := x
  simp only [Array.append_eq_append, List.append_toArray, List.cons_append, List.nil_append]
  dsimp only [trV, slv] at hx ⊢
  obtain ⟨W1, hW1⟩ : ∃ W1, W.alloc (.cells #[.int .i64 k, .int .i64 n, .slice u1 u2 u3] 25) = W1 := ⟨_, rfl⟩
  have hb1 : Below W.heap.size W W1 := by rw [← hW1]; exact (Below.refl _ _).alloc (Nat.le_refl _) _
  have hs1 : W1.heap.size = W.heap.size + 1 := by rw [← hW1]; simp
  have hB1 : W1.heap[W.heap.size]? = some (.cells #[.int .i64 k, .int .i64 n, .slice u1 u2 u3] 25) := by rw [← hW1]; exact heap_alloc_new _ _
  have e0 : W1.cell? ⟨W.heap.size, 0, none⟩ = some (.int .i64 k) := cell_of_row W1 _ 0 _ _ (0, 0) hB1
  have e1 : W1.cell? ⟨W.heap.size, 1, none⟩ = some (.int .i64 n) := cell_of_row W1 _ 1 _ _ (0, 0) hB1
  have e2 : W1.cell? ⟨W.heap.size, 2, none⟩ = some (.slice u1 u2 u3) := cell_of_row W1 _ 2 _ _ (0, 0) hB1
  have hj1 := hj.below (hb1.mono hHW) hBH
  have m1 := hj1.m.cell
  have hhas := has_bind W1 l _ hj1.mv k n (u1, u2, u3) hx
  have HJ1 := Lib.hid hj1
  have HB1 := Lib.hid hb1
  have HH := Lib.hid hhas
  have HBX := Lib.hid hB1
  have HS1 := Lib.hid hs1
  clear hj hj1 hhas hb1 hB1 hs1
  dsimp only [tyVal, slv] at HH
  go_enter Tryd.func44, Tryd.ntmps44
  go_wp2_with fail
  refine HH.out.mono ?_
  clear HH
  rintro e W2 ⟨rfl, hb2⟩
  have hs1 := HS1.out
  have hj2 := HJ1.out.below (hb2.mono (by omega)) hBH
  have hb02 := HB1.out.trans (hb2.mono (by omega))
  have g1 : W2.cell? ⟨W.heap.size, 1, none⟩ = some (.int .i64 n) := (hb2.cell (p := ⟨W.heap.size, 1, none⟩) (by show W.heap.size < W1.heap.size; omega)).trans e1
  have m2 := hj2.o.cell
  have m3 := hj2.s.cell
  have m4 := hj2.s.frozen
  obtain ⟨S, hof⟩ := hj2.oft
  have hbt : Btw B H W W2 := Btw.of_below hb02
  obtain ⟨l1, l2, l3, l4, l5, l6, l7, l8⟩ := hj2.le
  obtain ⟨n1, n2, n3, n4, n5, n6⟩ := hj2.ne
  have hbm := hj2.bm
  cases hh : (k == 1 && (fnd l n).isSome)
  · have hhs : hasS l k n = false := hh
    have hdl := dirN_le l pre
    have hfin : SzJ l B H bm bM bO bS bo (pre ++ [(k, n, u1, u2, u3)]) (W2.setCell ⟨bS, 0, none⟩ (.int .i64 ((dirN l pre : Int) + 1))) ∧ Btw B H W (W2.setCell ⟨bS, 0, none⟩ (.int .i64 ((dirN l pre : Int) + 1))) := by
      have hset : ∀ b, b ≠ bS → (W2.setCell ⟨bS, 0, none⟩ (.int .i64 ((dirN l pre : Int) + 1))).heap[b]? = W2.heap[b]? := fun b hb => Below.heap_setCell _ _ _ _ hb
      refine ⟨⟨(hset _ n2).trans hj2.m, (hset _ n3).trans hj2.o, ?_, ⟨S, ?_⟩, hj2.mv.blk (hset _ (by omega)), hj2.bm, hj2.le, hj2.ne⟩, hbt.trans ⟨rfl, rfl, rfl, by simp [World.setCell], fun b hb hl => hset b (by omega)⟩⟩
      · have := hj2.s.set (.int .i64 ((dirN l pre : Int) + 1))
        rw [dirN_snoc]
        simp only [hhs, Bool.false_eq_true, if_false]
        exact_mod_cast this
      · exact ((hof.block (hset _ n6.symm)).ext fun v _ => (oftM_not l pre (k, n, u1, u2, u3) hhs v).symm).le (by simp)
    have hwr : IntKind.i64.wrap ((dirN l pre : Int) + 1) = (dirN l pre : Int) + 1 := IntWalk.i64_in _ (by omega)
    have HF := Lib.hid hfin
    clear hfin hof hbt hj2 hb02 hb2 hh hhs
    go_wp2_with fail
    go_end0
    exact ⟨⟨_, rfl⟩, HF.out⟩
  · have hhs : hasS l k n = true := hh
    have hlk := hof.look intsTy n hx
    rw [oftM_getD] at hlk
    have hol := oft_le l pre n
    obtain ⟨W3, run1, p1, p2, p3, p4⟩ := hof.put intsTy (by omega) n hx (.int .i64 ((oft l pre n : Int) + 1))
    have hwr : IntKind.i64.wrap ((oft l pre n : Int) + 1) = (oft l pre n : Int) + 1 := IntWalk.i64_in _ (by omega)
    have hfin : SzJ l B H bm bM bO bS bo (pre ++ [(k, n, u1, u2, u3)]) W3 ∧ Btw B H W W3 := by
      refine ⟨⟨(p3 _ n4).trans hj2.m, (p3 _ n5).trans hj2.o, ?_, ⟨_, (p1.ext fun v _ => (oftM_has l pre (k, n, u1, u2, u3) hhs v).symm).le (by simp)⟩, hj2.mv.blk (p3 _ (by omega)), hj2.bm, hj2.le, hj2.ne⟩, hbt.trans ⟨p2.os, p2.tape, p2.output, by omega, fun b hb hl => p3 b (by omega)⟩⟩
      rw [dirN_snoc]
      simp only [hhs, if_true, Nat.add_zero]
      exact (p3 _ n6).trans hj2.s
    have HF := Lib.hid hfin
    clear hfin hof hbt hj2 hb02 hb2 hh hhs p1 p2 p3 p4
    go_wp2_with fail
    go_end0
    exact ⟨⟨_, rfl⟩, HF.out⟩
end Go.Proofs.YtifdbmdfkhnojaaDoor
