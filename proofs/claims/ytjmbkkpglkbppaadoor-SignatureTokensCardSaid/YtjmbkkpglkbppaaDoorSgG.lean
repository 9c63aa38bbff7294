/- signature: the reader's first. -/
import Derived.Test.YtjmbkkpglkbppaaDoorSgF
import Derived.Deep.DeepCutAuto
namespace Go.Proofs.YtjmbkkpglkbppaaDoor
open Go.RowKit

/-- What the tokens are. -/
def sgOf (ts : List TV) (i : Int) : Nat := if seesB ts i [40] = true then 1 else if seesB ts i [41] = true then 2 else if seesB ts i [42] = true then 3 else if seesB ts i [45, 62] = true then 4 else 0
def tkOf (bsF : TV → Option (Int × Int)) (ts : List TV) : Tk := ⟨sgOf ts, fun i => bsF (tokAt ts i)⟩
theorem sees_in {ts : List TV} {i : Int} {x : List UInt8} (h : seesB ts i x = true) : 0 ≤ i ∧ i < ts.length := by
  by_cases h1 : i < 0 ∨ (ts.length : Int) ≤ i
  · unfold seesB at h
    rw [tokAt_out ts i h1] at h
    simp at h
  · omega
theorem sees_one {ts : List TV} {i : Int} {x y : List UInt8} (h : seesB ts i x = true) (h' : seesB ts i y = true) : x = y := by
  unfold seesB at h h'
  simp only [Bool.and_eq_true, beq_iff_eq] at h h'
  exact h.2.symm.trans h'.2
theorem sg1 (ts : List TV) (i : Int) : sgOf ts i = 1 ↔ seesB ts i [40] = true := by
  unfold sgOf
  constructor
  · intro h
    by_cases h1 : seesB ts i [40] = true
    · exact h1
    · rw [if_neg h1] at h
      repeat' split at h
      all_goals simp at h
  · intro h; rw [if_pos h]
theorem sg2 (ts : List TV) (i : Int) : sgOf ts i = 2 ↔ seesB ts i [41] = true := by
  unfold sgOf
  constructor
  · intro h
    by_cases h1 : seesB ts i [41] = true
    · exact h1
    · rw [if_neg h1] at h
      repeat' split at h
      all_goals simp at h
  · intro h
    rw [if_neg (fun h1 => by have := sees_one h h1; simp at this), if_pos h]
theorem sg3 (ts : List TV) (i : Int) : sgOf ts i = 3 ↔ seesB ts i [42] = true := by
  unfold sgOf
  constructor
  · intro h
    by_cases h1 : seesB ts i [42] = true
    · exact h1
    · rw [if_neg h1] at h
      repeat' split at h
      all_goals simp at h
  · intro h
    rw [if_neg (fun h1 => by have := sees_one h h1; simp at this), if_neg (fun h1 => by have := sees_one h h1; simp at this), if_pos h]
theorem sg4 (ts : List TV) (i : Int) : sgOf ts i = 4 ↔ seesB ts i [45, 62] = true := by
  unfold sgOf
  constructor
  · intro h
    by_cases h1 : seesB ts i [45, 62] = true
    · exact h1
    · rw [if_neg h1] at h
      repeat' split at h
      all_goals simp at h
  · intro h
    rw [if_neg (fun h1 => by have := sees_one h h1; simp at this), if_neg (fun h1 => by have := sees_one h h1; simp at this), if_neg (fun h1 => by have := sees_one h h1; simp at this), if_pos h]
/-- What the reader is given: tokens, and a function that tells of each which type it stands for. -/
structure Given (w0 : World) (tv : Value) (ts : List TV) (gf : Nat) (lb : Array Value) (bsF : TV → Option (Int × Int)) (w : World) : Prop where
  toks : RdT w tv ts
  few : ts.length ≤ 1000000
  ends : bsF (0, ⟨#[]⟩, 0, 0) = none
  enters : ∀ args w, (callFunc gf args).run Tryd.prog w = .ok (.enter gf args) w
  says : ∀ (t : TV) (W : World), Below w0.heap.size w0 W → Calls Tryd.prog gf (#[tokV t] ++ lb) W fun e w' => e = .returned (bsV (bsF t)) ∧ Below W.heap.size W w'
theorem Given.below {w0 : World} {tv : Value} {ts : List TV} {gf : Nat} {lb : Array Value} {bsF : TV → Option (Int × Int)} {w w' : World} (h : Given w0 tv ts gf lb bsF w) (hs : w.heap.size ≤ w'.heap.size) (hk : ∀ b off, b < w.heap.size → w'.cell? ⟨b, off, none⟩ = w.cell? ⟨b, off, none⟩) : Given w0 tv ts gf lb bsF w' :=
  ⟨h.toks.keep hs hk, h.few, h.ends, h.enters, h.says⟩
def LenOk (ms : List MF) (i : Int) : Prop := ms = [] ∨ (ms.length : Int) ≤ i
def atOf (rb : Nat) (w : World) : Int := match w.cell? ⟨rb, 1, none⟩ with | some (.int _ i) => i | _ => 0
theorem St.atOf {w0 : World} {X : List Nat} {rb : Nat} {tv : Value} {most : Int} {bf : Value} {i lev : Int} {ms : List MF} {w : World} (h : St w0 X rb tv most bf i lev ms w) : Go.Proofs.YtjmbkkpglkbppaaDoor.atOf rb w = i := by
  obtain ⟨av, h1, _⟩ := h.own
  unfold Go.Proofs.YtjmbkkpglkbppaaDoor.atOf
  rw [h1.cells.2.1]
/-- The place, moved on. -/
theorem St.at_ {w0 : World} {X : List Nat} {rb : Nat} {tv : Value} {most : Int} {bf : Value} {i lev : Int} {ms : List MF} {w : World} (h : St w0 X rb tv most bf i lev ms w) (i' : Int) : St w0 X rb tv most bf i' lev ms (w.setCell ⟨rb, 1, none⟩ (.int .i64 i')) := by
  obtain ⟨av, h1, h2⟩ := h.own
  have hk : ∀ T, T ≠ 51 → KeepT T w (w.setCell ⟨rb, 1, none⟩ (.int .i64 i')) := fun T hT => keepT_set (h1.notT T hT)
  refine ⟨⟨av, h1.set1 i', row_keepT h2 (hk _ (by decide))⟩, h.fr.keep (hk _ (by decide)), fun b hb => ⟨?_, (h.xs b hb).2⟩, h.nd, h.bel.setCell (p := ⟨rb, 1, none⟩) h.rb_ _, h.rb_⟩
  obtain ⟨⟨cs, hc⟩, _⟩ := h.xs b hb
  exact ⟨cs, (hk _ (by decide)).2 b cs hc⟩
theorem St.rlt {w0 : World} {X : List Nat} {rb : Nat} {tv : Value} {most : Int} {bf : Value} {i lev : Int} {ms : List MF} {w : World} (h : St w0 X rb tv most bf i lev ms w) : rb < w.heap.size := by
  obtain ⟨av, h1, _⟩ := h.own; exact h1.lt
theorem acts_nil (ms : List MF) (ar : Bool) (lev : Int) : acts (ms ++ [⟨ar, lev, (none, 0, 0), []⟩]) = acts ms := by
  rw [acts_app]
  simp [acts, actB, slv, Value.ownBlock]
/-- One more may be begun, without a part. -/
theorem FrI.open_ {T : TypeId} {B : Nat} {A : List Nat} {w : World} {ms : List MF} (h : FrI T B A w ms) (ar : Bool) (lev : Int) : FrI T B A w (ms ++ [⟨ar, lev, (none, 0, 0), []⟩]) := by
  refine ⟨fun m hm => ?_, fun m hm p hp => ?_⟩
  · rcases List.mem_append.1 hm with hm | hm
    · exact h.row m hm
    · obtain rfl := List.mem_singleton.1 hm
      exact ⟨rfl, .inl ⟨rfl, rfl⟩⟩
  · rcases List.mem_append.1 hm with hm | hm
    · exact h.fin m hm p hp
    · obtain rfl := List.mem_singleton.1 hm
      cases hp
/-- What first owes. -/
def FirstPost (S : Tk) (w0 : World) (X : List Nat) (rb : Nat) (tv : Value) (i lev most : Int) (bf : Value) (ms : List MF) (w : World) (e : Ending) (w' : World) : Prop :=
  (∃ (ms' : List MF) (p : Pt) (lev' i' : Int), e = .returned (.tuple #[tyVal p.1 p.2.1 (slv p.2.2.1), .int .i64 0]) ∧ (∀ o, M S most (.behind (ptP p) i' lev' (KK ms')) o → M S most (.first i lev (KK ms)) o) ∧ i < i' ∧ i' ≤ 1000000 ∧ (-9223372036854775808 ≤ lev' ∧ lev' ≤ most) ∧ FrOk most ms' ∧ LenOk ms' i' ∧
    FinT 28 w0.heap.size (X ++ acts ms') w' p.2.2.2 p.2.2.1 ∧ St w0 X rb tv most bf i' lev' ms' w' ∧ Kept X w w') ∨
  (∃ (er i' lev' : Int) (av' : Value), er ≠ 0 ∧ e = .returned (.tuple #[tyVal 0 0 (.slice none 0 0), .int .i64 er]) ∧ M S most (.first i lev (KK ms)) (.err er i') ∧ RdrAt w' rb tv i' lev' most bf av' ∧ Below w0.heap.size w0 w' ∧ Kept X w w')
theorem box_after {w1 w' : World} {g : Nat} {o : Obj} (hb : Below w1.heap.size w1 w') (h : w1.heap[g]? = some o) : w'.heap[g]? = some o := (hb.block g (Array.getElem?_eq_some_iff.1 h).1).trans h
theorem St.sees {w0 : World} {X : List Nat} {rb : Nat} {tv : Value} {most : Int} {bf : Value} {i lev : Int} {ms : List MF} {w : World} {ts : List TV} {gf : Nat} {lb : Array Value} {bsF : TV → Option (Int × Int)} (h : St w0 X rb tv most bf i lev ms w) (hG : Given w0 tv ts gf lb bsF w0) (x : ByteArray) (y : List UInt8) (hxy : x.toList = y) :
    ∀ W, Below w.heap.size w W → Calls Tryd.prog 49 #[.pointer (some ⟨rb, 0, none⟩), .string x] W fun e w' => e = .returned (.bool (seesB ts i y)) ∧ Below W.heap.size W w' := fun W hb => by
  obtain ⟨av, hr, _⟩ := (h.below hb).own
  rw [← hxy]
  exact sees_any W rb tv ts i lev most bf av x hr (hG.toks.below (h.below hb).bel) hG.few
set_option maxRecDepth 100000 in
set_option maxHeartbeats 4000000 in
theorem first_any (w0 w : World) (X : List Nat) (rb : Nat) (tv : Value) (ts : List TV) (gf : Nat) (lb : Array Value) (bsF : TV → Option (Int × Int)) (hG : Given w0 tv ts gf lb bsF w0) (i lev most : Int) (ms : List MF)
    (hs : St w0 X rb tv most (.func (.func gf) #[] lb) i lev ms w) (hok : FrOk most ms) (hlo : LenOk ms i) (hl : -9223372036854775808 ≤ lev ∧ lev ≤ most ∧ most ≤ 9223372036854775807) :
    Calls Tryd.prog 32 #[.pointer (some ⟨rb, 0, none⟩)] w (FirstPost (tkOf bsF ts) w0 X rb tv i lev most (.func (.func gf) #[] lb) ms w) := by
  obtain ⟨w2, hw2⟩ : ∃ w2, w.alloc (.cells #[.int .i64 0, .int .i64 0, .slice none 0 0] 28) = w2 := ⟨_, rfl⟩
  have hbs := hs.bel.size
  have hb2 : Below w.heap.size w w2 := by rw [← hw2]; exact (Below.refl _ _).alloc (Nat.le_refl _) _
  have hr2 : w2.heap[w.heap.size]? = some (Obj.cells (tyC3 (0, 0, (none, 0, 0), .nil)) 28) := by rw [← hw2]; exact heap_alloc_new w _
  have hst2 : St w0 ([w.heap.size] ++ X) rb tv most (.func (.func gf) #[] lb) i lev ms w2 := hs.aside hb2 (by
    intro b hb
    simp only [List.mem_cons, List.not_mem_nil, or_false] at hb
    subst hb
    exact ⟨Nat.le_refl _, _, hr2⟩)
  have hrel : ∃ (ms' : List MF) (lev' i' : Int), (∀ o, M (tkOf bsF ts) most (.first i' lev' (KK ms')) o → M (tkOf bsF ts) most (.first i lev (KK ms)) o) ∧ i ≤ i' ∧ (-9223372036854775808 ≤ lev' ∧ lev' ≤ most) ∧ FrOk most ms' ∧ LenOk ms' i' ∧
      St w0 ([w.heap.size] ++ X) rb tv most (.func (.func gf) #[] lb) i' lev' ms' w2 ∧ Kept X w w2 ∧ w2.heap[w.heap.size]? = some (Obj.cells (tyC3 (0, 0, (none, 0, 0), .nil)) 28) :=
    ⟨ms, lev, i, fun _ h => h, Int.le_refl _, ⟨hl.1, hl.2.1⟩, hok, hlo, hst2, Kept.below hb2 hs.xlt, hr2⟩
  have HREL := Lib.hid hrel
  have HW2 := Lib.hid hw2
  have HXL := Lib.hid hs.xlt
  have HG := Lib.hid hG
  have hmost := hl.2.2
  clear hrel hst2 hr2 hb2 hs hw2 hok hlo hl hG
  go_enter Tryd.func32, Tryd.ntmps32
  go_wp2_with fail
  go_loopw [] (fun wr => ∃ (ms' : List MF) (lev' i' : Int), (∀ o, M (tkOf bsF ts) most (.first i' lev' (KK ms')) o → M (tkOf bsF ts) most (.first i lev (KK ms)) o) ∧ i ≤ i' ∧ (-9223372036854775808 ≤ lev' ∧ lev' ≤ most) ∧ FrOk most ms' ∧ LenOk ms' i' ∧
      St w0 ([w.heap.size] ++ X) rb tv most (.func (.func gf) #[] lb) i' lev' ms' wr ∧ Kept X w wr ∧ wr.heap[w.heap.size]? = some (Obj.cells (tyC3 (0, 0, (none, 0, 0), .nil)) 28)) (fun wr => ((ts.length : Int) - atOf rb wr).toNat)
  case atStart =>
    have := HREL.out
    rw [← HW2.out] at this
    exact this
  case round =>
    obtain ⟨ms', lev', i', hM, hii, hlv, hok, hlo, hst, hkp, hrb⟩ := hrel
    have hat := hst.atOf
    have hfew := HG.out.few
    have hsees := hst.sees HG.out ⟨#[40]⟩ [40] (by rw [toList_data])
    have HS := Lib.hid hsees
    have HST := Lib.hid hst
    have HM := Lib.hid hM
    have HKP := Lib.hid hkp
    have HRB := Lib.hid hrb
    have HOK := Lib.hid (And.intro hok hlo)
    have HAT := Lib.hid hat
    have hrl := hst.rlt
    clear hsees hst hM hkp hrb hok hlo hat
    obtain ⟨b1, hb1⟩ : ∃ b, seesB ts i' [40] = b := ⟨_, rfl⟩
    rw [hb1] at HS
    cases b1 with
    | true =>
      obtain ⟨hi0, hin⟩ := sees_in hb1
      have hB1 := Lib.hid hb1
      have hlen : ms'.length ≤ 1000000 := by
        rcases HOK.out.2 with h | h
        · rw [h]; simp
        · omega
      have hbeg : ∀ (W : World), Below wr.heap.size wr W → Calls Tryd.prog 50 #[.pointer (some ⟨rb, 0, none⟩), .agg #[.bool false, .int .i64 0, slv (none, 0, 0)]] W (BeginPost w0 ([w.heap.size] ++ X) rb tv i' lev' most (.func (.func gf) #[] lb) ms' ⟨false, lev', (none, 0, 0), []⟩ W) := fun W hb => by
        have h' := HST.out.below hb
        obtain ⟨av, hr, hown⟩ := h'.own
        exact begin_any w0 W ([w.heap.size] ++ X) rb tv i' lev' most 0 (.func (.func gf) #[] lb) av ms' false (none, 0, 0) [] hr hown (by rw [acts_nil]; exact h'.fr.open_ _ _) (by rw [acts_nil]; exact h'.xs) (by rw [acts_nil]; exact h'.nd) h'.bel h'.rb_ (by omega) (by omega) hlen
      clear hb1
      by_cases hlm : lev' = most
      · have hbeg4 : ∀ (W : World), Below wr.heap.size wr W → Calls Tryd.prog 50 #[.pointer (some ⟨rb, 0, none⟩), .agg #[.bool false, .int .i64 0, .slice none 0 0]] W fun e w' => e = .returned (.int .i64 4) ∧ (∃ av', RdrAt w' rb tv (i' + 1) lev' most (.func (.func gf) #[] lb) av') ∧ Below w0.heap.size w0 w' ∧ Kept ([w.heap.size] ++ X) wr w' := fun W hb =>
          (hbeg W hb).mono fun e w' h => by
            rcases h with ⟨_, h1, h2, h3, h4⟩ | ⟨h1, _⟩
            · exact ⟨h1, h2, h3, (Kept.below hb HST.out.xlt).trans h4⟩
            · exact absurd hlm h1
        have HBG := Lib.hid hbeg4
        have HLM := Lib.hid hlm
        clear hbeg hbeg4 hlm
        go_wp2_with (first | (go_at_call 49; refine (HS.out _ (Below.refl _ _)).mono ?_; rintro e w3 ⟨rfl, hb3⟩; have HB3 := Lib.hid hb3; clear hb3) | (go_at_call 50; refine (HBG.out _ HB3.out).mono ?_; rintro e w4 ⟨rfl, hR4, hb4, hk4⟩; have hrb4 := (hk4 w.heap.size (by simp)).trans HRB.out; obtain ⟨r0, r1, r2⟩ := ty_cells hrb4; have rf0 := frozen_cells hrb4 0; have rf1 := frozen_cells hrb4 1; have rf2 := frozen_cells hrb4 2; have HW4 := Lib.hid (And.intro hR4 (And.intro hb4 (And.intro hk4 hrb4))); clear hR4 hb4 hrb4 hk4; dsimp only [slv] at r0 r1 r2) | fail)
        obtain ⟨⟨av4, hR4⟩, hb4, hk4, hrb4⟩ := HW4.out
        obtain ⟨r0, r1, r2⟩ := ty_cells hrb4
        have hne : ∀ k, k ≠ w.heap.size → (((w4.setCell ⟨w.heap.size, 0, none⟩ (.int .i64 0)).setCell ⟨w.heap.size, 1, none⟩ (.int .i64 0)).setCell ⟨w.heap.size, 2, none⟩ (.slice none 0 0)).heap[k]? = w4.heap[k]? := fun k hk => set_ty_other _ _ _ hk
        have hrne : rb ≠ w.heap.size := by
          rintro rfl
          have := HRB.out
          obtain ⟨av, h1, _⟩ := HST.out.own
          exact h1.notT _ (by decide) _ this
        refine bodyPost_ret (results_box_tmp rfl _ _ _ _ rfl (put_ty 0 0 (none, 0, 0) r0 r1 r2)) rfl (.inr ⟨4, i' + 1, lev', av4, by decide, rfl, HM.out _ (.deep ((sg1 ts i').2 hB1.out) HLM.out), (hne rb hrne).trans hR4, below_set3 hb4 _ hbs _ _ _, fun b hb => ?_⟩)
        exact (hne b (by have := HXL.out b hb; omega)).trans ((hk4 b (List.mem_append_right _ hb)).trans (HKP.out b hb))
      · have hbeg0 : ∀ (W : World), Below wr.heap.size wr W → Calls Tryd.prog 50 #[.pointer (some ⟨rb, 0, none⟩), .agg #[.bool false, .int .i64 0, .slice none 0 0]] W fun e w' => e = .returned (.int .i64 0) ∧ St w0 ([w.heap.size] ++ X) rb tv most (.func (.func gf) #[] lb) (i' + 1) (lev' + 1) (ms' ++ [⟨false, lev', (none, 0, 0), []⟩]) w' ∧ Kept ([w.heap.size] ++ X) wr w' := fun W hb =>
          (hbeg W hb).mono fun e w' h => by
            rcases h with ⟨h1, _⟩ | ⟨_, h1, h2, h3⟩
            · exact absurd h1 hlm
            · exact ⟨h1, h2, (Kept.below hb HST.out.xlt).trans h3⟩
        have HBG := Lib.hid hbeg0
        have HLM := Lib.hid hlm
        clear hbeg hbeg0 hlm
        go_wp2_with (first | (go_at_call 49; refine (HS.out _ (Below.refl _ _)).mono ?_; rintro e w3 ⟨rfl, hb3⟩; have HB3 := Lib.hid hb3; clear hb3) | (go_at_call 50; refine (HBG.out _ HB3.out).mono ?_; rintro e w4 ⟨rfl, hR4, hk4⟩; have HW4 := Lib.hid (And.intro hR4 hk4); clear hR4 hk4) | fail)
        obtain ⟨hst4, hk4⟩ := HW4.out
        have hlenok : LenOk (ms' ++ [⟨false, lev', (none, 0, 0), []⟩]) (i' + 1) := by
          refine .inr ?_
          rw [List.length_append, List.length_singleton]
          rcases HOK.out.2 with h | h
          · rw [h]; simp; omega
          · omega
        have hfrok : FrOk most (ms' ++ [⟨false, lev', (none, 0, 0), []⟩]) := by
          intro m hm
          rcases List.mem_append.1 hm with hm | hm
          · exact HOK.out.1 m hm
          · obtain rfl := List.mem_singleton.1 hm
            exact ⟨by simp, hlv⟩
        have hM4 : ∀ o, M (tkOf bsF ts) most (.first (i' + 1) (lev' + 1) (KK (ms' ++ [⟨false, lev', (none, 0, 0), []⟩]))) o → M (tkOf bsF ts) most (.first i lev (KK ms)) o := fun o ho => HM.out o (.open_ ((sg1 ts i').2 hB1.out) HLM.out (by rw [KK_snoc] at ho; exact ho))
        have hkk : Kept X w w4 := fun b hb => (hk4 b (List.mem_append_right _ hb)).trans (HKP.out b hb)
        have hrb4 := (hk4 w.heap.size (by simp)).trans HRB.out
        have hat4 := hst4.atOf
        have hlv4 : -9223372036854775808 ≤ lev' + 1 ∧ lev' + 1 ≤ most := by have := HLM.out; omega
        have HF := Lib.hid (And.intro hM4 (And.intro hfrok (And.intro hlenok (And.intro hst4 (And.intro hkk hrb4)))))
        clear hM4 hfrok hlenok hst4 hkk hrb4 hk4
        go_roundw
        case rel => exact ⟨ms' ++ [⟨false, lev', (none, 0, 0), []⟩], lev' + 1, i' + 1, HF.out.1, by omega, hlv4, HF.out.2.1, HF.out.2.2.1, HF.out.2.2.2.1, HF.out.2.2.2.2.1, HF.out.2.2.2.2.2⟩
        case measure =>
          rw [hat4, HAT.out]
          omega
    | false =>
      have hB1 := Lib.hid hb1
      have htok : ∀ (W : World), Below wr.heap.size wr W → Calls Tryd.prog 51 #[.pointer (some ⟨rb, 0, none⟩)] W fun e w' => e = .returned (tokV (tokAt ts i')) ∧ Below W.heap.size W w' := fun W hb => by
        have h' := HST.out.below hb
        obtain ⟨av, hr, _⟩ := h'.own
        exact stoken_any W rb tv ts i' lev' most (.func (.func gf) #[] lb) av hr (HG.out.toks.below h'.bel) hfew
      have hfn : ∀ (W : World), Below wr.heap.size wr W → Calls Tryd.prog gf (#[tokV (tokAt ts i')] ++ lb) W fun e w' => e = .returned (bsV (bsF (tokAt ts i'))) ∧ Below W.heap.size W w' := fun W hb => HG.out.says _ W (HST.out.below hb).bel
      have eg := HG.out.enters
      obtain ⟨av, hr, hown⟩ := HST.out.own
      obtain ⟨c0, c1, c2, c3, c4, c5⟩ := hr.cells
      have HTK := Lib.hid htok
      have HFN := Lib.hid hfn
      clear hb1 htok hfn hr hown
      obtain ⟨q, fl, hq⟩ : ∃ (q : Int × Int) (fl : Bool), bsV (bsF (tokAt ts i')) = .tuple #[tyVal q.1 q.2 (.slice none 0 0), .bool fl] ∧ (fl = true → bsF (tokAt ts i') = some q) ∧ (fl = false → bsF (tokAt ts i') = none) := by
        rcases bsF (tokAt ts i') with _ | ⟨k, n⟩
        · exact ⟨(0, 0), false, rfl, by simp, by simp⟩
        · exact ⟨(k, n), true, rfl, by simp, by simp⟩
      obtain ⟨hq1, hq2⟩ := hq
      rw [hq1] at HFN
      have HQ2 := Lib.hid hq2
      clear hq1 hq2
      obtain ⟨k, n⟩ := q
      dsimp only [tyVal, tokV] at HFN HTK
      go_upto_region 5 with (first | (go_at_call 49; refine (HS.out _ (Below.refl _ _)).mono ?_; rintro e w3 ⟨rfl, hb3⟩; have c4' := (hb3.cell (p := ⟨rb, 4, none⟩) hrl).trans c4; have hrl3 : rb < w3.heap.size := Nat.lt_of_lt_of_le hrl hb3.size; have HB3 := Lib.hid hb3; clear hb3) | fail)
      go_cut [5, 6] (fun s5 s6 wx => ∃ g : Nat, s5 = .pointer (some ⟨g, 0, none⟩) ∧ s6 = .bool fl ∧ wr.heap.size ≤ g ∧ wx.heap[g]? = some (Obj.cells (tyC3 (k, n, (none, 0, 0), .nil)) 28) ∧ Below wr.heap.size wr wx)
      case first =>
        go_region_with (first
          | (go_at_call 51; refine (HTK.out _ ?_).mono ?_; (first | exact HB3.out.drew | exact (HB3.out.alloc HB3.out.size _).drew); rintro e w4 ⟨rfl, hb4⟩; (first | have c4'' := cell_later hb4 (show w3.drew.cell? ⟨rb, 4, none⟩ = some (.func (.func gf) #[] lb) from c4') | have c4'' := cell_later hb4 (show (w3.alloc (.cells #[.int .i64 0, .int .i64 0, .slice none 0 0] 28)).drew.cell? ⟨rb, 4, none⟩ = some (.func (.func gf) #[] lb) from (World.cell?_of_block (Below.heap_alloc _ _ _ hrl3)).trans c4')); have hrl4 : rb < w4.heap.size := World.block_lt_of_cell? _ _ c4''; (first | have hx4 := box_after (g := w3.heap.size) hb4 (heap_alloc_new w3 (.cells #[.int .i64 0, .int .i64 0, .slice none 0 0] 28)) | skip); have HB4 : Hid (Below wr.heap.size wr w4) := Lib.hid (by first | exact HB3.out.drew.trans (hb4.mono HB3.out.size) | exact (HB3.out.alloc HB3.out.size _).drew.trans (hb4.mono (by simp; have := HB3.out.size; omega))); clear hb4)
          | (go_at_fn gf; refine (HFN.out _ ?_).mono ?_; (first | exact HB4.out | exact HB4.out.alloc HB4.out.size _); rintro e w5 ⟨rfl, hb5⟩; (first | have hx5 := box_after (g := w4.heap.size) hb5 (heap_alloc_new w4 (.cells #[.int .i64 0, .int .i64 0, .slice none 0 0] 28)) | have hx5 := box_after hb5 hx4 | skip); have HB5 : Hid (Below wr.heap.size wr w5) := Lib.hid (by first | exact HB4.out.trans (hb5.mono HB4.out.size) | exact (HB4.out.alloc HB4.out.size _).trans (hb5.mono (by simp; have := HB4.out.size; omega))); (first | (obtain ⟨x0, x1, x2⟩ := ty_cells (p := (0, 0, (none, 0, 0), .nil)) hx5; have xf0 := frozen_cells hx5 0; have xf1 := frozen_cells hx5 1; have xf2 := frozen_cells hx5 2; dsimp only [slv] at x0 x1 x2) | skip); clear hb5)
          | fail)
        all_goals
          go_wp2_with fail
          go_meet
          exact ⟨_, rfl, rfl, by first | exact HB5.out.size | exact HB4.out.size | exact HB3.out.size, by first | exact heap_alloc_new w5 _ | exact set_ty (cs := (0, 0, (none, 0, 0), .nil)) (k, n, (none, 0, 0), .nil) hx5, by first | exact HB5.out.alloc HB5.out.size _ | exact below_set3 HB5.out _ HB4.out.size _ _ _ | exact below_set3 HB5.out _ HB3.out.size _ _ _⟩
      case rest =>
        obtain ⟨g, rfl, rfl, hg, hgc, hbx⟩ := hcut
        have hrbx := (hbx.block _ (Array.getElem?_eq_some_iff.1 HRB.out).1).trans HRB.out
        obtain ⟨r0, r1, r2⟩ := ty_cells hrbx
        have rf0 := frozen_cells hrbx 0
        have rf1 := frozen_cells hrbx 1
        have rf2 := frozen_cells hrbx 2
        obtain ⟨y0, y1, y2⟩ := ty_cells hgc
        have hst' := HST.out.below hbx
        obtain ⟨av', hr', _⟩ := hst'.own
        obtain ⟨z0, z1, z2, z3, z4, z5⟩ := hr'.cells
        have zf1 := frozen_cells hr' 1
        dsimp only [slv] at r0 r1 r2 y0 y1 y2
        have HRR := Lib.hid (And.intro r0 (And.intro r1 r2))
        have hrne : rb ≠ w.heap.size := by
          rintro rfl
          exact hr'.notT _ (by decide) _ hrbx
        have hwg : w.heap.size ≠ g := by have := (Array.getElem?_eq_some_iff.1 HRB.out).1; omega
        have hrg : rb ≠ g := by omega
        have HBX := Lib.hid hbx
        have HSX := Lib.hid hst'
        have HRX := Lib.hid hr'
        have HRBX := Lib.hid hrbx
        clear hst' hr' hrbx hgc hbx HTK HFN HS c0 c1 c2 c3 c4 c5
        cases fl with
        | false =>
          have hne : ∀ k, k ≠ w.heap.size → (((wc.setCell ⟨w.heap.size, 0, none⟩ (.int .i64 0)).setCell ⟨w.heap.size, 1, none⟩ (.int .i64 0)).setCell ⟨w.heap.size, 2, none⟩ (.slice none 0 0)).heap[k]? = wc.heap[k]? := fun k hk => set_ty_other _ _ _ hk
          have hfin : FirstPost (tkOf bsF ts) w0 X rb tv i lev most (.func (.func gf) #[] lb) ms w (.returned (.tuple #[tyVal 0 0 (.slice none 0 0), .int .i64 3])) (((wc.setCell ⟨w.heap.size, 0, none⟩ (.int .i64 0)).setCell ⟨w.heap.size, 1, none⟩ (.int .i64 0)).setCell ⟨w.heap.size, 2, none⟩ (.slice none 0 0)) := by
            refine .inr ⟨3, i', lev', av', by decide, rfl, HM.out _ (.none (fun h => ?_) (HQ2.out.2 rfl)), (hne rb hrne).trans HRX.out, below_set3 HSX.out.bel _ hbs _ _ _, fun b hb => ?_⟩
            · have := (sg1 ts i').1 h
              rw [hB1.out] at this
              cases this
            · have hbl := HXL.out b hb
              have hl := (Array.getElem?_eq_some_iff.1 HRB.out).1
              exact (hne b (by omega)).trans ((HBX.out.block b (by omega)).trans (HKP.out b hb))
          have HFIN := Lib.hid hfin
          clear hfin hne
          go_wp2_with fail
          exact bodyPost_ret (results_box_tmp (p := 2) (q := 3) rfl _ _ _ _ rfl (put_ty 0 0 (none, 0, 0) HRR.out.1 HRR.out.2.1 HRR.out.2.2)) rfl HFIN.out
        | true =>
          have hbs1 := HQ2.out.1 rfl
          have hrange : 0 ≤ i' ∧ i' < ts.length := by
            by_cases hor : i' < 0 ∨ (ts.length : Int) ≤ i'
            · rw [tokAt_out ts i' hor, HG.out.ends] at hbs1
              cases hbs1
            · omega
          have e1 : IntKind.i64.wrap (i' + 1) = i' + 1 := IntWalk.i64_in _ (by omega)
          have hfin : FirstPost (tkOf bsF ts) w0 X rb tv i lev most (.func (.func gf) #[] lb) ms w (.returned (.tuple #[tyVal k n (.slice none 0 0), .int .i64 0])) ((((wc.setCell ⟨rb, 1, none⟩ (.int .i64 (i' + 1))).setCell ⟨w.heap.size, 0, none⟩ (.int .i64 k)).setCell ⟨w.heap.size, 1, none⟩ (.int .i64 n)).setCell ⟨w.heap.size, 2, none⟩ (.slice none 0 0)) := by
            have hst1 := HSX.out.at_ (i' + 1)
            have hne : ∀ j, j ≠ w.heap.size → ((((wc.setCell ⟨rb, 1, none⟩ (.int .i64 (i' + 1))).setCell ⟨w.heap.size, 0, none⟩ (.int .i64 k)).setCell ⟨w.heap.size, 1, none⟩ (.int .i64 n)).setCell ⟨w.heap.size, 2, none⟩ (.slice none 0 0)).heap[j]? = (wc.setCell ⟨rb, 1, none⟩ (.int .i64 (i' + 1))).heap[j]? := fun j hj => set_ty_other _ _ _ hj
            refine .inl ⟨ms', (k, n, (none, 0, 0), .nil), lev', i' + 1, rfl, fun o ho => HM.out o (.leaf (fun h => ?_) hbs1 ho), by omega, by omega, hlv, HOK.out.1, ?_, fin_nil, hst1.back (by simp [World.setCell]) (fun j hj => hne j (by simpa using hj)) (fun b hb hb2 => ?_) (below_set3 (Below.refl _ _) _ hbs _ _ _), fun b hb => ?_⟩
            · have := (sg1 ts i').1 h
              rw [hB1.out] at this
              cases this
            · rcases HOK.out.2 with h | h
              · exact .inl h
              · exact .inr (by omega)
            · have := HXL.out b hb
              simp at hb2
              omega
            · have hbl := HXL.out b hb
              have hl := (Array.getElem?_eq_some_iff.1 HRB.out).1
              obtain ⟨⟨cs, hc⟩, _⟩ := HSX.out.xs b (List.mem_append_right _ hb)
              exact (hne b (by omega)).trans ((Below.heap_setCell _ _ _ _ (by rintro rfl; exact HRX.out.notT _ (by decide) cs hc)).trans ((HBX.out.block b (by omega)).trans (HKP.out b hb)))
          have HFIN := Lib.hid hfin
          have HRR2 : Hid ((wc.setCell ⟨rb, 1, none⟩ (.int .i64 (i' + 1))).cell? ⟨w.heap.size, 0, none⟩ = some (.int .i64 0) ∧ (wc.setCell ⟨rb, 1, none⟩ (.int .i64 (i' + 1))).cell? ⟨w.heap.size, 1, none⟩ = some (.int .i64 0) ∧ (wc.setCell ⟨rb, 1, none⟩ (.int .i64 (i' + 1))).cell? ⟨w.heap.size, 2, none⟩ = some (.slice none 0 0)) :=
            Lib.hid (ty_cells (p := (0, 0, (none, 0, 0), .nil)) ((Below.heap_setCell _ _ _ _ (by simp only; omega)).trans HRBX.out))
          clear hfin hbs1 hrange
          go_wp2_with fail
          exact bodyPost_ret (results_box_tmp (p := 2) (q := 3) rfl _ _ _ _ rfl (put_ty k n (none, 0, 0) HRR2.out.1 HRR2.out.2.1 HRR2.out.2.2)) rfl HFIN.out
end Go.Proofs.YtjmbkkpglkbppaaDoor
