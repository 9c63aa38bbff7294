/- signature: the reader's endArrows. -/
import Derived.Test.YtjmbkkpglkbppaaDoorSgE
namespace Go.Proofs.YtjmbkkpglkbppaaDoor
open Go.RowKit

def KK (ms : List MF) : List Fr := (ms.map MF.fr).reverse
theorem KK_snoc (ms : List MF) (m : MF) : KK (ms ++ [m]) = m.fr :: KK ms := by simp [KK]
def FrOk (most : Int) (ms : List MF) : Prop := ∀ m ∈ ms, m.L.length ≤ 7 ∧ -9223372036854775808 ≤ m.lev ∧ m.lev ≤ most
/-- What endArrows owes. -/
def ArrPost (w0 : World) (X : List Nat) (rb : Nat) (tv : Value) (i lev most : Int) (bf : Value) (ms : List MF) (p : Pt) (w : World) (e : Ending) (w' : World) : Prop :=
  ∃ (ms' r : List MF) (q : Pt) (lev' : Int), e = .returned (tyVal q.1 q.2.1 (slv q.2.2.1)) ∧ ms = ms' ++ r ∧ (∀ S o, M S most (.ends (ptP q) i lev' (KK ms')) o → M S most (.ends (ptP p) i lev (KK ms)) o) ∧
    (ms' = [] ∨ ∃ a m, ms' = a ++ [m] ∧ m.arrow = false) ∧ (-9223372036854775808 ≤ lev' ∧ lev' ≤ most) ∧ FinT 28 w0.heap.size (X ++ acts ms') w' q.2.2.2 q.2.2.1 ∧ St w0 X rb tv most bf i lev' ms' w' ∧ Kept X w w'
def aroundLen (rb : Nat) (w : World) : Nat := match w.cell? ⟨rb, 5, none⟩ with | some (.slice _ n _) => n | _ => 0
theorem St.len {w0 : World} {X : List Nat} {rb : Nat} {tv : Value} {most : Int} {bf : Value} {i lev : Int} {ms : List MF} {w : World} (h : St w0 X rb tv most bf i lev ms w) : aroundLen rb w = ms.length := by
  obtain ⟨av, h1, h2⟩ := h.own
  obtain ⟨A, c, rfl, _, _⟩ := own_form h2
  unfold aroundLen
  rw [h1.cells.2.2.2.2.2]
theorem Kept.below {X : List Nat} {w w' : World} (h : Below w.heap.size w w') (hX : ∀ b ∈ X, b < w.heap.size) : Kept X w w' := fun b hb => h.block b (hX b hb)
theorem Kept.trans {X : List Nat} {a b c : World} (h : Kept X a b) (k : Kept X b c) : Kept X a c := fun i hi => (k i hi).trans (h i hi)
theorem St.xlt {w0 : World} {X : List Nat} {rb : Nat} {tv : Value} {most : Int} {bf : Value} {i lev : Int} {ms : List MF} {w : World} (h : St w0 X rb tv most bf i lev ms w) : ∀ b ∈ X, b < w.heap.size := fun b hb => by
  obtain ⟨⟨cs, hc⟩, _⟩ := h.xs b hb
  exact (Array.getElem?_eq_some_iff.1 hc).1
/-- Boxes of types laid beside. -/
theorem St.aside {w0 : World} {X Y : List Nat} {rb : Nat} {tv : Value} {most : Int} {bf : Value} {i lev : Int} {ms : List MF} {w w' : World} (h : St w0 X rb tv most bf i lev ms w) (hb : Below w.heap.size w w') (hY : ∀ b ∈ Y, w.heap.size ≤ b ∧ ∃ cs, w'.heap[b]? = some (Obj.cells cs 28)) : St w0 (Y ++ X) rb tv most bf i lev ms w' := by
  have h' := h.below hb
  refine ⟨h'.own, ?_, fun b hx => ?_, h'.nd, h'.bel, h'.rb_⟩
  · rw [List.append_assoc]
    exact h.fr.aside (keepT_below hb) fun b hb => (hY b hb).1
  · rcases List.mem_append.1 hx with hx | hx
    · refine ⟨(hY b hx).2, fun ha => ?_⟩
      have := act_lt h.fr b ha
      have := (hY b hx).1
      omega
    · exact h'.xs b hx
/-- What lay beside is written to. -/
theorem St.set {w0 : World} {X : List Nat} {rb : Nat} {tv : Value} {most : Int} {bf : Value} {i lev : Int} {ms : List MF} {w w' : World} {b : Nat} (h : St w0 X rb tv most bf i lev ms w) (hx : b ∈ X) (hB : w0.heap.size ≤ b) (hs : w'.heap.size = w.heap.size) (hk : ∀ k, k ≠ b → w'.heap[k]? = w.heap[k]?) (hc : ∃ cs, w'.heap[b]? = some (Obj.cells cs 28)) (hbel : Below w0.heap.size w w') : St w0 X rb tv most bf i lev ms w' := by
  obtain ⟨av, h1, h2⟩ := h.own
  obtain ⟨⟨cs, hcs⟩, hna⟩ := h.xs b hx
  have hbr : rb ≠ b := by rintro rfl; exact h1.notT _ (by decide) cs hcs
  have hto : ∀ (k : Nat) (cs : Array Value), k ∉ X ++ acts ms → w.heap[k]? = some (Obj.cells cs 28) → w'.heap[k]? = some (Obj.cells cs 28) := fun k cs hk2 hc => (hk k (by rintro rfl; exact hk2 (List.mem_append_left _ hx))).trans hc
  refine ⟨⟨av, (hk rb hbr).trans h1, ?_⟩, ⟨fun m hm => ?_, fun m hm p hp => (h.fr.fin m hm p hp).to (by omega) fun k cs _ hA hl => ⟨hA, hto k cs hA hl⟩⟩, fun k hk2 => ⟨?_, (h.xs k hk2).2⟩, h.nd, h.bel.trans hbel, h.rb_⟩
  · refine row_keepT h2 (keepT_other (rb := b) (by omega) (fun k _ hne => hk k hne) fun cs2 hc2 => ?_)
    rw [hcs] at hc2
    injection hc2 with hc2
    injection hc2 with _ e _
    exact absurd e (by decide)
  · have hr := h.fr.row m hm
    refine ⟨hr.1, ?_⟩
    rcases hr.2 with h3 | ⟨g, cap, cur, hv, hg, hh, r⟩
    · exact .inl h3
    · refine .inr ⟨g, cap, cur, hv, hg, (hk g ?_).trans hh, r⟩
      rintro rfl
      exact hna (List.mem_flatMap.2 ⟨m, hm, by rw [actB, hv]; simp [Value.ownBlock]⟩)
  · by_cases e : k = b
    · subst e; exact hc
    · obtain ⟨⟨cs2, hc2⟩, _⟩ := h.xs k hk2
      exact ⟨cs2, (hk k e).trans hc2⟩
theorem FinT.set {T : TypeId} {B : Nat} {X A : List Nat} {w w' : World} {f : Fo} {u : Sl} {b : Nat} (h : FinT T B (X ++ A) w f u) (hx : b ∈ X) (hs : w'.heap.size = w.heap.size) (hk : ∀ k, k ≠ b → w'.heap[k]? = w.heap[k]?) : FinT T B (X ++ A) w' f u :=
  h.to (by omega) fun k cs _ hA hl => ⟨hA, (hk k (by rintro rfl; exact hA (List.mem_append_left _ hx))).trans hl⟩
/-- What lay beside is left. -/
theorem St.back {w0 : World} {X Y : List Nat} {rb : Nat} {tv : Value} {most : Int} {bf : Value} {i lev : Int} {ms : List MF} {w w' : World} (h : St w0 (Y ++ X) rb tv most bf i lev ms w) (hs : w'.heap.size = w.heap.size) (hk : ∀ k, k ∉ Y → w'.heap[k]? = w.heap[k]?) (hYX : ∀ b ∈ X, b ∉ Y) (hbel : Below w0.heap.size w w') : St w0 X rb tv most bf i lev ms w' := by
  obtain ⟨av, h1, h2⟩ := h.own
  have hT : ∀ (T : TypeId) (k : Nat) (cs : Array Value), T ≠ 28 → w.heap[k]? = some (Obj.cells cs T) → k ∉ Y := by
    intro T k cs hne hc hY
    obtain ⟨⟨cs2, hc2⟩, _⟩ := h.xs k (List.mem_append_left _ hY)
    rw [hc] at hc2
    injection hc2 with hc2
    injection hc2 with _ e _
    exact hne e
  refine ⟨⟨av, (hk rb (hT _ rb _ (by decide) h1)).trans h1, ?_⟩, ?_, fun b hb => ⟨?_, (h.xs b (List.mem_append_right _ hb)).2⟩, h.nd, h.bel.trans hbel, h.rb_⟩
  · exact row_keepT h2 ⟨by omega, fun k cs hc => (hk k (hT _ k cs (by decide) hc)).trans hc⟩
  · have hfr := h.fr
    rw [List.append_assoc] at hfr
    refine hfr.back (by omega) (fun b cs hb hc => (hk b hb).trans hc) fun m hm b hb hbY => ?_
    exact (h.xs b (List.mem_append_left _ hbY)).2 (List.mem_flatMap.2 ⟨m, hm, by simp only [actB, Option.mem_toList]; exact hb⟩)
  · obtain ⟨⟨cs, hc⟩, _⟩ := h.xs b (List.mem_append_right _ hb)
    exact ⟨cs, (hk b (hYX b hb)).trans hc⟩
/-- A type's box, stored into. -/
def tyC3 (p : Pt) : Array Value := #[.int .i64 p.1, .int .i64 p.2.1, slv p.2.2.1]
theorem set_ty {w : World} {g : Nat} {cs : Pt} (p : Pt) (h : w.heap[g]? = some (Obj.cells (tyC3 cs) 28)) :
    (((w.setCell ⟨g, 0, none⟩ (.int .i64 p.1)).setCell ⟨g, 1, none⟩ (.int .i64 p.2.1)).setCell ⟨g, 2, none⟩ (slv p.2.2.1)).heap[g]? = some (Obj.cells (tyC3 p) 28) := by
  have h1 := heap_setCell_same w g 0 _ _ (.int .i64 p.1) h
  have h2 := heap_setCell_same _ g 1 _ _ (.int .i64 p.2.1) h1
  exact heap_setCell_same _ g 2 _ _ (slv p.2.2.1) h2
theorem set_ty_other {w : World} {g k : Nat} (a b c : Value) (hk : k ≠ g) : (((w.setCell ⟨g, 0, none⟩ a).setCell ⟨g, 1, none⟩ b).setCell ⟨g, 2, none⟩ c).heap[k]? = w.heap[k]? :=
  (Below.heap_setCell _ _ _ _ (by simpa using hk)).trans ((Below.heap_setCell _ _ _ _ (by simpa using hk)).trans (Below.heap_setCell _ _ _ _ (by simpa using hk)))
theorem ty_cells {w : World} {g : Nat} {p : Pt} (h : w.heap[g]? = some (Obj.cells (tyC3 p) 28)) :
    w.cell? ⟨g, 0, none⟩ = some (.int .i64 p.1) ∧ w.cell? ⟨g, 1, none⟩ = some (.int .i64 p.2.1) ∧ w.cell? ⟨g, 2, none⟩ = some (slv p.2.2.1) :=
  ⟨cell_of_row w g 0 _ _ (0, 0) h, cell_of_row w g 1 _ _ (0, 0) h, cell_of_row w g 2 _ _ (0, 0) h⟩
set_option maxRecDepth 100000 in
set_option maxHeartbeats 4000000 in
theorem arrows_end (w0 w : World) (X : List Nat) (rb : Nat) (tv : Value) (i lev most : Int) (bf : Value) (ms : List MF) (p : Pt)
    (hs : St w0 X rb tv most bf i lev ms w) (hp : FinT 28 w0.heap.size (X ++ acts ms) w p.2.2.2 p.2.2.1) (hok : FrOk most ms) (hm : ms.length ≤ 1000000) (hl : -9223372036854775808 ≤ lev ∧ lev ≤ most) :
    Calls Tryd.prog 52 #[.pointer (some ⟨rb, 0, none⟩), tyVal p.1 p.2.1 (slv p.2.2.1)] w (ArrPost w0 X rb tv i lev most bf ms p w) := by
  obtain ⟨w2, hw2⟩ : ∃ w2, (w.alloc (.cells (tyC3 p) 28)).alloc (.cells #[.int .i64 0, .int .i64 0, .slice none 0 0] 28) = w2 := ⟨_, rfl⟩
  have hbs := hs.bel.size
  have hb2 : Below w.heap.size w w2 := by rw [← hw2]; exact ((Below.refl _ _).alloc (Nat.le_refl _) _).alloc (by simp) _
  have hs2 : w2.heap.size = w.heap.size + 2 := by rw [← hw2]; simp
  have ht2 : w2.heap[w.heap.size]? = some (Obj.cells (tyC3 p) 28) := by rw [← hw2]; exact (Below.heap_alloc _ _ _ (by simp)).trans (heap_alloc_new w _)
  have hr2 : w2.heap[w.heap.size + 1]? = some (Obj.cells (tyC3 (0, 0, (none, 0, 0), .nil)) 28) := by
    have := heap_alloc_new (w.alloc (.cells (tyC3 p) 28)) (.cells #[.int .i64 0, .int .i64 0, .slice none 0 0] 28)
    rw [World.size_alloc, hw2] at this
    exact this
  have hst2 : St w0 ([w.heap.size, w.heap.size + 1] ++ X) rb tv most bf i lev ms w2 := hs.aside hb2 (by
    intro b hb
    simp only [List.mem_cons, List.not_mem_nil, or_false] at hb
    rcases hb with rfl | rfl
    · exact ⟨Nat.le_refl _, _, ht2⟩
    · exact ⟨by omega, _, hr2⟩)
  have hp2 : FinT 28 w0.heap.size (([w.heap.size, w.heap.size + 1] ++ X) ++ acts ms) w2 p.2.2.2 p.2.2.1 := by
    rw [List.append_assoc]
    exact hp.aside (keepT_below hb2) (by intro b hb; simp only [List.mem_cons, List.not_mem_nil, or_false] at hb; omega)
  have hrel : ∃ (ms' r : List MF) (q : Pt) (lev' : Int), ms = ms' ++ r ∧ (∀ S o, M S most (.ends (ptP q) i lev' (KK ms')) o → M S most (.ends (ptP p) i lev (KK ms)) o) ∧ (-9223372036854775808 ≤ lev' ∧ lev' ≤ most) ∧
      FinT 28 w0.heap.size (([w.heap.size, w.heap.size + 1] ++ X) ++ acts ms') w2 q.2.2.2 q.2.2.1 ∧ St w0 ([w.heap.size, w.heap.size + 1] ++ X) rb tv most bf i lev' ms' w2 ∧ Kept X w w2 ∧
      w2.heap[w.heap.size]? = some (Obj.cells (tyC3 q) 28) ∧ w2.heap[w.heap.size + 1]? = some (Obj.cells (tyC3 (0, 0, (none, 0, 0), .nil)) 28) :=
    ⟨ms, [], p, lev, by simp, fun _ _ h => h, hl, hp2, hst2, Kept.below hb2 hs.xlt, ht2, hr2⟩
  have HREL := Lib.hid hrel
  have HW2 := Lib.hid hw2
  have HXL := Lib.hid hs.xlt
  clear hrel hp2 hst2 hr2 ht2 hb2 hs hp hw2 hs2
  obtain ⟨pk, pn, ⟨p1, p2, p3⟩, pf⟩ := p
  dsimp only [tyVal, slv]
  go_enter Tryd.func52, Tryd.ntmps52
  go_wp2_with fail
  go_loopw [] (fun wr => ∃ (ms' r : List MF) (q : Pt) (lev' : Int), ms = ms' ++ r ∧ (∀ S o, M S most (.ends (ptP q) i lev' (KK ms')) o → M S most (.ends (ptP (pk, pn, (p1, p2, p3), pf)) i lev (KK ms)) o) ∧ (-9223372036854775808 ≤ lev' ∧ lev' ≤ most) ∧
      FinT 28 w0.heap.size (([w.heap.size, w.heap.size + 1] ++ X) ++ acts ms') wr q.2.2.2 q.2.2.1 ∧ St w0 ([w.heap.size, w.heap.size + 1] ++ X) rb tv most bf i lev' ms' wr ∧ Kept X w wr ∧
      wr.heap[w.heap.size]? = some (Obj.cells (tyC3 q) 28) ∧ wr.heap[w.heap.size + 1]? = some (Obj.cells (tyC3 (0, 0, (none, 0, 0), .nil)) 28)) (fun wr => aroundLen rb wr)
  case atStart =>
    have := HREL.out
    rw [← HW2.out] at this
    exact this
  case round =>
    obtain ⟨ms', r, q, lev', hms, hM, hlv, hfq, hst, hkp, htb, hrb⟩ := hrel
    have hwX : ∀ b ∈ X, b < w.heap.size := HXL.out
    have hlw : w.heap.size + 1 < wr.heap.size := (Array.getElem?_eq_some_iff.1 hrb).1
    have hlen := hst.len
    obtain ⟨av, hr, hown⟩ := hst.own
    obtain ⟨c0, c1, c2, c3, c4, c5⟩ := hr.cells
    have hlt := hr.lt
    obtain ⟨q0, q1, ⟨qa, qb, qc⟩, qf⟩ := q
    obtain ⟨b0, b1, b2⟩ := ty_cells htb
    obtain ⟨r0, r1, r2⟩ := ty_cells hrb
    dsimp only [slv] at b0 b1 b2 r0 r1 r2
    have rf := fun o => frozen_cells hrb o
    have bf' := fun o => frozen_cells htb o
    have rf0 := rf 0
    have rf1 := rf 1
    have rf2 := rf 2
    -- the way out
    have hout : (ms' = [] ∨ ∃ a m, ms' = a ++ [m] ∧ m.arrow = false) → ∀ n, ArrPost w0 X rb tv i lev most bf ms (pk, pn, (p1, p2, p3), pf) w (.returned (tyVal q0 q1 (slv (qa, qb, qc)))) ((((wr.drewN n).setCell ⟨w.heap.size + 1, 0, none⟩ (.int .i64 q0)).setCell ⟨w.heap.size + 1, 1, none⟩ (.int .i64 q1)).setCell ⟨w.heap.size + 1, 2, none⟩ (slv (qa, qb, qc))) := by
      intro hor n
      have hw : w0.heap.size ≤ w.heap.size + 1 := by omega
      have hne : ∀ k, k ≠ w.heap.size + 1 → ((((wr.drewN n).setCell ⟨w.heap.size + 1, 0, none⟩ (.int .i64 q0)).setCell ⟨w.heap.size + 1, 1, none⟩ (.int .i64 q1)).setCell ⟨w.heap.size + 1, 2, none⟩ (slv (qa, qb, qc))).heap[k]? = wr.heap[k]? := fun k hk => set_ty_other _ _ _ hk
      have hsz : ((((wr.drewN n).setCell ⟨w.heap.size + 1, 0, none⟩ (.int .i64 q0)).setCell ⟨w.heap.size + 1, 1, none⟩ (.int .i64 q1)).setCell ⟨w.heap.size + 1, 2, none⟩ (slv (qa, qb, qc))).heap.size = wr.heap.size := by simp [World.setCell, World.drewN]
      have hnY : ∀ k, k ∉ [w.heap.size, w.heap.size + 1] → k ≠ w.heap.size + 1 := by intro k hk; simp only [List.mem_cons, List.not_mem_nil, or_false, not_or] at hk; exact hk.2
      have hfq2 := hfq
      rw [List.append_assoc] at hfq2
      refine ⟨ms', r, (q0, q1, (qa, qb, qc), qf), lev', rfl, hms, hM, hor, hlv, hfq2.back (by omega) (fun b cs hb hc => (hne b (hnY b hb)).trans hc), hst.back hsz (fun k hk => hne k (hnY k hk)) (fun b hb hbY => ?_) (below_set3 (below_drewN (Below.refl _ _) _) _ hw _ _ _), hkp.trans fun b hb => hne b (by have := hwX b hb; omega)⟩
      have := hwX b hb
      simp only [List.mem_cons, List.not_mem_nil, or_false] at hbY
      omega
    rcases List.eq_nil_or_concat ms' with rfl | ⟨a, m, rfl⟩
    · have HO := Lib.hid (hout (.inl rfl))
      obtain ⟨A, c, rfl, _, _⟩ := own_form hown
      dsimp only [List.length_nil] at c5
      have HRR := Lib.hid (And.intro r0 (And.intro r1 r2))
      clear hout hown hr hst hfq hkp htb hrb hM hms hlen rf bf'
      go_wp2_with fail
      go_quiet (fail)
      go_wp2_with fail
      exact bodyPost_ret (results_box rfl _ _ _ _ rfl (put_ty q0 q1 (qa, qb, qc) HRR.out.1 HRR.out.2.1 HRR.out.2.2)) rfl (HO.out _)
    · rw [List.concat_eq_append] at *
      have hown2 := hown
      rw [List.length_append, List.length_singleton, mfC_snoc] at hown2
      obtain ⟨g, cp, rfl, hg0, hg2⟩ := own_shape hown2 (by omega)
      obtain ⟨n, hn⟩ : ∃ n, a.length = n := ⟨_, rfl⟩
      rw [hn] at hown2 c5
      have hnm : n + 1 ≤ 1000000 := by
        have := congrArg List.length hms
        simp only [List.length_append, List.length_singleton] at this
        omega
      have hcell : ∀ j u, (mfC m)[j]? = some u → wr.cell? ⟨g, n * 3 + j, none⟩ = some u := by
        intro j u hu
        have hj : j < 3 := (List.getElem?_eq_some_iff.1 hu).1
        rw [hown2.cellAt _ (by omega), List.getElem?_append_right (by rw [mfC_len, hn]; omega), mfC_len, hn]
        rw [show n * 3 + j - n * 3 = j by omega]
        exact hu
      have g0 : wr.cell? ⟨g, n * 3, none⟩ = some (.bool m.arrow) := hcell 0 _ rfl
      have hz1 : (0 : Int) < (n : Int) + 1 := by omega
      have hz2 : (n : Int) < (n : Int) + 1 := by omega
      have hz3 : (0 : Int) ≤ (n : Int) := by omega
      have hmem : m ∈ ms := by rw [hms]; exact List.mem_append_left _ (List.mem_append_right _ (List.mem_singleton.2 rfl))
      obtain ⟨hL7, hlo, hhi⟩ := hok m hmem
      by_cases harr : m.arrow = true
      · rw [harr] at g0
        have hend := fun W (hb : Below wr.heap.size wr W) => end_any w0 W ([w.heap.size, w.heap.size + 1] ++ X) rb tv i lev' most bf a m (q0, q1, (qa, qb, qc), qf) (hst.below hb) (hfq.keep (keepT_below hb)) (by omega) (by omega)
        have HE := Lib.hid hend
        have HM := Lib.hid hM
        have HKP := Lib.hid hkp
        have HTB := Lib.hid (And.intro htb hrb)
        have HMS := Lib.hid hms
        have HLEN := Lib.hid hlen
        have HMEM := Lib.hid (And.intro harr (And.intro hlo hhi))
        dsimp only [tyVal, slv] at HE
        clear hend hout hown hown2 hcell hr hst hfq hkp htb hrb hM hms hlen hok hmem harr hL7 hlo hhi rf bf' hn rf0 rf1 rf2 r0 r1 r2
        go_wp2_with fail
        go_quiet (fail)
        go_wp2_with (first | (go_at_call 53; refine (HE.out _ (below_drewN (Below.refl _ _) _)).mono ?_; rintro e w3 ⟨⟨x0, x1, ⟨xa, xb, xc⟩, xf⟩, rfl, hx, hfx, hsx, hkx⟩; have hbx := (hkx w.heap.size (by simp)).trans HTB.out.1; obtain ⟨d0, d1, d2⟩ := ty_cells hbx; have df0 := frozen_cells hbx 0; have df1 := frozen_cells hbx 1; have df2 := frozen_cells hbx 2; have HX := Lib.hid (And.intro hx (And.intro hfx (And.intro hsx hkx))); clear hbx hx hfx hsx hkx; dsimp only [tyVal, slv] at d0 d1 d2 ⊢) | fail)
        obtain ⟨hx, hfx, hsx, hkx⟩ := HX.out
        have hw3 : w0.heap.size ≤ w.heap.size := hbs
        have hsz3 : (((w3.setCell ⟨w.heap.size, 0, none⟩ (.int .i64 x0)).setCell ⟨w.heap.size, 1, none⟩ (.int .i64 x1)).setCell ⟨w.heap.size, 2, none⟩ (.slice xa xb xc)).heap.size = w3.heap.size := by simp [World.setCell]
        have hne3 : ∀ k, k ≠ w.heap.size → (((w3.setCell ⟨w.heap.size, 0, none⟩ (.int .i64 x0)).setCell ⟨w.heap.size, 1, none⟩ (.int .i64 x1)).setCell ⟨w.heap.size, 2, none⟩ (.slice xa xb xc)).heap[k]? = w3.heap[k]? := fun k hk => set_ty_other _ _ _ hk
        have hb3 : (((w3.setCell ⟨w.heap.size, 0, none⟩ (.int .i64 x0)).setCell ⟨w.heap.size, 1, none⟩ (.int .i64 x1)).setCell ⟨w.heap.size, 2, none⟩ (.slice xa xb xc)).heap[w.heap.size]? = some (Obj.cells (tyC3 (x0, x1, (xa, xb, xc), xf)) 28) := set_ty (x0, x1, (xa, xb, xc), xf) ((hkx w.heap.size (by simp)).trans HTB.out.1)
        have hs3 := hsx.set (b := w.heap.size) (by simp) hw3 hsz3 hne3 ⟨_, hb3⟩ (below_set3 (Below.refl _ _) _ hw3 _ _ _)
        have hf3 := hfx.set (b := w.heap.size) (by simp) hsz3 hne3
        have hk3 : Kept X w (((w3.setCell ⟨w.heap.size, 0, none⟩ (.int .i64 x0)).setCell ⟨w.heap.size, 1, none⟩ (.int .i64 x1)).setCell ⟨w.heap.size, 2, none⟩ (.slice xa xb xc)) := fun b hb => (hne3 b (by have := HXL.out b hb; omega)).trans ((hkx b (List.mem_append_right _ hb)).trans (HKP.out b hb))
        have hr3 := (hne3 (w.heap.size + 1) (by omega)).trans ((hkx (w.heap.size + 1) (by simp)).trans HTB.out.2)
        have hM3 : ∀ S o, M S most (.ends (ptP (x0, x1, (xa, xb, xc), xf)) i m.lev (KK a)) o → M S most (.ends (ptP (pk, pn, (p1, p2, p3), pf)) i lev (KK ms)) o := fun S o ho => HM.out S o (by
          rw [KK_snoc]
          have e : m.fr = ⟨true, m.lev, m.L.map ptP⟩ := by simp [MF.fr, HMEM.out.1]
          rw [hx] at ho
          rw [e] at ho ⊢
          exact .out ho)
        have hln := hs3.len
        have HFIN := Lib.hid (And.intro hM3 (And.intro hf3 (And.intro hs3 (And.intro hk3 (And.intro hb3 hr3)))))
        clear hM3 hf3 hs3 hk3 hb3 hr3 hne3 hsz3 hsx hfx hkx hx
        go_roundw
        case rel => exact ⟨a, m :: r, (x0, x1, (xa, xb, xc), xf), m.lev, by rw [HMS.out]; simp, HFIN.out.1, HMEM.out.2, HFIN.out.2.1, HFIN.out.2.2.1, HFIN.out.2.2.2.1, HFIN.out.2.2.2.2.1, HFIN.out.2.2.2.2.2⟩
        case measure =>
          rw [hln, HLEN.out]
          simp
      · have hfalse : m.arrow = false := by simpa using harr
        rw [hfalse] at g0
        have HO := Lib.hid (hout (.inr ⟨a, m, rfl, hfalse⟩))
        have HRR := Lib.hid (And.intro r0 (And.intro r1 r2))
        clear hout hown hown2 hcell hr hst hfq hkp htb hrb hM hms hlen hok hmem harr hfalse hL7 hlo hhi rf bf' hn
        go_wp2_with fail
        go_quiet (fail)
        go_wp2_with fail
        exact bodyPost_ret (results_box rfl _ _ _ _ rfl (put_ty q0 q1 (qa, qb, qc) HRR.out.1 HRR.out.2.1 HRR.out.2.2)) rfl (HO.out _)
end Go.Proofs.YtjmbkkpglkbppaaDoor
