/- signature: the reader's behind: what it does to memory. -/
import Derived.Test.YtjmbkkpglkbppaaDoorSgG
namespace Go.Proofs.YtjmbkkpglkbppaaDoor
open Go.RowKit

theorem set_comm (w : World) (b o b' o' : Nat) (v v' : Value) (h : b ≠ b') : (w.setCell ⟨b, o, none⟩ v).setCell ⟨b', o', none⟩ v' = (w.setCell ⟨b', o', none⟩ v').setCell ⟨b, o, none⟩ v := by
  unfold World.setCell
  congr 1
  apply Array.ext
  · simp
  · intro i h1 h2
    simp only [Array.getElem_modify]
    by_cases e1 : b' = i
    · by_cases e2 : b = i
      · omega
      · simp [e1, e2]
    · by_cases e2 : b = i
      · simp [e1, e2]
      · simp [e1, e2]
theorem set_cells_other (w : World) (g k o0 o1 o2 : Nat) (a b c : Value) (hk : k ≠ g) : (((w.setCell ⟨g, o0, none⟩ a).setCell ⟨g, o1, none⟩ b).setCell ⟨g, o2, none⟩ c).heap[k]? = w.heap[k]? :=
  (Below.heap_setCell _ _ _ _ hk).trans ((Below.heap_setCell _ _ _ _ hk).trans (Below.heap_setCell _ _ _ _ hk))
theorem grown_fresh {w w1 w2 : World} {row : Option Nat} {g : Nat} (h1 : w.grownBy w1 row) (h2 : w1.grownBy w2 (some g)) (hat : row = some g ∨ w.heap.size ≤ g) : w.grownBy w2 row :=
  ⟨h2.os.trans h1.os, h2.tape.trans h1.tape, h2.output.trans h1.output, Nat.le_trans h1.size h2.size, fun k hk hne => (h2.block k (Nat.lt_of_lt_of_le hk h1.size) (by
    rintro e
    injection e with e
    subst e
    rcases hat with h | h
    · exact hne h.symm
    · omega)).trans (h1.block k hk hne)⟩
/-- One more is begun, with a part in new memory. -/
theorem St.push {w0 : World} {X : List Nat} {rb : Nat} {tv : Value} {most : Int} {bf : Value} {i lev : Int} {ms : List MF} {W : World} {q : Pt} (h : St w0 X rb tv most bf i lev ms W) (hq : FinT 28 w0.heap.size (X ++ acts ms) W q.2.2.2 q.2.2.1) (l' : Int) :
    FrI 28 w0.heap.size (X ++ acts (ms ++ [⟨true, l', (some ⟨W.heap.size, 0, none⟩, 1, 1), [q]⟩])) (W.alloc (.cells (tyC3 q) 28)) (ms ++ [⟨true, l', (some ⟨W.heap.size, 0, none⟩, 1, 1), [q]⟩]) ∧
      (∀ b ∈ X, (∃ cs, (W.alloc (.cells (tyC3 q) 28)).heap[b]? = some (Obj.cells cs 28)) ∧ b ∉ acts (ms ++ [⟨true, l', (some ⟨W.heap.size, 0, none⟩, 1, 1), [q]⟩])) ∧ (acts (ms ++ [⟨true, l', (some ⟨W.heap.size, 0, none⟩, 1, 1), [q]⟩])).Nodup := by
  have hac : acts (ms ++ [⟨true, l', (some ⟨W.heap.size, 0, none⟩, 1, 1), [q]⟩]) = acts ms ++ [W.heap.size] := by
    rw [acts_app]; simp [acts, actB, slv, Value.ownBlock]
  have hb : Below W.heap.size W (W.alloc (.cells (tyC3 q) 28)) := (Below.refl _ _).alloc (Nat.le_refl _) _
  have hto : ∀ (b : Nat) (cs : Array Value), b ∉ X ++ acts ms → W.heap[b]? = some (Obj.cells cs 28) → b ∉ X ++ (acts ms ++ [W.heap.size]) ∧ (W.alloc (.cells (tyC3 q) 28)).heap[b]? = some (Obj.cells cs 28) := by
    intro b cs hbn hc
    have hl := (Array.getElem?_eq_some_iff.1 hc).1
    refine ⟨fun hb2 => ?_, (hb.block b hl).trans hc⟩
    rcases List.mem_append.1 hb2 with hb2 | hb2
    · exact hbn (List.mem_append_left _ hb2)
    · rcases List.mem_append.1 hb2 with hb2 | hb2
      · exact hbn (List.mem_append_right _ hb2)
      · simp at hb2; omega
  have hlt := act_lt h.fr
  rw [hac]
  refine ⟨⟨fun m hm => ?_, fun m hm p hp => ?_⟩, fun b hbx => ?_, ?_⟩
  · rcases List.mem_append.1 hm with hm | hm
    · exact row_keepT (h.fr.row m hm) (keepT_below hb)
    · obtain rfl := List.mem_singleton.1 hm
      exact own_full W w0.heap.size h.bel.size 28 3 1 (ptC q) rfl (by unfold maxLen; omega)
  · rcases List.mem_append.1 hm with hm | hm
    · exact (h.fr.fin m hm p hp).to hb.size fun b cs _ hA hc => hto b cs hA hc
    · obtain rfl := List.mem_singleton.1 hm
      obtain rfl := List.mem_singleton.1 hp
      exact hq.to hb.size fun b cs _ hA hc => hto b cs hA hc
  · obtain ⟨⟨cs, hc⟩, hna⟩ := h.xs b hbx
    have hl := (Array.getElem?_eq_some_iff.1 hc).1
    refine ⟨⟨cs, (hb.block b hl).trans hc⟩, fun hb2 => ?_⟩
    rcases List.mem_append.1 hb2 with hb2 | hb2
    · exact hna hb2
    · simp at hb2; omega
  · refine List.nodup_append.2 ⟨h.nd, by simp, fun a ha b hb2 => ?_⟩
    have := (hlt a ha).2
    simp at hb2
    omega
/-- The innermost has one part more. -/
theorem St.more {w0 : World} {X : List Nat} {rb : Nat} {tv : Value} {most : Int} {bf : Value} {i lev : Int} {a : List MF} {m : MF} {Z : World} {q : Pt} {g n cp : Nat} {av : Value}
    (h : St w0 X rb tv most bf i lev (a ++ [m]) Z) (hq : FinT 28 w0.heap.size (X ++ acts (a ++ [m])) Z q.2.2.2 q.2.2.1) (hL : m.L.length ≤ 100) (hn : a.length = n)
    (hrd : RdrAt Z rb tv i lev most bf av) (hav : av = .slice (some ⟨g, 0, none⟩) (n + 1) cp) (hown : Z.ownsRow w0.heap.size 92 3 av (n + 1) (a.flatMap mfC ++ mfC m)) :
    ∃ (g' cp' : Nat) (w1 : World), (app_ #[26, 26] 26 #[slv m.v, .slice (some ⟨Z.heap.size, 0, none⟩) 1 1]).run Tryd.prog (Z.alloc (.cells #[.int .i64 0, .int .i64 0, .slice none 0 0] 28)).drew = .ok (.slice (some ⟨g', 0, none⟩) (m.L.length + 1) cp') w1 ∧
      (w1.cell? ⟨g', m.L.length * 3, none⟩ = some (.int .i64 0) ∧ w1.cell? ⟨g', m.L.length * 3 + 1, none⟩ = some (.int .i64 0) ∧ w1.cell? ⟨g', m.L.length * 3 + 2, none⟩ = some (.slice none 0 0)) ∧ (∀ o, w1.frozen? ⟨g', o, none⟩ = false) ∧
      w1.cell? ⟨g, n * 3 + 2, none⟩ = some (slv m.v) ∧ w1.frozen? ⟨g, n * 3 + 2, none⟩ = false ∧ g ≠ g' ∧ g < w1.heap.size ∧ g' < w1.heap.size ∧
      St w0 X rb tv most bf i lev (a ++ [{ m with v := (some ⟨g', 0, none⟩, m.L.length + 1, cp'), L := m.L ++ [q] }]) ((((w1.setCell ⟨g', m.L.length * 3, none⟩ (.int .i64 q.1)).setCell ⟨g', m.L.length * 3 + 1, none⟩ (.int .i64 q.2.1)).setCell ⟨g', m.L.length * 3 + 2, none⟩ (slv q.2.2.1)).setCell ⟨g, n * 3 + 2, none⟩ (.slice (some ⟨g', 0, none⟩) (m.L.length + 1) cp')) ∧
      Kept X Z ((((w1.setCell ⟨g', m.L.length * 3, none⟩ (.int .i64 q.1)).setCell ⟨g', m.L.length * 3 + 1, none⟩ (.int .i64 q.2.1)).setCell ⟨g', m.L.length * 3 + 2, none⟩ (slv q.2.2.1)).setCell ⟨g, n * 3 + 2, none⟩ (.slice (some ⟨g', 0, none⟩) (m.L.length + 1) cp')) := by
  subst hav
  have hBs := h.bel.size
  obtain ⟨W1, hW1⟩ : ∃ W1, (Z.alloc (.cells #[.int .i64 0, .int .i64 0, .slice none 0 0] 28)).drew = W1 := ⟨_, rfl⟩
  have hb1 : Below Z.heap.size Z W1 := by rw [← hW1]; exact ((Below.refl _ _).alloc (Nat.le_refl _) _).drew
  have hs1 : W1.heap.size = Z.heap.size + 1 := by rw [← hW1]; show (Z.alloc _).heap.size = _; rw [World.size_alloc]
  have hmm : m ∈ a ++ [m] := List.mem_append_right _ (List.mem_singleton.2 rfl)
  have rowm := h.fr.row m hmm
  have own1 : W1.ownsRow w0.heap.size 28 3 (slv m.v) m.L.length (m.L.flatMap ptC) := own_below2 rowm hb1
  have rd1 : Rd W1 3 (.slice (some ⟨Z.heap.size, 0, none⟩) 1 1) 1 [.int .i64 0, .int .i64 0, .slice none 0 0] := by
    rw [← hW1]; exact rd_new Z [.int .i64 0, .int .i64 0, .slice none 0 0] 28 3 1 rfl (by unfold maxLen; omega)
  obtain ⟨i0, hi0, hz0, hz1, hz2⟩ := info_parts tyInfo
  obtain ⟨v', w1, hrun, hown1, hg1, hat⟩ := run_append_rd (P := Tryd.prog) W1 w0.heap.size 26 26 28 i0 _ 3 40 Tryd.underlying26 hi0 hz0 hz1 hz2 rfl (by omega) (slv m.v) _ _ own1 _ 1 _ rd1 (by simp [Value.oneCell']) (by unfold maxLen; omega) (by omega) (by omega)
  obtain ⟨g', cp', rfl, hg0', hg2'⟩ := own_shape hown1 (by omega)
  have hrow1 := own_below2 hown hb1
  have hgl : g < Z.heap.size := (hown.lt g rfl).2
  have hng : some g ≠ (slv m.v).ownBlock := by
    intro e
    obtain ⟨cs, hcs⟩ : ∃ cs, W1.heap[g]? = some (Obj.cells cs 28) := by
      rcases own1.2 with ⟨h2, _⟩ | ⟨g2, cap, cur, h2, _, hh, _⟩
      · rw [h2] at e; cases e
      · rw [h2] at e; injection e with e; subst e; exact ⟨cur, hh⟩
    exact row_not hrow1 (by decide) g rfl cs hcs
  have hgg : g ≠ g' := by
    rintro rfl
    rcases hat with e | e
    · exact hng e
    · simp only [Value.ownBlock, Option.some.injEq] at e; omega
  have hgb : w1.heap[g]? = Z.heap[g]? := (hg1.block g (by omega) hng).trans (hb1.block g hgl)
  have hrow2 : w1.ownsRow w0.heap.size 92 3 (.slice (some ⟨g, 0, none⟩) (n + 1) cp) (n + 1) (a.flatMap mfC ++ mfC m) := hrow1.kept hg1 (.inr fun e => hng e)
  have hxl : (m.L.flatMap ptC).length = m.L.length * 3 := ptC_len m.L
  obtain ⟨e1, e2⟩ := elem_set w1 w0.heap.size g' cp' m.L.length _ hxl _ _ _ (.int .i64 q.1) (.int .i64 q.2.1) (slv q.2.2.1) hown1
  obtain ⟨E, hE⟩ : ∃ E, (((w1.setCell ⟨g', m.L.length * 3, none⟩ (.int .i64 q.1)).setCell ⟨g', m.L.length * 3 + 1, none⟩ (.int .i64 q.2.1)).setCell ⟨g', m.L.length * 3 + 2, none⟩ (slv q.2.2.1)) = E := ⟨_, rfl⟩
  have z0 : w1.cell? ⟨g', m.L.length * 3, none⟩ = some (.int .i64 0) := by rw [hown1.cellAt _ (by omega), List.getElem?_append_right (by omega), hxl]; simp
  have z1 : w1.cell? ⟨g', m.L.length * 3 + 1, none⟩ = some (.int .i64 0) := by rw [hown1.cellAt _ (by omega), List.getElem?_append_right (by omega), hxl]; simp
  have z2 : w1.cell? ⟨g', m.L.length * 3 + 2, none⟩ = some (.slice none 0 0) := by rw [hown1.cellAt _ (by omega), List.getElem?_append_right (by omega), hxl]; simp
  have hcell : w1.cell? ⟨g, n * 3 + 2, none⟩ = some (slv m.v) := by
    rw [hrow2.cellAt _ (by omega), List.getElem?_append_right (by rw [mfC_len, hn]; omega), mfC_len, hn]
    rw [show n * 3 + 2 - n * 3 = 2 by omega]
    rfl
  rw [hE] at e1 e2
  rw [hW1]
  have hgr := grown_fresh hg1 e2 (by
    rcases hat with e | e
    · exact .inl (by rw [← e]; rfl)
    · simp only [Value.ownBlock, Option.some.injEq] at e; right; omega)
  have hput := FrI.put (X := X) (p := q) (v' := (some ⟨g', 0, none⟩, m.L.length + 1, cp')) (h.fr.keep (keepT_below hb1)) h.nd (fun b hb => by have := h.xlt b hb; omega) e1 hgr hat (hq.keep (keepT_below hb1))
  -- the bracket's own cell
  have hrowE : E.ownsRow w0.heap.size 92 3 (.slice (some ⟨g, 0, none⟩) (n + 1) cp) (n + 1) (a.flatMap mfC ++ mfC m) := hrow2.kept e2 (.inr (by simp [Value.ownBlock]; exact hgg))
  obtain ⟨hst, hgst⟩ := hrowE.stored (n * 3 + 2) (.slice (some ⟨g', 0, none⟩) (m.L.length + 1) cp')
  have hset : (a.flatMap mfC ++ mfC m).set (n * 3 + 2) (.slice (some ⟨g', 0, none⟩) (m.L.length + 1) cp') = (a ++ [{ m with v := (some ⟨g', 0, none⟩, m.L.length + 1, cp'), L := m.L ++ [q] }]).flatMap mfC := by
    have hl : (a.flatMap mfC).length = n * 3 := by rw [mfC_len, hn]
    rw [← hl, List.set_append_right _ _ (by omega), mfC_snoc]
    rw [show (a.flatMap mfC).length + 2 - (a.flatMap mfC).length = 2 by omega]
    rfl
  rw [hset] at hst
  obtain ⟨F, hF⟩ : ∃ F, E.setCell ⟨g, n * 3 + 2, none⟩ (.slice (some ⟨g', 0, none⟩) (m.L.length + 1) cp') = F := ⟨_, rfl⟩
  rw [hF] at hst hgst
  have kF : KeepT 28 E F := by
    refine KeepT.grown hgst fun r e cs hc => ?_
    injection e with e
    subst e
    exact row_not hrowE (by decide) g rfl cs hc
  have hgE : rb ≠ g' := by
    rintro rfl
    rcases hat with e | e
    · have := (hrd.below hb1).row_ne own1 (by decide)
      exact this (by rw [← e]; rfl)
    · simp only [Value.ownBlock, Option.some.injEq] at e
      have := hrd.lt
      omega
  have hrF : RdrAt F rb tv i lev most bf (.slice (some ⟨g, 0, none⟩) (n + 1) cp) := by
    have h1 : RdrAt W1 rb tv i lev most bf (.slice (some ⟨g, 0, none⟩) (n + 1) cp) := hrd.below hb1
    have h2 : RdrAt w1 rb tv i lev most bf (.slice (some ⟨g, 0, none⟩) (n + 1) cp) := (hg1.block rb h1.lt (fun e => h1.row_ne own1 (by decide) e.symm)).trans h1
    have h3 : RdrAt E rb tv i lev most bf (.slice (some ⟨g, 0, none⟩) (n + 1) cp) := (e2.block rb h2.lt (by simpa using hgE)).trans h2
    exact (hgst.block rb h3.lt (fun e => by injection e with e; exact h2.row_ne hrow2 (by decide) (by rw [e]; rfl))).trans h3
  have hbelF : Below w0.heap.size w0 F := (((h.bel.trans (hb1.mono hBs)).grown hg1 (by omega) (fun b hb => (own1.lt b hb).1)).grown e2 (by have := hg1.size; omega) (fun b hb => by injection hb with hb; omega)).grown hgst (by have := hg1.size; have := e2.size; omega) (fun b hb => by injection hb with hb; have := (hown.lt g rfl).1; omega)
  have hkp : Kept X Z F := by
    intro b hb
    obtain ⟨⟨cs, hc⟩, hna⟩ := h.xs b hb
    have hbl := (Array.getElem?_eq_some_iff.1 hc).1
    have n1 : some b ≠ (slv m.v).ownBlock := fun e => hna (List.mem_flatMap.2 ⟨m, hmm, by simp only [actB, Option.mem_toList]; exact e.symm⟩)
    have n2 : b ≠ g' := by
      rintro rfl
      rcases hat with e | e
      · exact n1 (by rw [← e]; rfl)
      · simp only [Value.ownBlock, Option.some.injEq] at e; omega
    have n3 : b ≠ g := by
      rintro rfl
      exact row_not hown (by decide) b rfl cs hc
    exact (hgst.block b (by have := hg1.size; have := e2.size; omega) (by simpa using n3)).trans ((e2.block b (by have := hg1.size; omega) (by simpa using n2)).trans ((hg1.block b (by omega) n1).trans (hb1.block b hbl)))
  refine ⟨g', cp', w1, hrun, ⟨z0, z1, z2⟩, fun o => hown1.frozenAt o, hcell, hrow2.frozenAt _, hgg, by have := hg1.size; omega, hg2', ?_⟩
  rw [hE, hF]
  refine ⟨⟨⟨_, hrF, ?_⟩, hput.1.keep kF, fun b hb => ⟨?_, ?_⟩, hput.2, hbelF, h.rb_⟩, hkp⟩
  · rw [List.length_append, List.length_singleton, hn]
    exact hst
  · obtain ⟨⟨cs, hc⟩, _⟩ := h.xs b hb
    exact ⟨cs, (hkp b hb).trans hc⟩
  · intro hb2
    obtain ⟨⟨cs, hc⟩, hna⟩ := h.xs b hb
    have hbl := (Array.getElem?_eq_some_iff.1 hc).1
    rw [acts_app] at hb2 hna
    rcases List.mem_append.1 hb2 with hb2 | hb2
    · exact hna (List.mem_append_left _ hb2)
    · simp only [acts, List.flatMap_cons, List.flatMap_nil, List.append_nil, actB, Option.mem_toList, slv] at hb2 hna
      rcases hat with e | e
      · rw [e] at hb2
        exact hna (List.mem_append_right _ (by simpa [slv] using hb2))
      · rw [e] at hb2
        injection hb2 with hb2
        omega
end Go.Proofs.YtjmbkkpglkbppaaDoor
