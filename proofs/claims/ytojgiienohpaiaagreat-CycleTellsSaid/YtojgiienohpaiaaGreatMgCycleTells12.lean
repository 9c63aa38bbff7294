/- Texts of one proof, one behind the other. -/
import Derived.Test.YtojgiienohpaiaaGreatMgCycleTells11
import Derived.Test.YtojgiienohpaiaaGreatMgCycleTells8
import Derived.Test.YtojgiienohpaiaaGreatMgCycleTells9
namespace Go.Proofs.YtojgiienohpaiaaGreat.Un
open Go.RowKit
set_option maxRecDepth 100000
attribute [local go_sem] Oper.semAt_some
attribute [local go_sem ↓] builtin_app
theorem forInfo : (Tryz.prog.info? 143).map (fun i => (i.zero, i.size, i.bytes)) = some (some (.pointer none), 1, 8) := by kernel_rfl
theorem app_for (w : World) (fo : Nat) :
    ∃ cp w1, (app_ #[93, 93] 93 #[.slice none 0 0, .slice (some ⟨w.heap.size, 0, none⟩) 1 1]).run Tryz.prog (w.alloc (.cells #[.pointer (some ⟨fo, 0, none⟩)] 143)) = .ok (.slice (some ⟨w.heap.size + 1, 0, none⟩) 1 cp) w1 ∧
      w1.ownsRow 0 143 1 (.slice (some ⟨w.heap.size + 1, 0, none⟩) 1 cp) 1 [.pointer (some ⟨fo, 0, none⟩)] ∧ (w.alloc (.cells #[.pointer (some ⟨fo, 0, none⟩)] 143)).grownBy w1 none := by
  obtain ⟨i0, hi0, hz0, hz1, hz2⟩ := info_parts forInfo
  have rd1 : Rd (w.alloc (.cells #[.pointer (some ⟨fo, 0, none⟩)] 143)) 1 (.slice (some ⟨w.heap.size, 0, none⟩) 1 1) 1 [.pointer (some ⟨fo, 0, none⟩)] := rd_new w [.pointer (some ⟨fo, 0, none⟩)] 143 1 1 rfl (by unfold maxLen; omega)
  obtain ⟨v', w1, hrun, hown1, hg1, hat⟩ := run_append_rd (P := Tryz.prog) _ 0 93 93 143 i0 _ 1 8 Tryz.underlying93 hi0 hz0 hz1 hz2 rfl (by omega) (.slice none 0 0) 0 [] (World.ownsRow_nil _ _ _ _) _ 1 _ rd1 (by simp [Value.oneCell']) (by unfold maxLen; omega) (by omega) (by omega)
  obtain ⟨g, cp, rfl, _, _⟩ := own_shape hown1 (by omega)
  have hgg : g = w.heap.size + 1 := by
    rcases hat with e | e
    · exact absurd e (by simp [Value.ownBlock])
    · have e : some g = some (w.heap.size + 1) := by rw [← World.size_alloc w (.cells #[.pointer (some ⟨fo, 0, none⟩)] 143)]; exact e
      injection e
  subst hgg
  exact ⟨cp, w1, by unfold app_; simpa using hrun, by simpa using hown1, hg1⟩
section
variable {S : Nat → Prop} {w w' : World} {cb : Nat} {x0 x1 x2 : Value} {f0 c fo ob : Nat} {x6 x7 : Value} {n : Nat} {col ro col' ro' : Nat → Nat} {steps steps' : Int}
theorem Else.cell {S : Nat → Prop} {w w2 : World} {cb : Nat} (he : Else S w w2) (k : Nat) (v : Value) : Else (fun k => S k ∨ k = cb) w (w2.setCell ⟨cb, k, none⟩ v) :=
  (he.mono fun _ h => .inl h).trans (Else.set w2 (p := ⟨cb, k, none⟩) (.inr rfl) v)
theorem StM.more (h : StM S w cb x0 x1 x2 f0 c fo ob x6 x7 n col ro steps) (hu : UFo (fun k => S k ∨ w.heap.size ≤ k) w' fo (n + 1) col' ro' steps) (he : Else S w w') :
    StM (fun k => S k ∨ w.heap.size ≤ k) (w'.setCell ⟨cb, 4, none⟩ (.int .i64 ((n : Int) + 1))) cb x0 x1 x2 f0 c fo ob x6 x7 (n + 1) col' ro' steps := by
  have hl := (Array.getElem?_eq_some_iff.1 h.blk).1
  have hb2 := (he.block cb hl h.ncb).trans h.blk
  have hf0 : f0 < w.heap.size := (h.row.lt f0 rfl).2
  have hne : f0 ≠ cb := fun e => row_ne h.row h.blk (by decide) (by rw [e]; rfl)
  have hob := h.map.lt
  have hoc : ob ≠ cb := fun e => by
    obtain ⟨_, _, ⟨_, _, hm, _⟩, _⟩ := h.map
    rw [e, h.blk] at hm
    cases hm
  have hE := he.cell (cb := cb) 4 (.int .i64 ((n : Int) + 1))
  refine ⟨heap_setCell_same w' cb 4 _ _ _ hb2, h.map.block (hE.block ob hob fun hx => hx.elim h.nob hoc), fun hx => hx.elim h.ncb (by omega), fun hx => hx.elim h.nob (by omega), fun hx => hx.elim h.nf0 (by omega), own_else h.row hE (fun k hk => by cases hk; exact fun hx => hx.elim h.nf0 hne), ?_⟩
  exact hu.keep (Else.set (S := fun k => k = cb) w' (p := ⟨cb, 4, none⟩) rfl _) fun k hk e => by subst e; exact hk.elim h.ncb (by omega)
theorem add_st (h : StM S w cb x0 x1 x2 f0 c fo ob x6 x7 n col ro steps) (hn0 : 0 < n) (hn : n < 1048576) (d : Nat) (hc : ∀ k, k < n → col k ≠ d) :
    Calls Tryz.prog 70 #[.pointer (some ⟨cb, 3, none⟩)] w fun e w' => e = .returned (.tuple #[]) ∧ StM (fun k => S k ∨ w.heap.size ≤ k) w' cb x0 x1 x2 f0 c fo ob x6 x7 (n + 1) (upd col n d) (upd ro n n) steps ∧ Else (fun k => S k ∨ k = cb) w w' := by
  have HR := add_uf (w := w.drew) (h.uf.below (Below.refl _ w).drew) hn d hc
  obtain ⟨q1, q2⟩ := quo0 (Nat.lt_succ_self n) (by omega)
  obtain ⟨hl, c3, c4, _, r0⟩ := h.cells
  have f1 : ((n : Int) == 0) = false := by simp; omega
  have hz : w.frozen? ⟨cb, 4, none⟩ = false := by simp [World.frozen?, h.blk]
  have HH := Lib.hid h
  clear h
  go_enter Tryz.func70, Tryz.ntmps70
  go_wp2_with fail
  go_region_with (go_at_call 90; refine HR.mono ?_; rintro e w2 ⟨rfl, hu, he⟩)
  all_goals
    have he : Else S w w2 := ⟨he.os, he.tape, he.output, he.size, he.block⟩
    have hb2 := (he.block cb hl HH.out.ncb).trans HH.out.blk
    have hl2 := (Array.getElem?_eq_some_iff.1 hb2).1
    have d4 : w2.cell? ⟨cb, 4, none⟩ = some (.int .i64 n) := cell_of_row w2 cb 4 _ _ _ hb2
    have hz2 : w2.frozen? ⟨cb, 4, none⟩ = false := by simp [World.frozen?, hb2]
    have HF := Lib.hid (And.intro hb2 (And.intro hu he))
    clear hb2 hu he HR
    go_wp2_with fail
    obtain ⟨hb2, hu, he⟩ := HF.out
    exact bodyPost_end (results_none rfl _ _ _) rfl ⟨rfl, HH.out.more hu he, he.cell _ _⟩
theorem StM.tight (h : StM S w cb x0 x1 x2 f0 c fo ob x6 x7 n col ro steps) : StM (fun k => S k ∧ k < w.heap.size) w cb x0 x1 x2 f0 c fo ob x6 x7 n col ro steps :=
  ⟨h.blk, h.map, fun hx => h.ncb hx.1, fun hx => h.nob hx.1, fun hx => h.nf0 hx.1, h.row, h.uf.tight⟩
theorem StM.grow {T : Nat → Prop} (h : StM S w cb x0 x1 x2 f0 c fo ob x6 x7 n col ro steps) (hst : ∀ k, S k → T k) (h1 : ¬ T cb) (h2 : ¬ T ob) (h3 : ¬ T f0) : StM T w cb x0 x1 x2 f0 c fo ob x6 x7 n col ro steps :=
  ⟨h.blk, h.map, h1, h2, h3, h.row, h.uf.more hst⟩
theorem Else.old {T : Nat → Prop} (h : Else T w w') (ht : ∀ k, T k → S k ∨ w.heap.size ≤ k) : Else S w w' :=
  ⟨h.os, h.tape, h.output, h.size, fun k hk hs => h.block k hk fun hx => (ht k hx).elim hs (by omega)⟩
theorem add_new (blk : w.heap[cb]? = some (Obj.cells #[x0, x1, x2, .slice none 0 0, .int .i64 0, .map (some ob), x6, x7] 100)) (map : MapF (fun _ => none) 0 0 ob w) :
    Calls Tryz.prog 70 #[.pointer (some ⟨cb, 3, none⟩)] w fun e w' => e = .returned (.tuple #[]) ∧ (∃ f0 c fo, w.heap.size ≤ f0 ∧ StM (fun k => w.heap.size ≤ k ∧ k ≠ f0) w' cb x0 x1 x2 f0 c fo ob x6 x7 1 (fun j => j) (fun j => j) 0) ∧ Else (fun k => k = cb) w w' := by
  have HR := new_in w 0 (by omega)
  have hl := (Array.getElem?_eq_some_iff.1 blk).1
  have c4 : w.cell? ⟨cb, 4, none⟩ = some (.int .i64 0) := cell_of_row w cb 4 _ _ _ blk
  have hol := map.lt
  have hoc : ob ≠ cb := fun e => by
    obtain ⟨_, _, ⟨_, _, hm, _⟩, _⟩ := map
    rw [e, blk] at hm
    cases hm
  have HM := Lib.hid (And.intro blk map)
  clear blk map
  go_enter Tryz.func70, Tryz.ntmps70
  go_wp2_with fail
  refine HR.mono ?_
  rintro e w1 ⟨rfl, hu, hB⟩
  have hb1 := (hB.block cb hl).trans HM.out.1
  have c3 : w1.cell? ⟨cb, 3, none⟩ = some (.slice none 0 0) := cell_of_row w1 cb 3 _ _ _ hb1
  obtain ⟨cp, w2, hrun, hown, hgr⟩ := app_for w1 w.heap.size
  have hl1 : cb < w1.heap.size := Nat.lt_of_lt_of_le hl hB.size
  have hE2 : Else (fun _ => False) w1 w2 := (Else.alloc _ w1 _).trans (Else.grown hgr fun k hk => by cases hk)
  have hb2 := (hE2.block cb hl1 id).trans hb1
  have hl2 := (Array.getElem?_eq_some_iff.1 hb2).1
  have hz2 : w2.frozen? ⟨cb, 3, none⟩ = false := by simp [World.frozen?, hb2]
  have e3 : w2.cell? ⟨cb, 3, none⟩ = some (.slice none 0 0) := cell_of_row w2 cb 3 _ _ _ hb2
  have HN := Lib.hid (And.intro hu (And.intro hB (And.intro hown (And.intro hE2 hb2))))
  clear hu hB hb1 hown hgr hE2 hb2 HR
  go_upto_region 3 with fail
  refine wp_world (fun V => StM (fun k => w.heap.size ≤ k ∧ k < w1.heap.size) V cb x0 x1 x2 (w1.heap.size + 1) cp w.heap.size ob x6 x7 0 (fun j => j) (fun j => j) 0 ∧ Else (fun k => k = cb) w V) ?_ ?_
  · obtain ⟨hu, hB, hown, hE2, hb2⟩ := HN.out
    have hE3 := hE2.cell (cb := cb) 3 (.slice (some ⟨w1.heap.size + 1, 0, none⟩) 1 cp)
    have hE1 : Else (fun k => k = cb) w w1 := Else.of_below hB
    have hfc : w1.heap.size + 1 ≠ cb := by omega
    refine ⟨⟨heap_setCell_same w2 cb 3 _ _ _ hb2, (HM.out.2.block (hE1.block ob hol hoc)).block (hE3.block ob (Nat.lt_of_lt_of_le hol hB.size) (by rintro (h | h); exact h; exact hoc h)), by omega, by omega, by omega, ?_, ?_⟩, hE1.trans (hE3.mono fun k hk => hk.elim False.elim id)⟩
    · exact own_else hown (Else.set (S := fun k => k = cb) w2 (p := ⟨cb, 3, none⟩) rfl _) (fun k hk => by cases hk; exact hfc)
    · exact hu.keep hE3 fun k hk e => e.elim id (by omega)
  rintro V ⟨hs, hE⟩
  have hw1 := HN.out.2.1.size
  clear c4 c3 hrun hl1 hl2 hz2 e3 HN HM hoc
  obtain ⟨hlV, c3, c4, _, r0⟩ := hs.cells
  have hf0 : w1.heap.size + 1 < V.heap.size := (hs.row.lt _ rfl).2
  have HR := add_uf (w := V.drew) (hs.uf.below (Below.refl _ V).drew) (by omega) 0 (fun k hk => by omega)
  have HS := Lib.hid (And.intro hs (And.intro hE (And.intro hf0 (And.intro hw1 (And.intro hol hl)))))
  clear hl hol hw1
  have q1 : Int.tdiv 0 1048576 = 0 := by decide
  clear hs hE hf0
  go_region_with (go_at_call 90; refine HR.mono ?_; rintro e w3 ⟨rfl, hu, he⟩)
  all_goals
    obtain ⟨hs, hE, hf0, hw1, hol, hl⟩ := HS.out
    have he : Else (fun k => w.heap.size ≤ k ∧ k < w1.heap.size) V w3 := ⟨he.os, he.tape, he.output, he.size, he.block⟩
    have hb2 := (he.block cb hlV hs.ncb).trans hs.blk
    have hl2 := (Array.getElem?_eq_some_iff.1 hb2).1
    have d4 : w3.cell? ⟨cb, 4, none⟩ = some (.int .i64 0) := cell_of_row w3 cb 4 _ _ _ hb2
    have hz2 : w3.frozen? ⟨cb, 4, none⟩ = false := by simp [World.frozen?, hb2]
    have HF := Lib.hid (And.intro hb2 (And.intro hu he))
    clear hb2 hu he HR hs hE hf0 hw1 hol hl
    go_wp2_with fail
    obtain ⟨hs, hE, hf0, hw1, hol, hl⟩ := HS.out
    obtain ⟨_, hu, he⟩ := HF.out
    rw [upd_id] at hu
    exact bodyPost_end (results_none rfl _ _ _) rfl ⟨rfl, ⟨_, _, _, Nat.le_trans hw1 (Nat.le_succ _), (hs.more hu he).grow (fun k hk => by omega) (by omega) (by omega) (by simp)⟩, (((hE.mono fun k hk => .inr hk).trans (he.cell 4 _)).old fun k hk => by omega)⟩
end
end Go.Proofs.YtojgiienohpaiaaGreat.Un
namespace Go.Proofs.YtojgiienohpaiaaGreat
abbrev Gn.parts (x : Gn) : List Nat := x.2.2.2
inductive Cl (G : List Gn) (E : List (Nat × Nat)) : Nat → Nat → Prop where
  | eq {a b : Nat} (h : (a, b) ∈ E) : Cl G E a b
  | refl (a : Nat) : Cl G E a a
  | symm {a b : Nat} (h : Cl G E a b) : Cl G E b a
  | trans {a b d : Nat} (h : Cl G E a b) (k : Cl G E b d) : Cl G E a d
  | part {x y a b j : Nat} {p q : Gn} (h : Cl G E x y) (hp : G[x]? = some p) (hq : G[y]? = some q) (p1 : p.1 ≠ 1) (q1 : q.1 ≠ 1) (hk : p.1 = q.1) (hl : p.2.2.2.length = q.2.2.2.length) (ha : p.2.2.2[j]? = some a) (hb : q.2.2.2[j]? = some b) : Cl G E a b
def Fit (p q : Gn) : Prop := p.1 = q.1 ∧ p.2.2.2.length = q.2.2.2.length
def Clash (G : List Gn) (E : List (Nat × Nat)) : Prop := ∃ x y p q, Cl G E x y ∧ G[x]? = some p ∧ G[y]? = some q ∧ p.1 ≠ 1 ∧ q.1 ≠ 1 ∧ ¬ Fit p q
theorem Cl.more {G H : List Gn} {E F : List (Nat × Nat)} (hG : ∀ (i : Nat) (p : Gn), G[i]? = some p → H[i]? = some p) (hE : ∀ e, e ∈ E → e ∈ F) {a b : Nat} (h : Cl G E a b) : Cl H F a b := by
  induction h with
  | eq h => exact .eq (hE _ h)
  | refl a => exact .refl a
  | symm _ ih => exact .symm ih
  | trans _ _ i1 i2 => exact .trans i1 i2
  | part _ hp hq p1 q1 hk hl ha hb ih => exact .part ih (hG _ _ hp) (hG _ _ hq) p1 q1 hk hl ha hb
theorem Clash.more {G H : List Gn} {E F : List (Nat × Nat)} (hG : ∀ (i : Nat) (p : Gn), G[i]? = some p → H[i]? = some p) (hE : ∀ e, e ∈ E → e ∈ F) (h : Clash G E) : Clash H F := by
  obtain ⟨x, y, p, q, h1, h2, h3, h4⟩ := h
  exact ⟨x, y, p, q, h1.more hG hE, hG _ _ h2, hG _ _ h3, h4⟩
inductive Gen (n : Nat) (c : Nat → Nat) (T : List (Nat × Nat)) : Nat → Nat → Prop where
  | col {a b : Nat} (ha : a < n) (hb : b < n) (h : c a = c b) : Gen n c T a b
  | todo {a b : Nat} (h : (a, b) ∈ T) : Gen n c T a b
  | symm {a b : Nat} (h : Gen n c T a b) : Gen n c T b a
  | trans {a b d : Nat} (h : Gen n c T a b) (k : Gen n c T b d) : Gen n c T a d
theorem Gen.none {n : Nat} {c : Nat → Nat} {a b : Nat} (h : Gen n c [] a b) : a < n ∧ b < n ∧ c a = c b := by
  induction h with
  | col ha hb h => exact ⟨ha, hb, h⟩
  | todo h => cases h
  | symm _ ih => exact ⟨ih.2.1, ih.1, ih.2.2.symm⟩
  | trans _ _ i1 i2 => exact ⟨i1.1, i2.2.1, i1.2.2.trans i2.2.2⟩
theorem Gen.more {n m : Nat} {c d : Nat → Nat} {T U : List (Nat × Nat)} (hc : ∀ a b, a < n → b < n → c a = c b → Gen m d U a b) (hT : ∀ a b, (a, b) ∈ T → Gen m d U a b) {a b : Nat} (h : Gen n c T a b) : Gen m d U a b := by
  induction h with
  | col ha hb h => exact hc _ _ ha hb h
  | todo h => exact hT _ _ h
  | symm _ ih => exact .symm ih
  | trans _ _ i1 i2 => exact .trans i1 i2
structure Jn (G : List Gn) (c : Nat → Nat) (E T : List (Nat × Nat)) : Prop where
  sound : ∀ i j, i < G.length → j < G.length → c i = c j → Cl G E i j
  todo : ∀ a b, (a, b) ∈ T → a < G.length ∧ b < G.length ∧ Cl G E a b
  eqs : ∀ a b, (a, b) ∈ E → Gen G.length c T a b
  fit : ∀ (x y : Nat) (p q : Gn), G[x]? = some p → G[y]? = some q → c x = c y → p.1 ≠ 1 → q.1 ≠ 1 → Fit p q ∧ ∀ (j a b : Nat), p.2.2.2[j]? = some a → q.2.2.2[j]? = some b → Gen G.length c T a b
  parts : ∀ (x : Nat) (p : Gn), G[x]? = some p → ∀ a ∈ p.2.2.2, a < G.length
theorem lt_of_get {α : Type} {L : List α} {i : Nat} {x : α} (h : L[i]? = some x) : i < L.length := (List.getElem?_eq_some_iff.1 h).1
theorem Jn.done {G : List Gn} {c : Nat → Nat} {E : List (Nat × Nat)} (h : Jn G c E []) {a b : Nat} : Cl G E a b ↔ a = b ∨ (a < G.length ∧ b < G.length ∧ c a = c b) := by
  constructor
  · intro k
    induction k with
    | eq e => exact .inr (h.eqs _ _ e).none
    | refl a => exact .inl rfl
    | symm _ ih => exact ih.elim (fun e => .inl e.symm) fun e => .inr ⟨e.2.1, e.1, e.2.2.symm⟩
    | trans _ _ i1 i2 =>
      rcases i1 with rfl | i1
      · exact i2
      · rcases i2 with rfl | i2
        · exact .inr i1
        · exact .inr ⟨i1.1, i2.2.1, i1.2.2.trans i2.2.2⟩
    | part _ hp hq p1 q1 _ _ ha hb ih =>
      rcases ih with rfl | ih
      · rw [hp] at hq
        cases hq
        rw [ha] at hb
        exact .inl (Option.some.inj hb)
      · exact .inr ((h.fit _ _ _ _ hp hq ih.2.2 p1 q1).2 _ _ _ ha hb).none
  · rintro (rfl | ⟨h1, h2, h3⟩)
    · exact .refl _
    · exact h.sound _ _ h1 h2 h3
theorem Jn.noClash {G : List Gn} {c : Nat → Nat} {E : List (Nat × Nat)} (h : Jn G c E []) : ¬ Clash G E := by
  rintro ⟨x, y, p, q, h1, hp, hq, p1, q1, hf⟩
  rcases h.done.1 h1 with rfl | ⟨_, _, h3⟩
  · rw [hp] at hq
    cases hq
    exact hf ⟨rfl, rfl⟩
  · exact hf (h.fit _ _ _ _ hp hq h3 p1 q1).1
theorem Jn.skip {G : List Gn} {c : Nat → Nat} {E T U : List (Nat × Nat)} {a b : Nat} (h : Jn G c E U) (hU : ∀ e, e ∈ U ↔ e = (a, b) ∨ e ∈ T) (hab : c a = c b) : Jn G c E T := by
  obtain ⟨ha, hb, _⟩ := h.todo a b ((hU _).2 (.inl rfl))
  have hg : ∀ {x y : Nat}, Gen G.length c U x y → Gen G.length c T x y := fun hx => hx.more (fun _ _ x1 x2 x3 => .col x1 x2 x3) fun x y hxy => by
    rcases (hU _).1 hxy with e | e
    · cases e; exact .col ha hb hab
    · exact .todo e
  exact ⟨h.sound, fun x y hxy => h.todo x y ((hU _).2 (.inr hxy)), fun x y hxy => hg (h.eqs x y hxy), fun x y p q hp hq hc p1 q1 => ⟨(h.fit x y p q hp hq hc p1 q1).1, fun j u v hu hv => hg ((h.fit x y p q hp hq hc p1 q1).2 j u v hu hv)⟩, h.parts⟩
theorem Jn.join {G : List Gn} {c d : Nat → Nat} {E T U V : List (Nat × Nat)} {a b : Nat} (h : Jn G c E U) (hU : ∀ e, e ∈ U ↔ e = (a, b) ∨ e ∈ T)
    (hd : ∀ i j, d i = d j ↔ (c i = c j ∨ (c i = c a ∨ c i = c b) ∧ (c j = c a ∨ c j = c b)))
    (hT : ∀ e, e ∈ T → e ∈ V)
    (hV : ∀ x y, (x, y) ∈ V → (x, y) ∈ T ∨ (x < G.length ∧ y < G.length ∧ Cl G E x y))
    (hab : ∀ (x y : Nat) (p q : Gn), G[x]? = some p → G[y]? = some q → c x = c a → c y = c b → p.1 ≠ 1 → q.1 ≠ 1 → Fit p q ∧ ∀ (j u v : Nat), p.2.2.2[j]? = some u → q.2.2.2[j]? = some v → Gen G.length d V u v) : Jn G d E V := by
  obtain ⟨ha, hb, hCab⟩ := h.todo a b ((hU _).2 (.inl rfl))
  have hdab : d a = d b := (hd a b).2 (.inr ⟨.inl rfl, .inr rfl⟩)
  have hg : ∀ {x y : Nat}, Gen G.length c U x y → Gen G.length d V x y := fun hx => hx.more (fun x y x1 x2 x3 => .col x1 x2 ((hd x y).2 (.inl x3))) fun x y hxy => by
    rcases (hU _).1 hxy with e | e
    · cases e; exact .col ha hb hdab
    · exact .todo (hT _ e)
  have hs : ∀ i, i < G.length → (c i = c a ∨ c i = c b) → Cl G E i a := fun i hi e => by
    rcases e with e | e
    · exact h.sound i a hi ha e
    · exact (h.sound i b hi hb e).trans hCab.symm
  refine ⟨fun i j hi hj e => ?_, fun x y hxy => ?_, fun x y hxy => hg (h.eqs x y hxy), fun x y p q hp hq hc p1 q1 => ?_, h.parts⟩
  · rcases (hd i j).1 e with e | ⟨e1, e2⟩
    · exact h.sound i j hi hj e
    · exact (hs i hi e1).trans (hs j hj e2).symm
  · rcases hV x y hxy with e | e
    · exact h.todo x y ((hU _).2 (.inr e))
    · exact e
  · rcases (hd x y).1 hc with e | ⟨e1, e2⟩
    · exact ⟨(h.fit x y p q hp hq e p1 q1).1, fun j u v hu hv => hg ((h.fit x y p q hp hq e p1 q1).2 j u v hu hv)⟩
    · rcases e1 with e1 | e1
      · rcases e2 with e2 | e2
        · exact ⟨(h.fit x y p q hp hq (e1.trans e2.symm) p1 q1).1, fun j u v hu hv => hg ((h.fit x y p q hp hq (e1.trans e2.symm) p1 q1).2 j u v hu hv)⟩
        · exact hab x y p q hp hq e1 e2 p1 q1
      · rcases e2 with e2 | e2
        · obtain ⟨f1, f2⟩ := hab y x q p hq hp e2 e1 q1 p1
          exact ⟨⟨f1.1.symm, f1.2.symm⟩, fun j u v hu hv => (f2 j v u hv hu).symm⟩
        · exact ⟨(h.fit x y p q hp hq (e1.trans e2.symm) p1 q1).1, fun j u v hu hv => hg ((h.fit x y p q hp hq (e1.trans e2.symm) p1 q1).2 j u v hu hv)⟩
structure Md (G : List Gn) (c : Nat → Nat) (m : Nat → Option Nat) : Prop where
  col : ∀ i j, i < G.length → j < G.length → c i = c j → m i = m j
  none : ∀ (i : Nat) (p : Gn), G[i]? = some p → m i = none → p.1 = 1
  some : ∀ i k, i < G.length → m i = some k → ∃ q : Gn, G[k]? = some q ∧ q.1 ≠ 1 ∧ c k = c i
def pairs (l r : List Nat) : List (Nat × Nat) := l.zip r
theorem Md.join {G : List Gn} {c d : Nat → Nat} {m : Nat → Option Nat} (h : Md G c m) {a b : Nat} (ha : a < G.length) (hb : b < G.length)
    (hd : ∀ i j, d i = d j ↔ (c i = c j ∨ (c i = c a ∨ c i = c b) ∧ (c j = c a ∨ c j = c b))) : Md G d fun i => if c i = c a ∨ c i = c b then (m a).or (m b) else m i := by
  refine ⟨fun i j hi hj e => ?_, fun i p hp e => ?_, fun i k hi e => ?_⟩
  · rcases (hd i j).1 e with e | ⟨e1, e2⟩
    · simp only [e]
      split
      · rfl
      · exact h.col i j hi hj e
    · simp only [e1, e2, if_true]
  · have hi := lt_of_get hp
    by_cases hc : c i = c a ∨ c i = c b
    · simp only [hc, if_true, Option.or_eq_none_iff] at e
      rcases hc with hc | hc
      · exact h.none i p hp ((h.col i a hi ha hc).trans e.1)
      · exact h.none i p hp ((h.col i b hi hb hc).trans e.2)
    · simp only [hc, if_false] at e
      exact h.none i p hp e
  · by_cases hc : c i = c a ∨ c i = c b
    · simp only [hc, if_true, Option.or_eq_some_iff] at e
      rcases e with e | ⟨_, e⟩
      · obtain ⟨q, h1, h2, h3⟩ := h.some a k ha e
        exact ⟨q, h1, h2, (hd k i).2 (.inr ⟨.inl h3, hc⟩)⟩
      · obtain ⟨q, h1, h2, h3⟩ := h.some b k hb e
        exact ⟨q, h1, h2, (hd k i).2 (.inr ⟨.inr h3, hc⟩)⟩
    · simp only [hc, if_false] at e
      obtain ⟨q, h1, h2, h3⟩ := h.some i k hi e
      exact ⟨q, h1, h2, (hd k i).2 (.inl h3)⟩
theorem mem_pairs {l r : List Nat} {x y : Nat} : (x, y) ∈ pairs l r ↔ ∃ j : Nat, l[j]? = some x ∧ r[j]? = some y := by
  unfold pairs
  constructor
  · intro h
    obtain ⟨j, hj⟩ := List.mem_iff_getElem?.1 h
    rw [List.getElem?_zip_eq_some] at hj
    exact ⟨j, hj⟩
  · rintro ⟨j, h1, h2⟩
    exact List.mem_iff_getElem?.2 ⟨j, List.getElem?_zip_eq_some.2 ⟨h1, h2⟩⟩
theorem Jn.joinVar {G : List Gn} {c d : Nat → Nat} {m : Nat → Option Nat} {E T U : List (Nat × Nat)} {a b : Nat} (h : Jn G c E U) (hM : Md G c m) (hU : ∀ e, e ∈ U ↔ e = (a, b) ∨ e ∈ T)
    (hd : ∀ i j, d i = d j ↔ (c i = c j ∨ (c i = c a ∨ c i = c b) ∧ (c j = c a ∨ c j = c b))) (hm : m a = none ∨ m b = none) : Jn G d E T := by
  obtain ⟨ha, hb, _⟩ := h.todo a b ((hU _).2 (.inl rfl))
  refine h.join hU hd (fun _ h => h) (fun _ _ h => .inl h) fun x y p q hp hq hx hy p1 q1 => ?_
  rcases hm with hm | hm
  · exact absurd (hM.none x p hp ((hM.col x a (lt_of_get hp) ha hx).trans hm)) p1
  · exact absurd (hM.none y q hq ((hM.col y b (lt_of_get hq) hb hy).trans hm)) q1
theorem Jn.joinBoth {G : List Gn} {c d : Nat → Nat} {m : Nat → Option Nat} {E T U V : List (Nat × Nat)} {a b k l : Nat} {p q : Gn} (h : Jn G c E U) (hM : Md G c m) (hU : ∀ e, e ∈ U ↔ e = (a, b) ∨ e ∈ T)
    (hd : ∀ i j, d i = d j ↔ (c i = c j ∨ (c i = c a ∨ c i = c b) ∧ (c j = c a ∨ c j = c b))) (hk : m a = some k) (hl : m b = some l) (hp : G[k]? = some p) (hq : G[l]? = some q) (hf : Fit p q)
    (hV : ∀ e, e ∈ V ↔ e ∈ T ∨ e ∈ pairs p.2.2.2 q.2.2.2) : Jn G d E V := by
  obtain ⟨ha, hb, hC⟩ := h.todo a b ((hU _).2 (.inl rfl))
  obtain ⟨p', hp', p1, hka⟩ := hM.some a k ha hk
  obtain ⟨q', hq', q1, hlb⟩ := hM.some b l hb hl
  rw [hp] at hp'; cases hp'
  rw [hq] at hq'; cases hq'
  have hkl : Cl G E k l := ((h.sound k a (lt_of_get hp) ha hka).trans hC).trans (h.sound l b (lt_of_get hq) hb hlb).symm
  have hg : ∀ {x y : Nat}, Gen G.length c U x y → Gen G.length d V x y := fun hx => hx.more (fun x y x1 x2 x3 => .col x1 x2 ((hd x y).2 (.inl x3))) fun x y hxy => by
    rcases (hU _).1 hxy with e | e
    · cases e; exact .col ha hb ((hd a b).2 (.inr ⟨.inl rfl, .inr rfl⟩))
    · exact .todo ((hV _).2 (.inl e))
  refine h.join hU hd (fun _ h => (hV _).2 (.inl h)) (fun x y hxy => ?_) fun x y p2 q2 hp2 hq2 hx hy p21 q21 => ?_
  · refine ((hV _).1 hxy).imp id fun hpq => ?_
    obtain ⟨j, h1, h2⟩ := mem_pairs.1 hpq
    exact ⟨h.parts k p hp x (List.mem_of_getElem? h1), h.parts l q hq y (List.mem_of_getElem? h2), .part hkl hp hq p1 q1 hf.1 hf.2 h1 h2⟩
  · obtain ⟨f1, f2⟩ := h.fit x k p2 p hp2 hp (hx.trans hka.symm) p21 p1
    obtain ⟨g1, g2⟩ := h.fit y l q2 q hq2 hq (hy.trans hlb.symm) q21 q1
    refine ⟨⟨f1.1.trans (hf.1.trans g1.1.symm), f1.2.trans (hf.2.trans g1.2.symm)⟩, fun j u v hu hv => ?_⟩
    have hj := lt_of_get hu
    obtain ⟨x1, hx1⟩ : ∃ x1, p.2.2.2[j]? = some x1 := ⟨_, List.getElem?_eq_getElem (by have := f1.2; omega)⟩
    obtain ⟨y1, hy1⟩ : ∃ y1, q.2.2.2[j]? = some y1 := ⟨_, List.getElem?_eq_getElem (by have := f1.2; have := hf.2; omega)⟩
    exact ((hg (f2 j u x1 hu hx1)).trans (.todo ((hV _).2 (.inr (mem_pairs.2 ⟨j, hx1, hy1⟩))))).trans (hg (g2 j v y1 hv hy1)).symm
theorem Jn.clash {G : List Gn} {c : Nat → Nat} {m : Nat → Option Nat} {E U : List (Nat × Nat)} {a b k l : Nat} {p q : Gn} (h : Jn G c E U) (hM : Md G c m) (hU : (a, b) ∈ U)
    (hk : m a = some k) (hl : m b = some l) (hp : G[k]? = some p) (hq : G[l]? = some q) (hf : ¬ Fit p q) : Clash G E := by
  obtain ⟨ha, hb, hC⟩ := h.todo a b hU
  obtain ⟨p', hp', p1, hka⟩ := hM.some a k ha hk
  obtain ⟨q', hq', q1, hlb⟩ := hM.some b l hb hl
  rw [hp] at hp'; cases hp'
  rw [hq] at hq'; cases hq'
  exact ⟨k, l, p, q, ((h.sound k a (lt_of_get hp) ha hka).trans hC).trans (h.sound l b (lt_of_get hq) hb hlb).symm, hp, hq, p1, q1, hf⟩
theorem Jn.grow {G A : List Gn} {c d : Nat → Nat} {E : List (Nat × Nat)} {a b : Nat} (h : Jn G c E []) (hd : ∀ i j, i < (G ++ A).length → j < (G ++ A).length → (d i = d j ↔ i = j ∨ (i < G.length ∧ j < G.length ∧ c i = c j)))
    (ha : a < (G ++ A).length) (hb : b < (G ++ A).length) (hp : ∀ (x : Nat) (p : Gn), (G ++ A)[x]? = some p → ∀ u ∈ p.2.2.2, u < (G ++ A).length) : Jn (G ++ A) d (E ++ [(a, b)]) [(a, b)] := by
  have hG : ∀ (i : Nat) (p : Gn), G[i]? = some p → (G ++ A)[i]? = some p := fun i p hi => (List.getElem?_append_left (lt_of_get hi)).trans hi
  have hE : ∀ e, e ∈ E → e ∈ E ++ [(a, b)] := fun e he => List.mem_append_left _ he
  have hlen : G.length ≤ (G ++ A).length := by simp
  have hg : ∀ {x y : Nat}, Gen G.length c [] x y → Gen (G ++ A).length d [(a, b)] x y := fun hx => by
    obtain ⟨h1, h2, h3⟩ := hx.none
    exact .col (by omega) (by omega) ((hd _ _ (by omega) (by omega)).2 (.inr ⟨h1, h2, h3⟩))
  refine ⟨fun i j hi hj e => ?_, fun x y hxy => ?_, fun x y hxy => ?_, fun x y p q hx hy e p1 q1 => ?_, hp⟩
  · rcases (hd i j hi hj).1 e with rfl | ⟨h1, h2, h3⟩
    · exact .refl _
    · exact (h.sound i j h1 h2 h3).more hG hE
  · simp only [List.mem_cons, List.not_mem_nil, or_false, Prod.mk.injEq] at hxy
    obtain ⟨rfl, rfl⟩ := hxy
    exact ⟨ha, hb, .eq (by simp)⟩
  · rcases List.mem_append.1 hxy with e | e
    · exact hg (h.eqs x y e)
    · exact .todo e
  · rcases (hd x y (lt_of_get hx) (lt_of_get hy)).1 e with rfl | ⟨h1, h2, h3⟩
    · rw [hx] at hy; cases hy
      refine ⟨⟨rfl, rfl⟩, fun j u v hu hv => ?_⟩
      rw [hu] at hv; cases hv
      have := hp x p hx u (List.mem_of_getElem? hu)
      exact .col this this rfl
    · have hx' : G[x]? = some p := by rw [List.getElem?_append_left h1] at hx; exact hx
      have hy' : G[y]? = some q := by rw [List.getElem?_append_left h2] at hy; exact hy
      obtain ⟨f1, f2⟩ := h.fit x y p q hx' hy' h3 p1 q1
      exact ⟨f1, fun j u v hu hv => hg (f2 j u v hu hv)⟩
end Go.Proofs.YtojgiienohpaiaaGreat
namespace Go.Proofs.YtojgiienohpaiaaGreat
open Go.RowKit
open Un (Else StM rowI UFo own_else dg)
set_option maxRecDepth 100000
def oi : Option Nat → Int
  | some k => k
  | none => -1
abbrev Kn := Nat → Option Nat × Option Nat
def knR (n : Nat) (kn : Kn) : List Value := (List.range n).flatMap fun i => [.int .i64 (oi (kn i).1), .int .i64 (oi (kn i).2)]
structure Adr where
  g : Nat
  mb : Nat
  V : Value
  L : List Nd
  f0 : Nat
  c : Nat
  fo : Nat
  ob : Nat
  K : Value
  N : Value
  S : Nat → Prop
def Adr.D (A : Adr) (k : Nat) : Prop := k = A.g ∨ k = A.mb ∨ A.V.ownBlock = some k ∨ ∃ x ∈ A.L, (slv x.2.2.2).ownBlock = some k
def Adr.F (A : Adr) (cb : Nat) (k : Nat) : Prop := A.S k ∨ k = cb ∨ k = A.ob ∨ k = A.f0 ∨ A.K.ownBlock = some k ∨ A.N.ownBlock = some k
theorem NdL.stay {B : Nat} {w w' : World} {L : List Nd} {G : List Gn} (h : NdL B w L G) (hk : ∀ x ∈ L, ∀ b, (slv x.2.2.2).ownBlock = some b → w'.heap[b]? = w.heap[b]?) : NdL B w' L G := by
  induction L generalizing G with
  | nil => cases G with
    | nil => trivial
    | cons => exact h.elim
  | cons x L ih => cases G with
    | nil => exact h.elim
    | cons y G =>
      obtain ⟨⟨h1, h2, h3, h4⟩, h5⟩ := h
      refine ⟨⟨h1, h2, h3, h4.1, ?_⟩, ih h5 fun z hz => hk z (List.mem_cons_of_mem _ hz)⟩
      rcases h4.2 with h | ⟨g, cap, cur, hv, hb, hg, hr⟩
      · exact .inl h
      · exact .inr ⟨g, cap, cur, hv, hb, (hk x List.mem_cons_self g (by rw [hv]; rfl)).trans hg, hr⟩
theorem GrM.stay {B : Nat} {w w' : World} {A : Adr} {G : List Gn} (h : GrM B w A.g A.V A.mb A.L G) (hk : ∀ k, A.D k → w'.heap[k]? = w.heap[k]?) : GrM B w' A.g A.V A.mb A.L G := by
  refine ⟨(hk _ (.inl rfl)).trans h.cell, ⟨h.row.1, ?_⟩, h.nodes.stay fun x hx b hb => hk b (.inr (.inr (.inr ⟨x, hx, hb⟩))), ?_, h.ge⟩
  · rcases h.row.2 with h2 | ⟨b, cap, cur, hv, hb, hh, hr2⟩
    · exact .inl h2
    · exact .inr ⟨b, cap, cur, hv, hb, (hk b (.inr (.inr (.inl (by rw [hv]; rfl))))).trans hh, hr2⟩
  · obtain ⟨S, hv⟩ := h.vars
    exact ⟨S, hv.block (hk _ (.inr (.inl rfl)))⟩
theorem NdL.blocks {B : Nat} {w : World} {L : List Nd} {G : List Gn} (h : NdL B w L G) : ∀ x ∈ L, ∀ b, (slv x.2.2.2).ownBlock = some b → b < w.heap.size := by
  induction L generalizing G with
  | nil => intro x hx; cases hx
  | cons y L ih => cases G with
    | nil => exact h.elim
    | cons z G =>
      intro x hx b hb
      rcases List.mem_cons.1 hx with rfl | hx
      · exact (h.1.2.2.2.lt b hb).2
      · exact ih h.2 x hx b hb
theorem own_zero {w : World} {base : Nat} {e : TypeId} {size : Nat} {v : Value} {n : Nat} {xs : List Value} (h : w.ownsRow base e size v n xs) : w.ownsRow 0 e size v n xs := by
  refine ⟨h.1, ?_⟩
  rcases h.2 with h | ⟨g, cap, cur, hv, hb, hr⟩
  · exact .inl h
  · exact .inr ⟨g, cap, cur, hv, Nat.zero_le _, hr⟩
theorem NdL.zero {B : Nat} {w : World} {L : List Nd} {G : List Gn} (h : NdL B w L G) : NdL 0 w L G := by
  induction L generalizing G with
  | nil => cases G with
    | nil => trivial
    | cons => exact h.elim
  | cons x L ih => cases G with
    | nil => exact h.elim
    | cons y G => exact ⟨⟨h.1.1, h.1.2.1, h.1.2.2.1, own_zero h.1.2.2.2⟩, ih h.2⟩
theorem GrM.zero {B : Nat} {w : World} {g mb : Nat} {v : Value} {L : List Nd} {G : List Gn} (h : GrM B w g v mb L G) : GrM 0 w g v mb L G :=
  ⟨h.cell, own_zero h.row, h.nodes.zero, h.vars, Nat.zero_le _, Nat.zero_le _⟩
theorem GrM.blocks {B : Nat} {w : World} {A : Adr} {G : List Gn} (h : GrM B w A.g A.V A.mb A.L G) {k : Nat} (hk : A.D k) : k < w.heap.size := by
  rcases hk with rfl | rfl | hk | ⟨x, hx, hk⟩
  · exact h.lt.1
  · exact h.lt.2
  · exact (h.row.lt k hk).2
  · exact h.nodes.blocks x hx k hk
def StX (S : Nat → Prop) (w : World) (cb : Nat) (x0 x1 x2 : Value) (f0 c fo ob : Nat) (x6 x7 : Value) (n : Nat) (col ro : Nat → Nat) (fs : Int) : Prop :=
  StM S w cb x0 x1 x2 f0 c fo ob x6 x7 n col ro fs ∨
    (n = 0 ∧ (fs = 0 ∧ f0 = cb) ∧ w.heap[cb]? = some (Obj.cells #[x0, x1, x2, .slice none 0 0, .int .i64 0, .map (some ob), x6, x7] 100) ∧ MapF (fun _ => none) 0 0 ob w)
structure ClM (O : Nat → Prop) (w : World) (cb : Nat) (A : Adr) (st : Int) (cl : Bool) (n : Nat) (G : List Gn) (kn : Kn) (nx col ro : Nat → Nat) (fs : Int) : Prop where
  sets : StX A.S w cb (.int .i64 st) (.bool cl) (.pointer (some ⟨A.g, 0, none⟩)) A.f0 A.c A.fo A.ob A.K A.N n col ro fs
  gr : GrM 0 w A.g A.V A.mb A.L G
  kr : w.ownsRow 0 124 2 A.K n (knR n kn)
  nr : w.ownsRow 0 3 1 A.N n (rowI n nx)
  d : ∀ k, A.D k → ¬ A.F cb k
  ks : ∀ k, A.K.ownBlock = some k → ¬ A.S k ∧ k ≠ cb ∧ k ≠ A.ob ∧ k ≠ A.f0 ∧ A.N.ownBlock ≠ some k
  ns : ∀ k, A.N.ownBlock = some k → ¬ A.S k ∧ k ≠ cb ∧ k ≠ A.ob ∧ k ≠ A.f0
  own : ∀ k, A.D k ∨ A.F cb k → O k
  sb : ∀ k, A.S k → k < w.heap.size
section
variable {O T : Nat → Prop} {w w' : World} {cb : Nat} {A : Adr} {st : Int} {cl : Bool} {n : Nat} {G : List Gn} {kn : Kn} {nx col ro col' ro' : Nat → Nat} {fs fs' : Int}
theorem StM.keep {S : Nat → Prop} {x0 x1 x2 x6 x7 : Value} {f0 fo ob c : Nat} (h : StM S w cb x0 x1 x2 f0 c fo ob x6 x7 n col ro fs) (he : Else T w w') (h1 : ¬ T cb) (h2 : ¬ T ob) (h3 : ¬ T f0) (h4 : ∀ k, S k → ¬ T k) : StM S w' cb x0 x1 x2 f0 c fo ob x6 x7 n col ro fs :=
  ⟨(he.block cb (Array.getElem?_eq_some_iff.1 h.blk).1 h1).trans h.blk, h.map.block (he.block ob h.map.lt h2), h.ncb, h.nob, h.nf0, own_else h.row he (fun k hk => by cases hk; exact h3), h.uf.keep he h4⟩
theorem StX.keep {S : Nat → Prop} {x0 x1 x2 x6 x7 : Value} {f0 fo ob c : Nat} (h : StX S w cb x0 x1 x2 f0 c fo ob x6 x7 n col ro fs) (he : Else T w w') (h1 : ¬ T cb) (h2 : ¬ T ob) (h3 : ¬ T f0) (h4 : ∀ k, S k → ¬ T k) : StX S w' cb x0 x1 x2 f0 c fo ob x6 x7 n col ro fs := by
  rcases h with h | ⟨e1, e2, e3, e4⟩
  · exact .inl (StM.keep h he h1 h2 h3 h4)
  · exact .inr ⟨e1, e2, (he.block cb (Array.getElem?_eq_some_iff.1 e3).1 h1).trans e3, e4.block (he.block ob e4.lt h2)⟩
theorem ClM.aside (h : ClM O w cb A st cl n G kn nx col ro fs) (he : Else T w w') (ht : ∀ k, A.D k ∨ A.F cb k → ¬ T k) : ClM O w' cb A st cl n G kn nx col ro fs :=
  have hF : ∀ k, A.F cb k → ¬ T k := fun k hk => ht k (.inr hk)
  ⟨StX.keep h.sets he (hF _ (.inr (.inl rfl))) (hF _ (.inr (.inr (.inl rfl)))) (hF _ (.inr (.inr (.inr (.inl rfl))))) (fun k hk => hF k (.inl hk)),
   h.gr.stay fun k hk => he.block k (h.gr.blocks hk) (ht k (.inl hk)), own_else h.kr he (fun k hk => hF k (.inr (.inr (.inr (.inr (.inl hk)))))), own_else h.nr he (fun k hk => hF k (.inr (.inr (.inr (.inr (.inr hk)))))), h.d, h.ks, h.ns, h.own, fun k hk => Nat.lt_of_lt_of_le (h.sb k hk) he.size⟩
theorem ClM.keep (h : ClM O w cb A st cl n G kn nx col ro fs) (he : Else T w w') (ht : ∀ k, O k → ¬ T k) : ClM O w' cb A st cl n G kn nx col ro fs :=
  h.aside he fun k hk => ht k (h.own k hk)
theorem ClM.lt (h : ClM O w cb A st cl n G kn nx col ro fs) {k : Nat} (hk : A.D k ∨ A.F cb k) : k < w.heap.size := by
  rcases hk with hk | hk | rfl | rfl | rfl | hk | hk
  · exact h.gr.blocks hk
  · exact h.sb k hk
  · rcases h.sets with h | ⟨_, _, h, _⟩
    · exact (Array.getElem?_eq_some_iff.1 h.blk).1
    · exact (Array.getElem?_eq_some_iff.1 h).1
  · rcases h.sets with h | ⟨_, _, _, h⟩
    · exact h.map.lt
    · exact h.lt
  · rcases h.sets with h | ⟨_, ⟨_, e⟩, h, _⟩
    · exact (h.row.lt _ rfl).2
    · rw [e]; exact (Array.getElem?_eq_some_iff.1 h).1
  · exact (h.kr.lt k hk).2
  · exact (h.nr.lt k hk).2
theorem ClM.turn (h : ClM O w cb A st cl n G kn nx col ro fs) (he : Else A.S w w') (hs : StM A.S w' cb (.int .i64 st) (.bool cl) (.pointer (some ⟨A.g, 0, none⟩)) A.f0 A.c A.fo A.ob A.K A.N n col' ro' fs') : ClM O w' cb A st cl n G kn nx col' ro' fs' :=
  ⟨.inl hs, h.gr.stay fun k hk => he.block k (h.gr.blocks hk) fun hx => h.d k hk (.inl hx), own_else h.kr he (fun k hk => (h.ks k hk).1), own_else h.nr he (fun k hk => (h.ns k hk).1), h.d, h.ks, h.ns, h.own, fun k hk => Nat.lt_of_lt_of_le (h.sb k hk) he.size⟩
theorem ClM.stm (h : ClM O w cb A st cl n G kn nx col ro fs) (hn : 0 < n) : StM A.S w cb (.int .i64 st) (.bool cl) (.pointer (some ⟨A.g, 0, none⟩)) A.f0 A.c A.fo A.ob A.K A.N n col ro fs := by
  rcases h.sets with h | ⟨h, _⟩
  · exact h
  · omega
theorem ClM.blk (h : ClM O w cb A st cl n G kn nx col ro fs) : ∃ F, w.heap[cb]? = some (Obj.cells #[.int .i64 st, .bool cl, .pointer (some ⟨A.g, 0, none⟩), F, .int .i64 n, .map (some A.ob), A.K, A.N] 100) := by
  rcases h.sets with h | ⟨h, _, h2, _⟩
  · exact ⟨_, h.blk⟩
  · subst h; exact ⟨_, h2⟩
theorem ClM.cells (h : ClM O w cb A st cl n G kn nx col ro fs) : cb < w.heap.size ∧ (∀ k, w.frozen? ⟨cb, k, none⟩ = false) ∧ w.cell? ⟨cb, 0, none⟩ = some (.int .i64 st) ∧ w.cell? ⟨cb, 1, none⟩ = some (.bool cl) ∧ w.cell? ⟨cb, 2, none⟩ = some (.pointer (some ⟨A.g, 0, none⟩)) ∧ w.cell? ⟨cb, 6, none⟩ = some A.K ∧ w.cell? ⟨cb, 7, none⟩ = some A.N := by
  obtain ⟨F, hb⟩ := h.blk
  exact ⟨(Array.getElem?_eq_some_iff.1 hb).1, fun k => by simp [World.frozen?, hb], cell_of_row w cb 0 _ _ _ hb, cell_of_row w cb 1 _ _ _ hb, cell_of_row w cb 2 _ _ _ hb, cell_of_row w cb 6 _ _ _ hb, cell_of_row w cb 7 _ _ _ hb⟩
theorem ClM.set0 (h : ClM O w cb A st cl n G kn nx col ro fs) (st' : Int) : ClM O (w.setCell ⟨cb, 0, none⟩ (.int .i64 st')) cb A st' cl n G kn nx col ro fs := by
  have hE : Else (fun k => k = cb) w (w.setCell ⟨cb, 0, none⟩ (.int .i64 st')) := Un.Else.set (S := fun k => k = cb) w (p := ⟨cb, 0, none⟩) rfl _
  refine ⟨?_, h.gr.stay fun k hk => hE.block k (h.gr.blocks hk) fun e => h.d k hk (.inr (.inl e)), own_else h.kr hE fun k hk => (h.ks k hk).2.1, own_else h.nr hE fun k hk => (h.ns k hk).2.1, h.d, h.ks, h.ns, h.own, fun k hk => Nat.lt_of_lt_of_le (h.sb k hk) hE.size⟩
  rcases h.sets with h | ⟨e1, e2, e3, e4⟩
  · have hne : A.f0 ≠ cb := fun e => Un.row_ne h.row h.blk (by decide) (by rw [e]; rfl)
    have hoc : A.ob ≠ cb := fun e => by
      obtain ⟨_, _, ⟨_, _, hm, _⟩, _⟩ := h.map
      rw [e, h.blk] at hm
      cases hm
    exact .inl ⟨heap_setCell_same w cb 0 _ _ _ h.blk, h.map.block (hE.block _ h.map.lt hoc), h.ncb, h.nob, h.nf0, own_else h.row hE fun k hk => by cases hk; exact hne, h.uf.keep hE fun k hk e => by subst e; exact h.ncb hk⟩
  · have hoc : A.ob ≠ cb := fun e => by
      obtain ⟨_, _, ⟨_, _, hm, _⟩, _⟩ := e4
      rw [e, e3] at hm
      cases hm
    exact .inr ⟨e1, e2, heap_setCell_same w cb 0 _ _ _ e3, e4.block (hE.block _ e4.lt hoc)⟩
theorem ClM.set1 (h : ClM O w cb A st cl n G kn nx col ro fs) (cl' : Bool) : ClM O (w.setCell ⟨cb, 1, none⟩ (.bool cl')) cb A st cl' n G kn nx col ro fs := by
  have hE : Else (fun k => k = cb) w (w.setCell ⟨cb, 1, none⟩ (.bool cl')) := Un.Else.set (S := fun k => k = cb) w (p := ⟨cb, 1, none⟩) rfl _
  refine ⟨?_, h.gr.stay fun k hk => hE.block k (h.gr.blocks hk) fun e => h.d k hk (.inr (.inl e)), own_else h.kr hE fun k hk => (h.ks k hk).2.1, own_else h.nr hE fun k hk => (h.ns k hk).2.1, h.d, h.ks, h.ns, h.own, fun k hk => Nat.lt_of_lt_of_le (h.sb k hk) hE.size⟩
  rcases h.sets with h | ⟨e1, e2, e3, e4⟩
  · have hne : A.f0 ≠ cb := fun e => Un.row_ne h.row h.blk (by decide) (by rw [e]; rfl)
    have hoc : A.ob ≠ cb := fun e => by
      obtain ⟨_, _, ⟨_, _, hm, _⟩, _⟩ := h.map
      rw [e, h.blk] at hm
      cases hm
    exact .inl ⟨heap_setCell_same w cb 1 _ _ _ h.blk, h.map.block (hE.block _ h.map.lt hoc), h.ncb, h.nob, h.nf0, own_else h.row hE fun k hk => by cases hk; exact hne, h.uf.keep hE fun k hk e => by subst e; exact h.ncb hk⟩
  · have hoc : A.ob ≠ cb := fun e => by
      obtain ⟨_, _, ⟨_, _, hm, _⟩, _⟩ := e4
      rw [e, e3] at hm
      cases hm
    exact .inr ⟨e1, e2, heap_setCell_same w cb 1 _ _ _ e3, e4.block (hE.block _ e4.lt hoc)⟩
theorem count_cl (h : ClM O w cb A st cl n G kn nx col ro fs) (m : Int) (hm : 0 ≤ m ∧ m ≤ 1000000000000000) (hs : 0 ≤ st ∧ st ≤ 1000000000000000) :
    Calls Tryz.prog 73 #[.pointer (some ⟨cb, 0, none⟩), .int .i64 m] w fun e w' => e = .returned (.tuple #[]) ∧ ClM O w' cb A (st + m) cl n G kn nx col ro fs ∧ Else (fun k => k = cb) w w' := by
  obtain ⟨hl, hz, c0, _⟩ := h.cells
  have hz0 := hz 0
  have HH := Lib.hid h
  clear h hz
  go_enter Tryz.func73, Tryz.ntmps73
  go_wp2_with fail
  exact bodyPost_end (results_none rfl _ _ _) rfl ⟨rfl, HH.out.set0 _, Un.Else.set (S := fun k => k = cb) w (p := ⟨cb, 0, none⟩) rfl _⟩
end
end Go.Proofs.YtojgiienohpaiaaGreat
namespace Go.Proofs.YtojgiienohpaiaaGreat
open Go.RowKit
open Un (Else StM rowI UFo own_else dg swp wp_world)
set_option maxRecDepth 100000
section
variable {O T : Nat → Prop} {w w' : World} {cb : Nat} {A : Adr} {st : Int} {cl : Bool} {n : Nat} {G : List Gn} {kn : Kn} {nx col ro col' ro' : Nat → Nat} {fs fs' : Int}
theorem ClM.below (h : ClM O w cb A st cl n G kn nx col ro fs) (hb : Below w.heap.size w w') : ClM O w' cb A st cl n G kn nx col ro fs :=
  h.keep (Else.of_below (S := fun _ => False) hb) fun _ _ => id
theorem ClM.ring (h : ClM O w cb A st cl n G kn nx col ro fs) {nx' : Nat → Nat} (he : Else (fun k => A.N.ownBlock = some k) w w') (hr : w'.ownsRow 0 3 1 A.N n (rowI n nx')) : ClM O w' cb A st cl n G kn nx' col ro fs := by
  have hF : ∀ k, A.N.ownBlock = some k → ¬ A.S k ∧ k ≠ cb ∧ k ≠ A.ob ∧ k ≠ A.f0 := h.ns
  exact ⟨StX.keep h.sets he (fun e => (hF _ e).2.1 rfl) (fun e => (hF _ e).2.2.1 rfl) (fun e => (hF _ e).2.2.2 rfl) (fun k hk e => (hF k e).1 hk), h.gr.stay fun k hk => he.block k (h.gr.blocks hk) fun e => h.d k hk (.inr (.inr (.inr (.inr (.inr e))))), own_else h.kr he fun k hk => (h.ks k hk).2.2.2.2, hr, h.d, h.ks, h.ns, h.own, fun k hk => Nat.lt_of_lt_of_le (h.sb k hk) he.size⟩
theorem mix_both (h : ClM O w cb A st cl n G kn nx col ro fs) (hnG : n ≤ G.length) (a b : Nat) (ha : a < n) (hb : b < n) (hab : a ≠ b) (p q : Gn) (hp : G[a]? = some p) (hq : G[b]? = some q) (p1 : p.1 = 1) (q1 : q.1 = 1) :
    Calls Tryz.prog 93 #[.pointer (some ⟨cb, 0, none⟩), .int .i64 (a : Nat), .int .i64 (b : Nat)] w fun e w' => e = .returned (.int .i64 ((if p.2.1 < q.2.1 then a else b : Nat) : Nat)) ∧ ClM O w' cb A st cl n G kn (swp nx a b) col ro fs ∧ Else (fun k => A.N.ownBlock = some k) w w' := by
  obtain ⟨hl, hz, _, _, c2, _, c7⟩ := h.cells
  obtain ⟨nb, cN, hN, _, _⟩ := Un.own_shape h.nr (by omega)
  have hrow := h.nr
  rw [hN] at c7 hrow
  have ra : w.cell? ⟨nb, a, none⟩ = some (.int .i64 (nx a : Nat)) := (hrow.cellAt a (by omega)).trans (Un.rowI_get ha)
  have rb : w.cell? ⟨nb, b, none⟩ = some (.int .i64 (nx b : Nat)) := (hrow.cellAt b (by omega)).trans (Un.rowI_get hb)
  have hba : b ≠ a := Ne.symm hab
  have za := hrow.frozenAt a
  have zb := hrow.frozenAt b
  have f1 : ((a : Int) == -1) = false := by simp
  have f2 : ((b : Int) == -1) = false := by simp
  have HH := Lib.hid h
  have HN := Lib.hid (And.intro hN hrow)
  clear h hrow hz hN
  go_enter Tryz.func93, Tryz.ntmps93
  go_wp2_with fail
  go_region
  go_upto_region 4 with fail
  refine wp_world (fun V => ClM O V cb A st cl n G kn (swp nx a b) col ro fs ∧ Else (fun k => A.N.ownBlock = some k) w V) ?_ ?_
  · obtain ⟨hN, hrow⟩ := HN.out
    obtain ⟨o1, g1⟩ := hrow.stored a (.int .i64 (nx b : Nat))
    obtain ⟨o2, g2⟩ := o1.stored b (.int .i64 (nx a : Nat))
    rw [Un.rowI_set, Un.rowI_set, ← hN] at o2
    have hE : Else (fun k => A.N.ownBlock = some k) w ((w.setCell ⟨nb, a, none⟩ (.int .i64 (nx b : Nat))).setCell ⟨nb, b, none⟩ (.int .i64 (nx a : Nat))) := (Un.Else.set w (p := ⟨nb, a, none⟩) (by rw [hN]; rfl) _).trans (Un.Else.set _ (p := ⟨nb, b, none⟩) (by rw [hN]; rfl) _)
    exact ⟨(HH.out.ring hE o2).below (Below.refl _ _).drew, hE.drew⟩
  rintro V ⟨hV, hE⟩
  obtain ⟨_, _, _, _, d2, _, _⟩ := hV.cells
  have hx : G[a] = p := (List.getElem?_eq_some_iff.1 hp).2
  have hy : G[b] = q := (List.getElem?_eq_some_iff.1 hq).2
  clear HN hba
  have HA := name_in V 0 A.g A.mb A.V A.L G hV.gr a (by omega)
  have HF := Lib.hid (And.intro hV hE)
  clear hl c2 c7 ra rb za zb hV hE
  go_wp2_with fail
  refine HA.mono ?_
  rintro e w2 ⟨rfl, hb2⟩
  rw [hx, if_pos p1]
  obtain ⟨hV, hE⟩ := HF.out
  have hV2 := hV.below hb2
  obtain ⟨_, _, _, _, d2', _, _⟩ := hV2.cells
  have HB := name_in w2 0 A.g A.mb A.V A.L G hV2.gr b (by omega)
  have HF2 := Lib.hid (And.intro hV2 (hE.trans (Else.of_below hb2)))
  clear hV hE hV2 hb2 HA HF
  go_wp2_with fail
  refine HB.mono ?_
  rintro e w3 ⟨rfl, hb3⟩
  rw [hy, if_pos q1]
  have HF3 := Lib.hid (And.intro (HF2.out.1.below hb3) (HF2.out.2.trans (Else.of_below hb3)))
  clear hb3 HB HF2
  by_cases hlt : p.2.1 < q.2.1
  · have g1 : decide (p.2.1 < q.2.1) = true := decide_eq_true hlt
    go_wp2_with fail
    go_ret
    exact ⟨rfl, HF3.out⟩
  · have g1 : decide (p.2.1 < q.2.1) = false := decide_eq_false hlt
    go_wp2_with fail
    go_ret
    exact ⟨rfl, HF3.out⟩
end
end Go.Proofs.YtojgiienohpaiaaGreat
namespace Go.Proofs.YtojgiienohpaiaaGreat
open Go.RowKit
open Un (Else StM rowI UFo own_else dg swp wp_world)
set_option maxRecDepth 100000
theorem max_run (w : World) (x y : Int) : (Builtin.max_ #[3, 3] 3 #[.int .i64 x, .int .i64 y]).run Tryz.prog w = .ok (.int .i64 (if x < y then y else x)) w := by
  have e : (Builtin.max_ #[3, 3] 3 #[.int .i64 x, .int .i64 y]) = (do pure (← Builtin.max2 (.int .i64 x) (.int .i64 y))) := rfl
  rw [e]
  rfl
section
variable {O T : Nat → Prop} {w w' : World} {cb : Nat} {A : Adr} {st : Int} {cl : Bool} {n : Nat} {G : List Gn} {kn : Kn} {nx col ro col' ro' : Nat → Nat} {fs fs' : Int}
theorem oi_none (a : Nat) : ((oi (some a)) == -1) = false := by
  simp [oi]
theorem mix_none (w : World) (cb : Nat) (a b : Option Nat) (hab : a = none ∨ b = none) :
    Calls Tryz.prog 93 #[.pointer (some ⟨cb, 0, none⟩), .int .i64 (oi a), .int .i64 (oi b)] w fun e w' => e = .returned (.int .i64 (oi (a.or b))) ∧ w' = w := by
  have hm := max_run w (oi a) (oi b)
  have hv : (if oi a < oi b then oi b else oi a) = oi (a.or b) := by
    cases a with
    | none => cases b with
      | none => rfl
      | some b => simp [oi]; omega
    | some a =>
      rcases hab with h | h
      · cases h
      · subst h
        have : ¬ ((a : Int) < -1) := by omega
        simp [oi, this]
  rw [hv] at hm
  cases a with
  | none =>
    have f1 : ((oi none) == -1) = true := rfl
    go_enter Tryz.func93, Tryz.ntmps93
    go_wp2_with fail
    go_ret
    exact ⟨rfl, rfl⟩
  | some a =>
    obtain rfl : b = none := by
      rcases hab with h | h
      · cases h
      · exact h
    have f1 := oi_none a
    have f2 : ((oi none) == -1) = true := rfl
    go_enter Tryz.func93, Tryz.ntmps93
    go_wp2_with fail
    go_ret
    exact ⟨rfl, rfl⟩
end
end Go.Proofs.YtojgiienohpaiaaGreat
