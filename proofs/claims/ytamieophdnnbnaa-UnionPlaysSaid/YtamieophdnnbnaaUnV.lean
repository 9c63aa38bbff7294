/- union: Set: the ring is gone through, and put in order. -/
import Derived.Test.YtamieophdnnbnaaUnU
import Derived.Deep.CutBlock
import Derived.Deep.DeepCutAuto
namespace Go.Proofs.Ytamieophdnnbnaa.Un
open Go.RowKit
attribute [local go_sem] Oper.semAt_some
attribute [local go_sem ↓] builtin_app

def rowL (l : List Nat) : List Value := l.map fun (k : Nat) => Value.int .i64 (k : Int)
theorem rowL_snoc (l : List Nat) (k : Nat) : rowL (l ++ [k]) = rowL l ++ [.int .i64 (k : Int)] := by simp [rowL]
theorem rowL_len (l : List Nat) : (rowL l).length = l.length := by simp [rowL]
theorem row_zero {w : World} {base : Nat} {e : TypeId} {size : Nat} {v : Value} {n : Nat} {xs : List Value} (h : w.ownsRow base e size v n xs) : w.ownsRow 0 e size v n xs := by
  refine ⟨h.1, ?_⟩
  rcases h.2 with h2 | ⟨g, cap, cur, hv, _, r⟩
  · exact .inl h2
  · exact .inr ⟨g, cap, cur, hv, Nat.zero_le _, r⟩
/-- A boxed row, behind block B. -/
structure BoxR (B : Nat) (sb : Nat) (v : Value) (l : List Nat) (w : World) : Prop where
  box : w.heap[sb]? = some (Obj.cells #[v] 28)
  row : w.ownsRow B 3 1 v l.length (rowL l)
  sbB : B ≤ sb
theorem BoxR.keep {B sb : Nat} {v : Value} {l : List Nat} {w w' : World} {T : Nat → Prop} (h : BoxR B sb v l w) (he : Else T w w') (hT : ∀ k, T k → k < B) : BoxR B sb v l w' := by
  refine ⟨(he.block sb (Array.getElem?_eq_some_iff.1 h.box).1 (fun hx => by have := hT sb hx; have := h.sbB; omega)).trans h.box, ⟨h.row.1, ?_⟩, h.sbB⟩
  rcases h.row.2 with h2 | ⟨g, cap, cur, hv, hg, hh, r⟩
  · exact .inl h2
  · exact .inr ⟨g, cap, cur, hv, hg, (he.block g (Array.getElem?_eq_some_iff.1 hh).1 (fun hx => by have := hT g hx; omega)).trans hh, r⟩
set_option maxRecDepth 100000 in
set_option maxHeartbeats 1000000 in
theorem put_any (w : World) (B sb : Nat) (v : Value) (l : List Nat) (j : Nat) (h : BoxR B sb v l w) (hl : l.length ≤ 1048576) :
    Calls Try.prog 30 (#[.int .i64 (j : Nat)] ++ #[.pointer (some ⟨sb, 0, none⟩)]) w fun e w' => e = .returned (.tuple #[]) ∧ (∃ v', BoxR B sb v' (l ++ [j]) w') ∧ Else (fun k => B ≤ k) w w' := by
  have hlt := (Array.getElem?_eq_some_iff.1 h.box).1
  have c0 : w.cell? ⟨sb, 0, none⟩ = some v := cell_of_row w sb 0 _ _ _ h.box
  obtain ⟨Aa, ca, rfl, _, _⟩ := own_form h.row
  obtain ⟨g, cp, w1, hrun, hown, hgr, hat⟩ := app_int w _ l.length _ (row_zero h.row) j (by omega)
  have hne : (Value.slice Aa l.length ca).ownBlock ≠ some sb := row_ne (row_zero h.row) h.box (by decide)
  have hb1 : w1.heap[sb]? = some (Obj.cells #[.slice Aa l.length ca] 28) := (hgr.block sb (by rw [World.size_alloc]; omega) (fun e => hne e.symm)).trans ((Below.heap_alloc _ _ _ hlt).trans h.box)
  have hl1 := (Array.getElem?_eq_some_iff.1 hb1).1
  have z1 : w1.frozen? ⟨sb, 0, none⟩ = false := by simp [World.frozen?, hb1]
  have d1 : w1.cell? ⟨sb, 0, none⟩ = some (.slice Aa l.length ca) := cell_of_row w1 sb 0 _ _ _ hb1
  have hgB : B ≤ g := by
    rcases hat with e | e
    · exact (h.row.lt g e).1
    · have := h.sbB; omega
  have hfin : (∃ v', BoxR B sb v' (l ++ [j]) (w1.setCell ⟨sb, 0, none⟩ (.slice (some ⟨g, 0, none⟩) (l.length + 1) cp))) ∧ Else (fun k => B ≤ k) w (w1.setCell ⟨sb, 0, none⟩ (.slice (some ⟨g, 0, none⟩) (l.length + 1) cp)) := by
    refine ⟨⟨.slice (some ⟨g, 0, none⟩) (l.length + 1) cp, heap_setCell_same w1 sb 0 _ _ _ hb1, ?_, h.sbB⟩, ?_⟩
    · rw [List.length_append, List.length_singleton, rowL_snoc]
      have hs : (Value.slice (some ⟨g, 0, none⟩) (l.length + 1) cp).ownBlock ≠ some sb := row_ne hown hb1 (by decide)
      refine ownsRow_setCell_other ⟨hown.1, ?_⟩ hs _
      rcases hown.2 with h2 | ⟨g', cap, cur, hv, _, r⟩
      · exact .inl h2
      · have : g = g' := by injection hv with hv; injection hv with hv; injection hv
        subst this
        exact .inr ⟨g, cap, cur, hv, hgB, r⟩
    · exact ((Else.alloc _ w _).trans (Else.grown hgr fun k hk => (h.row.lt k hk).1)).trans (Else.set w1 (p := ⟨sb, 0, none⟩) h.sbB _)
  have HF := Lib.hid hfin
  clear hfin hown hgr hat hne hb1 h
  go_enter Try.func30, Try.ntmps30
  go_wp2_with fail
  exact bodyPost_end (results_none rfl _ _ _) rfl ⟨rfl, HF.out⟩
/-- What each owes: the ring's elements, one behind the other. -/
def EachPost (S : Nat → Prop) (w : World) (b n B sb : Nat) (A Z X : Value) (par sz nx : Nat → Nat) (sets steps : Int) (l0 L : List Nat) (e : Ending) (w' : World) : Prop :=
  e = .returned (.tuple #[]) ∧ FM S w' b n A Z X par sz nx sets (steps + (L.length : Nat)) ∧ (∃ v', BoxR B sb v' (l0 ++ L) w') ∧ Else (fun k => S k ∨ B ≤ k) w w'
def stepsAt (b : Nat) (w : World) : Int := match w.cell? ⟨b, 4, none⟩ with
  | some (.int _ n) => n
  | _ => 0
def EachRel (S : Nat → Prop) (w : World) (b n B sb : Nat) (A Z X : Value) (par sz nx : Nat → Nat) (sets steps : Int) (l0 L : List Nat) (i : Nat) (s : Value) (wr : World) : Prop :=
  ∃ (l1 l2 : List Nat) (j : Nat) (v' : Value), s = .int .i64 (j : Int) ∧ L = l1 ++ j :: l2 ∧ Pth nx j (j :: l2) i ∧ FM S wr b n A Z X par sz nx sets (steps + (l1.length : Nat)) ∧ BoxR B sb v' (l0 ++ l1) wr ∧ Else (fun k => S k ∨ B ≤ k) w wr
set_option maxRecDepth 100000 in
set_option maxHeartbeats 1000000 in
theorem each_any {S : Nat → Prop} {w : World} {b n B sb : Nat} {A Z X v : Value} {par sz nx : Nat → Nat} {sets steps : Int} {l0 L : List Nat} {i : Nat} (h : FM S w b n A Z X par sz nx sets steps) (hS : ∀ k, S k → k < B) (hbx : BoxR B sb v l0 w) (hi : i < n) (hn : n ≤ 1048576)
    (hL : Pth nx i L i) (hne : L ≠ []) (hd : L.Nodup) (hlt : ∀ j ∈ L, j < n) (hlen : l0.length + L.length ≤ 1048576) (hst : 0 ≤ steps ∧ steps ≤ 100000000000000) :
    Calls Try.prog 29 #[.pointer (some ⟨b, 0, none⟩), .int .i64 (i : Nat), .func (.func 30) #[] #[.pointer (some ⟨sb, 0, none⟩)]] w (EachPost S w b n B sb A Z X par sz nx sets steps l0 L) := by
  have H := Lib.hid (And.intro h (And.intro hbx (And.intro hL (And.intro hne (And.intro hd hlt)))))
  clear h hbx hL hne hd hlt
  have hi0 : i ∈ L := by
    obtain ⟨_, _, hL, hne, _⟩ := H.out
    rcases hL.head with ⟨_, e⟩ | ⟨M, e⟩
    · exact absurd e hne
    · rw [e]; exact List.mem_cons_self
  go_enter Try.func29, Try.ntmps29
  go_wp2_with fail
  go_loopw [6] (fun s wr => EachRel S w b n B sb A Z X par sz nx sets steps l0 L i s wr) (fun _ wr => (steps + (L.length : Nat) - stepsAt b wr).toNat)
  case atStart =>
    obtain ⟨h, hbx, hL, hne, hd, hlt⟩ := H.out
    rcases hL.head with ⟨_, e⟩ | ⟨M, e⟩
    · exact absurd e hne
    · exact ⟨[], M, i, v, rfl, by rw [e]; rfl, by rw [← e]; exact hL, by simpa using h, by simpa using hbx, Else.refl _ _⟩
  case round =>
    obtain ⟨l1, l2, j, v', rfl, hLe, hP, hF, hB, hE⟩ := hrel
    obtain ⟨_, _, hL, hne, hd, hlt⟩ := H.out
    have hlen1 : L.length = l1.length + l2.length + 1 := by rw [hLe]; simp; omega
    have hb1 : l1.length ≤ 1048576 := by omega
    have hjn : j < n := hlt j (by rw [hLe]; simp)
    obtain ⟨c0, c1, c2, c3, c4⟩ := hF.cells
    have hl := hF.lt
    obtain ⟨gx, cx, rfl, hgx, hxl⟩ := own_shape hF.rx (by omega)
    have hz : wr.frozen? ⟨b, 4, none⟩ = false := hF.frozen 4
    have hat : stepsAt b wr = steps + (l1.length : Nat) := by unfold stepsAt; rw [c4]
    have hF1 := hF.set4 (steps + (l1.length : Nat) + 1)
    have hE1 : Else S wr (wr.setCell ⟨b, 4, none⟩ (.int .i64 (steps + (l1.length : Nat) + 1))) := Else.set wr (p := ⟨b, 4, none⟩) hF.sb _
    have hB1 := hB.keep hE1 hS
    have HC := put_any _ B sb v' (l0 ++ l1) j hB1 (by rw [List.length_append]; omega)
    have hpj : Pth nx (nx j) l2 i := by cases hP with | cons h => exact h
    have HR := Lib.hid (And.intro hLe (And.intro hF1 (And.intro (hE.trans (hE1.mono fun k hk => .inl hk)) (And.intro hat (And.intro hlen1 (And.intro hpj (And.intro hL hd)))))))
    clear hLe hF hB hE hF1 hE1 hB1 hat hlen1 hP hpj hL hne hd hlt
    go_wp2_with fail
    refine HC.mono ?_
    rintro e w2 ⟨rfl, ⟨v2, hB2⟩, hE2⟩
    obtain ⟨hLe, hF1, hE1, hat, hlen1, hpj, hL, hd⟩ := HR.out
    have hF2 := hF1.keep hE2 (fun k hk hk2 => by have := hS k hk; omega)
    have hE3 := hE1.trans (hE2.mono fun k hk => .inr hk)
    obtain ⟨d0, d1, d2, d3, d4⟩ := hF2.cells
    have r1 : w2.cell? ⟨gx, j, none⟩ = some (.int .i64 (nx j : Nat)) := (hF2.rx.cellAt j (by omega)).trans (rowI_get hjn)
    have hl2 := hF2.lt
    have hat2 : stepsAt b w2 = steps + (l1.length : Nat) + 1 := by unfold stepsAt; rw [d4]
    have e1 : steps + ((l1 ++ [j]).length : Nat) = steps + (l1.length : Nat) + 1 := by rw [List.length_append, List.length_singleton]; omega
    rw [List.append_assoc] at hB2
    cases l2 with
    | nil =>
      have hnx : nx j = i := by cases hpj; rfl
      have f1 : ((nx j : Int) == (i : Int)) = true := by rw [hnx]; simp
      have HFIN := Lib.hid (And.intro hLe (And.intro hF2 (And.intro hB2 (And.intro hE3 e1))))
      clear hLe hF1 hE1 hat hlen1 hpj hL hd hF2 hE3 d0 d1 d3 d4 hB2 hE2 hat2 e1 hnx
      go_wp2_with fail
      refine bodyPost_ret (results_none rfl _ _ _) rfl ?_
      obtain ⟨hLe, hF2, hB2, hE3, e1⟩ := HFIN.out
      subst hLe
      refine ⟨rfl, ?_, ⟨v2, hB2⟩, hE3⟩
      rw [e1]; exact hF2
    | cons a l2 =>
      have hnx : nx j = a := by cases hpj; rfl
      have hai : a ≠ i := by
        intro e
        subst e
        rw [hLe] at hd hi0
        have hd' : ((l1 ++ [j]) ++ (a :: l2)).Nodup := by rw [List.append_assoc]; exact hd
        have hdis := (List.nodup_append.1 hd').2.2
        have hmem : a ∈ l1 ++ [j] := by
          rcases hL.head with ⟨_, e⟩ | ⟨M, e⟩
          · rw [hLe] at e; simp at e
          · rw [hLe] at e
            cases l1 with
            | nil => simp at e; simp [e.1]
            | cons x l1 => simp at e; simp [e.1]
        exact hdis a hmem a List.mem_cons_self rfl
      have f1 : ((nx j : Int) == (i : Int)) = false := by rw [hnx]; simp; omega
      have HFIN := Lib.hid (And.intro hLe (And.intro hF2 (And.intro hB2 (And.intro hE3 (And.intro e1 (And.intro hat (And.intro hat2 (And.intro hlen1 (And.intro hnx hpj)))))))))
      clear hLe hF1 hE1 hat hlen1 hpj hL hd hF2 hE3 d0 d1 d3 d4 hB2 hE2 hat2 e1
      go_wp2_with fail
      go_roundw
      case rel =>
        obtain ⟨hLe, hF2, hB2, hE3, e1, hat, hat2, hlen1, hnx, hpj⟩ := HFIN.out
        refine ⟨l1 ++ [j], l2, a, v2, rfl, by rw [hLe, List.append_assoc]; rfl, by rw [hnx] at hpj; exact hpj, ?_, hB2, hE3⟩
        rw [e1]; exact hF2
      case measure =>
        obtain ⟨hLe, hF2, hB2, hE3, e1, hat, hat2, hlen1, hnx, hpj⟩ := HFIN.out
        rw [hat, hat2]
        omega
end Go.Proofs.Ytamieophdnnbnaa.Un
