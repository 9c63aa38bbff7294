/- signature: the reader's token, sees; named; the answer's Is. -/
import Derived.Test.YtjmbkkpglkbppaaDoorSgM
import Derived.Test.YtjmbkkpglkbppaaDoorTyG
import Derived.Deep.RegionHeld3
import Derived.Deep.RegionWith
import Derived.Handy
import Derived.Test.YtjmbkkpglkbppaaDoorLexF
import Derived.Deep.QuietTactic
import Derived.BigQuiet
import Derived.WalkSpells
import Derived.Lib.Hide
namespace Go.Proofs.YtjmbkkpglkbppaaDoor
open Go.RowKit

/-- The token at a place; outside one of the kind End. -/
def tokAt (ts : List TV) (i : Int) : TV := if 0 ≤ i then ts.getD i.toNat (0, ⟨#[]⟩, 0, 0) else (0, ⟨#[]⟩, 0, 0)
def tokV (t : TV) : Value := .agg #[.int .i64 t.1, .string t.2.1, .int .i64 t.2.2.1, .int .i64 t.2.2.2]
theorem tokAt_out (ts : List TV) (i : Int) (h : i < 0 ∨ (ts.length : Int) ≤ i) : tokAt ts i = (0, ⟨#[]⟩, 0, 0) := by
  unfold tokAt
  split
  · rw [List.getD_eq_getElem?_getD, List.getElem?_eq_none (by omega)]; rfl
  · rfl
theorem tokAt_in (ts : List TV) (k : Nat) (h : k < ts.length) : tokAt ts (k : Int) = ts[k] := by
  unfold tokAt
  rw [if_pos (by omega), List.getD_eq_getElem?_getD, Int.toNat_natCast, List.getElem?_eq_getElem h]; rfl
/-- The reader's cells. -/
def rdC (tv : Value) (i lev most : Int) (bf av : Value) : Array Value := #[tv, .int .i64 i, .int .i64 lev, .int .i64 most, bf, av]
def RdrAt (w : World) (rb : Nat) (tv : Value) (i lev most : Int) (bf av : Value) : Prop := w.heap[rb]? = some (Obj.cells (rdC tv i lev most bf av) 51)
theorem RdrAt.lt {w : World} {rb : Nat} {tv : Value} {i lev most : Int} {bf av : Value} (h : RdrAt w rb tv i lev most bf av) : rb < w.heap.size := (Array.getElem?_eq_some_iff.1 h).1
theorem RdrAt.below {w w' : World} {rb : Nat} {tv : Value} {i lev most : Int} {bf av : Value} (h : RdrAt w rb tv i lev most bf av) (hb : Below w.heap.size w w') : RdrAt w' rb tv i lev most bf av := (hb.block rb h.lt).trans h
theorem RdrAt.cells {w : World} {rb : Nat} {tv : Value} {i lev most : Int} {bf av : Value} (h : RdrAt w rb tv i lev most bf av) :
    w.cell? ⟨rb, 0, none⟩ = some tv ∧ w.cell? ⟨rb, 1, none⟩ = some (.int .i64 i) ∧ w.cell? ⟨rb, 2, none⟩ = some (.int .i64 lev) ∧ w.cell? ⟨rb, 3, none⟩ = some (.int .i64 most) ∧ w.cell? ⟨rb, 4, none⟩ = some bf ∧ w.cell? ⟨rb, 5, none⟩ = some av :=
  ⟨cell_of_row w rb 0 _ _ (0, 0) h, cell_of_row w rb 1 _ _ (0, 0) h, cell_of_row w rb 2 _ _ (0, 0) h, cell_of_row w rb 3 _ _ (0, 0) h, cell_of_row w rb 4 _ _ (0, 0) h, cell_of_row w rb 5 _ _ (0, 0) h⟩
theorem below_set4 {B : Nat} {w W : World} (h : Below B w W) (g : Nat) (hg : B ≤ g) (a b c d : Value) : Below B w ((((W.setCell ⟨g, 0, none⟩ a).setCell ⟨g, 1, none⟩ b).setCell ⟨g, 2, none⟩ c).setCell ⟨g, 3, none⟩ d) :=
  (((h.setCell hg _).setCell hg _).setCell hg _).setCell hg _
theorem load_tok {w : World} {g : Nat} {k a b : Int} {s : ByteArray} (h0 : w.cell? ⟨g, 0, none⟩ = some (.int .i64 k)) (h1 : w.cell? ⟨g, 1, none⟩ = some (.string s)) (h2 : w.cell? ⟨g, 2, none⟩ = some (.int .i64 a)) (h3 : w.cell? ⟨g, 3, none⟩ = some (.int .i64 b)) :
    (loadVar 45 ⟨g, 0, none⟩).run Tryd.prog w = .ok (tokV (k, s, a, b)) w := by
  unfold tokV
  go_simp
set_option maxRecDepth 100000 in
set_option maxHeartbeats 1000000 in
theorem stoken_any (w : World) (rb : Nat) (tv : Value) (ts : List TV) (i lev most : Int) (bf av : Value) (hr : RdrAt w rb tv i lev most bf av) (ht : RdT w tv ts) (hts : ts.length ≤ 1000000) :
    Calls Tryd.prog 51 #[.pointer (some ⟨rb, 0, none⟩)] w fun e w' => e = .returned (tokV (tokAt ts i)) ∧ Below w.heap.size w w' := by
  have hl := hr.lt
  obtain ⟨c0, c1, _, _, _, _⟩ := hr.cells
  have htf := fun h => ht.form h
  obtain ⟨A, cp, hv⟩ : ∃ A cp, tv = .slice A ts.length cp := by
    rcases ht.2 with ⟨h0, A, c, hv⟩ | ⟨b, off, cap, hv, _⟩
    · exact ⟨A, c, by rw [hv, h0]⟩
    · exact ⟨_, _, hv⟩
  subst hv
  have HTF := Lib.hid htf
  obtain ⟨n, hn⟩ : ∃ n, ts.length = n := ⟨_, rfl⟩
  rw [hn] at c0 hts
  have HN := Lib.hid hn
  have HB := Lib.hid (show ∀ o, Below w.heap.size w (w.alloc o) from fun o => (Below.refl _ w).alloc (Nat.le_refl _) _)
  clear htf hr ht hn
  by_cases h1 : i < 0
  · have HT := Lib.hid (tokAt_out ts i (.inl h1))
    have f1 : decide (i < 0) = true := decide_eq_true h1
    go_enter Tryd.func51, Tryd.ntmps51
    go_wp2_with fail
    go_quiet (fail)
    go_wp2_with fail
    exact bodyPost_ret (results_box rfl _ _ _ _ rfl (load_tok (k := 0) (a := 0) (b := 0) (s := ⟨#[]⟩) (by go_simp) (by go_simp) (by go_simp) (by go_simp))) rfl ⟨by rw [HT.out], below_set4 (below_drewN (HB.out _) _) _ (Nat.le_refl _) _ _ _ _⟩
  have f1 : decide (i < 0) = false := decide_eq_false h1
  obtain ⟨k, rfl⟩ : ∃ k : Nat, i = k := ⟨i.toNat, by omega⟩
  by_cases h2 : (n : Int) ≤ (k : Int)
  · have HT := Lib.hid (tokAt_out ts k (.inr (by rw [HN.out]; exact h2)))
    have f2 : decide ((n : Int) ≤ (k : Int)) = true := decide_eq_true h2
    have f3 : decide (n ≤ k) = true := decide_eq_true (by omega)
    go_enter Tryd.func51, Tryd.ntmps51
    go_wp2_with fail
    go_quiet (fail)
    go_wp2_with fail
    exact bodyPost_ret (results_box rfl _ _ _ _ rfl (load_tok (k := 0) (a := 0) (b := 0) (s := ⟨#[]⟩) (by go_simp) (by go_simp) (by go_simp) (by go_simp))) rfl ⟨by rw [HT.out], below_set4 (below_drewN (HB.out _) _) _ (Nat.le_refl _) _ _ _ _⟩
  · have hk : k < ts.length := by rw [HN.out]; omega
    have HT := Lib.hid (tokAt_in ts k hk)
    obtain ⟨b, off, cap, hv, _, _, hlt, hc⟩ := HTF.out (by omega)
    have hv2 := hv
    injection hv2 with hA _ hcc
    subst hA; subst hcc
    obtain ⟨d0, d1, d2, d3⟩ := hc k hk
    generalize ts[k] = t at *
    obtain ⟨t0, t1, t2, t3⟩ := t
    dsimp only at d0 d1 d2 d3
    clear hc hv
    have f2 : decide ((n : Int) ≤ (k : Int)) = false := decide_eq_false h2
    have f3 : decide (n ≤ k) = false := decide_eq_false (by omega)
    have f4 : decide ((k : Int) < (n : Int)) = true := decide_eq_true (by omega)
    have f5 : decide (k < n) = true := decide_eq_true (by omega)
    have hkn : k < n := by omega
    go_enter Tryd.func51, Tryd.ntmps51
    go_wp2_with fail
    go_quiet (fail)
    go_wp2_with fail
    go_region
    go_wp2_with fail
    exact bodyPost_ret (results_box rfl _ _ _ _ rfl (load_tok (k := t0) (a := t2) (b := t3) (s := t1) (by go_simp) (by go_simp) (by go_simp) (by go_simp))) rfl ⟨by rw [HT.out], below_set4 (below_drewN (HB.out _) _).drew _ (Nat.le_refl _) _ _ _ _⟩
/-- Whether a sign stands at a place. -/
def seesB (ts : List TV) (i : Int) (x : List UInt8) : Bool := (tokAt ts i).1 == 4 && (tokAt ts i).2.1.toList == x
set_option maxRecDepth 100000 in
set_option maxHeartbeats 1000000 in
theorem sees_any (w : World) (rb : Nat) (tv : Value) (ts : List TV) (i lev most : Int) (bf av : Value) (x : ByteArray) (hr : RdrAt w rb tv i lev most bf av) (ht : RdT w tv ts) (hts : ts.length ≤ 1000000) :
    Calls Tryd.prog 49 #[.pointer (some ⟨rb, 0, none⟩), .string x] w fun e w' => e = .returned (.bool (seesB ts i x.toList)) ∧ Below w.heap.size w w' := by
  have HC := Lib.hid (stoken_any w rb tv ts i lev most bf av hr ht hts)
  unfold seesB
  clear hr ht
  generalize tokAt ts i = t at *
  obtain ⟨t0, t1, t2, t3⟩ := t
  unfold tokV at HC
  dsimp only at HC ⊢
  by_cases h0 : t0 = 4
  case' pos => subst h0
  case' neg => have f0 : (t0 == 4) = false := beq_eq_false_iff_ne.2 h0
  all_goals
    go_enter Tryd.func49, Tryd.ntmps49
    go_wp2_with fail
    refine HC.out.mono ?_
    rintro e w1 ⟨rfl, hbw⟩
    go_wp2_with fail
    go_ret
    exact ⟨ret_bool (by simp [*]), hbw.alloc hbw.size _⟩
theorem results_box_tmp {P : Program} {fn : Func} {p q : Tmp} {ty : TypeId} (h : fn.results = #[.cell p ty, .tmp q]) (tmps : Array Value) (w : World) (g : Nat) (v : Value)
    (hp : tmps.getD p undef = .pointer (some ⟨g, 0, none⟩)) (hl : (loadVar ty ⟨g, 0, none⟩).run P w = .ok v w) : (results fn tmps).run P w = .ok (.tuple #[v, tmps.getD q undef]) w := by
  have hp' : tmps[p]?.getD undef = .pointer (some ⟨g, 0, none⟩) := by simpa using hp
  simp [results, h, hp', asAddr, hl]
theorem results_box_tmp2 {P : Program} {fn : Func} {p q r : Tmp} {ty : TypeId} (h : fn.results = #[.cell p ty, .tmp q, .tmp r]) (tmps : Array Value) (w : World) (g : Nat) (v : Value)
    (hp : tmps.getD p undef = .pointer (some ⟨g, 0, none⟩)) (hl : (loadVar ty ⟨g, 0, none⟩).run P w = .ok v w) : (results fn tmps).run P w = .ok (.tuple #[v, tmps.getD q undef, tmps.getD r undef]) w := by
  have hp' : tmps[p]?.getD undef = .pointer (some ⟨g, 0, none⟩) := by simpa using hp
  simp [results, h, hp', asAddr, hl]
/-- A type that a word stands for. -/
def namedB (t : TV) : Option (Int × Int) := if t.1 = 3 ∧ t.2.1.toList = [105, 110, 116] then some (2, 0) else if t.1 = 3 ∧ t.2.1.toList = [98, 111, 111, 108] then some (3, 0) else none
/-- What such a question answers. -/
def bsV (x : Option (Int × Int)) : Value := match x with
  | some (k, n) => .tuple #[tyVal k n (.slice none 0 0), .bool true]
  | none => .tuple #[tyVal 0 0 (.slice none 0 0), .bool false]
theorem below_set3 {B : Nat} {w W : World} (h : Below B w W) (g : Nat) (hg : B ≤ g) (a b c : Value) : Below B w (((W.setCell ⟨g, 0, none⟩ a).setCell ⟨g, 1, none⟩ b).setCell ⟨g, 2, none⟩ c) :=
  ((h.setCell hg _).setCell hg _).setCell hg _
set_option maxRecDepth 100000 in
set_option maxHeartbeats 1000000 in
theorem named_any (w : World) (t : TV) : Calls Tryd.prog 16 #[tokV t] w fun e w' => e = .returned (bsV (namedB t)) ∧ Below w.heap.size w w' := by
  obtain ⟨t0, t1, t2, t3⟩ := t
  unfold tokV
  dsimp only
  have HB := Lib.hid (show ∀ o o', Below w.heap.size w ((w.alloc o).alloc o') from fun o o' => ((Below.refl _ w).alloc (Nat.le_refl _) _).alloc (by simp) _)
  by_cases h0 : t0 = 3
  · subst h0
    by_cases h1 : t1.toList = [105, 110, 116]
    · have HX := Lib.hid (show namedB (3, t1, t2, t3) = some (2, 0) by simp [namedB, h1])
      have f1 : (t1.toList == [105, 110, 116]) = true := by rw [h1]; rfl
      clear h1
      go_enter Tryd.func16, Tryd.ntmps16
      go_wp2_with fail
      exact bodyPost_ret (results_box_tmp rfl _ _ _ _ rfl (load_ty (k := 2) (n := 0) (u := (none, 0, 0)) (by go_simp) (by go_simp) (by unfold slv; go_simp))) rfl ⟨by rw [HX.out]; rfl, HB.out _ _⟩
    · have f1 : (t1.toList == [105, 110, 116]) = false := beq_eq_false_iff_ne.2 h1
      by_cases h2 : t1.toList = [98, 111, 111, 108]
      · have HX := Lib.hid (show namedB (3, t1, t2, t3) = some (3, 0) by simp [namedB, h2])
        have f2 : (t1.toList == [98, 111, 111, 108]) = true := by rw [h2]; rfl
        clear h1 h2
        go_enter Tryd.func16, Tryd.ntmps16
        go_wp2_with fail
        exact bodyPost_ret (results_box_tmp rfl _ _ _ _ rfl (load_ty (k := 3) (n := 0) (u := (none, 0, 0)) (by go_simp) (by go_simp) (by unfold slv; go_simp))) rfl ⟨by rw [HX.out]; rfl, HB.out _ _⟩
      · have HX := Lib.hid (show namedB (3, t1, t2, t3) = none by simp [namedB, h1, h2])
        have f2 : (t1.toList == [98, 111, 111, 108]) = false := beq_eq_false_iff_ne.2 h2
        clear h1 h2
        go_enter Tryd.func16, Tryd.ntmps16
        go_wp2_with fail
        exact bodyPost_ret (results_box_tmp rfl _ _ _ _ rfl (load_ty (k := 0) (n := 0) (u := (none, 0, 0)) (by go_simp) (by go_simp) (by unfold slv; go_simp))) rfl ⟨by rw [HX.out]; rfl, HB.out _ _⟩
  · have HX := Lib.hid (show namedB (t0, t1, t2, t3) = none by simp [namedB, h0])
    have f1 : (t0 != 3) = true := bne_iff_ne.2 h0
    clear h0
    go_enter Tryd.func16, Tryd.ntmps16
    go_wp2_with fail
    exact bodyPost_ret (results_box_tmp rfl _ _ _ _ rfl (load_ty (k := 0) (n := 0) (u := (none, 0, 0)) (by go_simp) (by go_simp) (by unfold slv; go_simp))) rfl ⟨by rw [HX.out]; rfl, HB.out _ _⟩
set_option maxRecDepth 100000 in
set_option maxHeartbeats 1000000 in
/-- The answer's Is. -/
theorem is_any (w : World) (tv : Value) (ts : List TV) (i k : Int) (x : ByteArray) (ht : RdT w tv ts) (hts : ts.length ≤ 1000000) :
    Calls Tryd.prog 18 #[tv, .int .i64 i, .int .i64 k, .string x] w fun e w' => e = .returned (.bool (decide (0 ≤ i) && decide (i < ts.length) && ((tokAt ts i).1 == k) && ((tokAt ts i).2.1.toList == x.toList))) ∧ Below w.heap.size w w' := by
  have htf := fun h => ht.form h
  obtain ⟨A, cp, hv⟩ : ∃ A cp, tv = .slice A ts.length cp := by
    rcases ht.2 with ⟨h0, A, c, hv⟩ | ⟨b, off, cap, hv, _⟩
    · exact ⟨A, c, by rw [hv, h0]⟩
    · exact ⟨_, _, hv⟩
  subst hv
  have HTF := Lib.hid htf
  obtain ⟨n, hn⟩ : ∃ n, ts.length = n := ⟨_, rfl⟩
  rw [hn] at hts ⊢
  have HN := Lib.hid hn
  clear htf ht hn
  by_cases h1 : i < 0
  · have f1 : decide (0 ≤ i) = false := decide_eq_false (by omega)
    clear h1
    go_enter Tryd.func18, Tryd.ntmps18
    go_wp2_with fail
    go_ret
    exact ⟨ret_bool (by simp [f1]), Below.refl _ _⟩
  obtain ⟨j, rfl⟩ : ∃ j : Nat, i = j := ⟨i.toNat, by omega⟩
  have f1 : decide ((0 : Int) ≤ (j : Int)) = true := decide_eq_true (by omega)
  by_cases h2 : n ≤ j
  · have f2 : decide ((j : Int) < (n : Int)) = false := decide_eq_false (by omega)
    have f3 : decide (j < n) = false := decide_eq_false (by omega)
    clear h1 h2
    go_enter Tryd.func18, Tryd.ntmps18
    go_wp2_with fail
    go_ret
    exact ⟨ret_bool (by simp [f3]), Below.refl _ _⟩
  · have hk : j < ts.length := by rw [HN.out]; omega
    have HT := Lib.hid (tokAt_in ts j hk)
    obtain ⟨b, off, cap, hv, _, _, hlt, hc⟩ := HTF.out (by omega)
    have hv2 := hv
    injection hv2 with hA _ hcc
    subst hA; subst hcc
    obtain ⟨d0, d1, d2, d3⟩ := hc j hk
    rw [HT.out]
    generalize ts[j] = t at *
    obtain ⟨t0, t1, t2, t3⟩ := t
    dsimp only at d0 d1 d2 d3 ⊢
    have f4 : decide ((j : Int) < (n : Int)) = true := decide_eq_true (by omega)
    have f5 : decide (j < n) = true := decide_eq_true (by omega)
    have hkn : j < n := by omega
    have hkn2 : (j : Int) < (n : Int) := by omega
    clear hc hv h1 h2
    by_cases h3 : t0 = k
    case' pos => subst h3
    case' neg => have f6 : (t0 == k) = false := beq_eq_false_iff_ne.2 h3
    all_goals
      go_enter Tryd.func18, Tryd.ntmps18
      go_wp2_with fail
      go_ret
      exact ⟨ret_bool (by simp [*]), Below.refl _ _⟩
end Go.Proofs.YtjmbkkpglkbppaaDoor
