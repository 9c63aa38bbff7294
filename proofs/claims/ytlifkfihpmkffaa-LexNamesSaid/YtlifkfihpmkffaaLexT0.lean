/- What the law LexBack asks, of plain tokens; its loop's invariant. -/
import Derived.Test.YtlifkfihpmkffaaLexK
import Derived.Test.YtlifkfihpmkffaaLexR
import Derived.Test.YtlifkfihpmkffaaLexS
import Derived.Test.YtlifkfihpmkffaaLexH0
namespace Go.Proofs.Ytlifkfihpmkffaa
open Go.RowKit

theorem intercalate_cons2 (x y : List UInt8) (r : List (List UInt8)) : Lib.join (x :: y :: r) [32] = x ++ 32 :: Lib.join (y :: r) [32] := by
  simp [Lib.join, List.intercalate]
theorem bs_joinS (xs : List ByteArray) : bs (joinS xs) = joinL (xs.map bs) := by
  have h : ∀ ys : List (List UInt8), (Lib.join ys [32]).map (fun c => (c.toNat : Int)) = joinL (ys.map fun y => y.map fun c => (c.toNat : Int)) := by
    intro ys
    induction ys with
    | nil => rfl
    | cons y r ih =>
      cases r with
      | nil => rw [Lib.join_one]; rfl
      | cons z r =>
        rw [intercalate_cons2, List.map_append, List.map_cons, ih]
        rfl
  unfold joinS bs
  show List.map _ (Lib.join _ [32]) = _
  rw [h, List.map_map]
  rfl
theorem kind_ne (l : List Int) (k : Nat) (kd : Int) (to : Nat) (h : tokenT l k = (kd, to, 0)) : kd ≠ 0 := by
  unfold tokenT wordT numberT signT at h
  intro h0
  subst h0
  repeat' split at h
  all_goals first | (injection h with h1 h2; cases h1; done) | (injection h with h1 h2; injection h2 with h2 h3; cases h3; done)
theorem printed_tokens (s : ByteArray) (ts : List (Int × Nat × Nat)) (h : ∀ t ∈ ts, t.1 ≠ 0) : printed ((ts ++ [(0, s.size, s.size)]).map (tv s)) = ts.map (fun t => s.extract t.2.1 t.2.2) := by
  unfold printed
  rw [List.map_append, List.filter_append, List.map_append]
  have h1 : List.filter (fun t : TV => t.1 != 0) (List.map (tv s) [(0, s.size, s.size)]) = [] := by simp [tv]
  rw [h1, List.map_nil, List.append_nil, List.filter_eq_self.2, List.map_map]
  · rfl
  · intro x hx
    obtain ⟨t, ht, rfl⟩ := List.mem_map.1 hx
    simpa [tv] using h t ht
/-- What the tokens of a text, and those of the printed text, have in common, and what is asked of the first. -/
theorem back_facts (s : ByteArray) (ts : List (Int × Nat × Nat)) (h : wordsE (bs s) = .ok ts) : ∃ us, wordsE (bs (joinS (ts.map fun t => s.extract t.2.1 t.2.2))) = .ok us ∧ us.length = ts.length ∧
    ∀ i (h1 : i < ts.length) (h2 : i < us.length), us[i].1 = ts[i].1 ∧ (joinS (ts.map fun t => s.extract t.2.1 t.2.2)).extract us[i].2.1 us[i].2.2 = s.extract ts[i].2.1 ts[i].2.2 := by
  obtain ⟨us, h1, h2⟩ := words_back (bs s) ts h
  have e : bs (joinS (ts.map fun t => s.extract t.2.1 t.2.2)) = joinL (ts.map fun t => sub (bs s) t.2.1 t.2.2) := by
    rw [bs_joinS, List.map_map]
    congr 1
    apply List.map_congr_left
    intro t _
    exact bs_extract s _ _
  refine ⟨us, by rw [e]; exact h1, by have := congrArg List.length h2; simpa using this, ?_⟩
  intro i hi1 hi2
  have h3 : (us.map (fun u => (u.1, sub (joinL (ts.map fun t => sub (bs s) t.2.1 t.2.2)) u.2.1 u.2.2)))[i]? = (ts.map (fun t => (t.1, sub (bs s) t.2.1 t.2.2)))[i]? := by rw [h2]
  rw [List.getElem?_map, List.getElem?_map, List.getElem?_eq_getElem hi1, List.getElem?_eq_getElem hi2] at h3
  simp only [Option.map_some, Option.some.injEq, Prod.mk.injEq] at h3
  refine ⟨h3.1, ?_⟩
  apply bs_inj
  rw [bs_extract, bs_extract, e]
  exact h3.2
theorem joinS_size (xs : List ByteArray) (h : ∀ x ∈ xs, x.size ≤ 400) (hl : xs.length ≤ 400) : (joinS xs).size ≤ 1000000 := by
  have : (joinS xs).size = (Lib.join (xs.map (·.data.toList)) [32]).length := by
    show (Lib.join (xs.map (·.data.toList)) [32]).toArray.size = _
    simp
  rw [this]
  cases xs with
  | nil => simp [Lib.join_nil]
  | cons x r =>
    have h2 : ∀ ys : List ByteArray, (∀ x ∈ ys, x.size ≤ 400) → Lib.lens (ys.map (·.data.toList)) ≤ ys.length * 400 := by
      intro ys hy
      induction ys with
      | nil => simp [Lib.lens]
      | cons y r ih =>
        have h1 := ih (fun z hz => hy z (by simp [hz]))
        have h2 := hy y (by simp)
        unfold Lib.lens at h1 ⊢
        simp only [List.map_cons, List.sum_cons, List.length_cons, Array.length_toList] at h1 ⊢
        have : y.data.size = y.size := rfl
        omega
    rw [List.map_cons, Lib.join_length]
    have := h2 (x :: r) h
    rw [List.map_cons] at this
    simp only [List.length_cons, List.length_nil, List.length_map] at this hl ⊢
    omega
theorem extract_size (s : ByteArray) (a b : Nat) (h : b ≤ s.size) : (s.extract a b).size ≤ b := by
  rw [ByteArray.size_extract]; omega

/-- What is known of the tokens number k, in memory. -/
def LBFact (s : ByteArray) (b1 o1 b2 o2 : Nat) (w3 : World) (k : Nat) : Prop := ∃ (t0 : Int) (p q : Nat), (p ≤ q ∧ q ≤ s.size) ∧ (w3.cell? ⟨b1, o1 + k * 4, none⟩ = some (.int .i64 t0) ∧ w3.cell? ⟨b1, o1 + k * 4 + 1, none⟩ = some (.string (s.extract p q)) ∧ w3.cell? ⟨b1, o1 + k * 4 + 2, none⟩ = some (.int .i64 p) ∧ w3.cell? ⟨b1, o1 + k * 4 + 3, none⟩ = some (.int .i64 q)) ∧
          (w3.cell? ⟨b2, o2 + k * 4, none⟩ = some (.int .i64 t0) ∧ w3.cell? ⟨b2, o2 + k * 4 + 1, none⟩ = some (.string (s.extract p q))) ∧
          (∀ j, k = j + 1 → ∃ q' : Nat, q' ≤ p ∧ w3.cell? ⟨b1, o1 + j * 4 + 3, none⟩ = some (.int .i64 q'))
noncomputable def lbBody : Code := ((Try.f10.body.bind firstLoop).getD .skip)
set_option maxRecDepth 1000000 in
def LBI (s : ByteArray) (b1 o1 c1 b2 o2 c2 n : Nat) (w3 : World) (a : Act) (w' : World) : Prop := ∃ u2 u4 u5 u7 u8 u9 u10 u11 u12 u13 u14 u15 u16 u17 u18 u19 u20 u21 u22 u23 u24 u25 u26 u27 u28 u29 u30 u31 u32 u33 u34 u35 u36 u37 u38 u39 u40 u41 u42 u43 u44 u45 u46 u47 u48 u49 u50 u51 u52 u53 u54 u55 u56 u57 u58 u59 u60 u61 u62 u63 u64 u65 u66 u67 u68 u69 u70 u71 u72 u73 u74 u75 u76 u77 u78 u79 u80 u81 u82 u83 u84 u85 u86 u87 u88 u89 u90 u91 u92 u93 u94 u95 u96 u97 u98 u99 u100 u101 u102 u103 u104 u105 u106 u107 u108 u109 u110 u111 u112 u113 u114 u115 u116 u117 u118 u119 u120 u121 u122 u123 u124 u125 u126 u127 u128 u129 u130 u131 u132 u133 u134 u135 u136 u137 u138 u139 : Value, (∃ k : Nat, k ≤ n + 1 ∧ u9 = .int .i64 k ∧ Below w3.heap.size w3 w') ∧ a = ⟨#[.string s, undef, u2, .slice (some ⟨b1, o1, none⟩) (n + 1) c1, u4, u5, .slice (some ⟨b2, o2, none⟩) (n + 1) c2, u7, u8, u9, u10, u11, u12, u13, u14, u15, u16, u17, u18, u19, u20, u21, u22, u23, u24, u25, u26, u27, u28, u29, u30, u31, u32, u33, u34, u35, u36, u37, u38, u39, u40, u41, u42, u43, u44, u45, u46, u47, u48, u49, u50, u51, u52, u53, u54, u55, u56, u57, u58, u59, u60, u61, u62, u63, u64, u65, u66, u67, u68, u69, u70, u71, u72, u73, u74, u75, u76, u77, u78, u79, u80, u81, u82, u83, u84, u85, u86, u87, u88, u89, u90, u91, u92, u93, u94, u95, u96, u97, u98, u99, u100, u101, u102, u103, u104, u105, u106, u107, u108, u109, u110, u111, u112, u113, u114, u115, u116, u117, u118, u119, u120, u121, u122, u123, u124, u125, u126, u127, u128, u129, u130, u131, u132, u133, u134, u135, u136, u137, u138, u139], []⟩
def lbMu (n : Nat) (a : Act) : Nat := n + 1 - (intOf (a.tmps.getD 9 undef)).toNat
end Go.Proofs.Ytlifkfihpmkffaa
