/- Ints; a forest, a row of colors and a copy beside each other. -/
import Derived.Test.YtamieophdnnbnaaUnW
import Derived.Test.YtamieophdnnbnaaUnR
namespace Go.Proofs.Ytamieophdnnbnaa.Un
open Go.RowKit

set_option maxRecDepth 100000 in
set_option maxHeartbeats 1000000 in
theorem ints_same {w : World} {a b : Value} {l : List Nat} (ha : Rd w 1 a l.length (rowL l)) (hb : Rd w 1 b l.length (rowL l)) (hll : l.length ≤ 1000000) :
    Calls Try.prog 17 #[a, b] w fun e w' => e = .returned (.bool true) ∧ Below w.heap.size w w' := by
  obtain ⟨Aa, ca, rfl⟩ : ∃ A c, a = .slice A l.length c := by
    rcases ha.2 with ⟨h0, A, c, rfl⟩ | ⟨b, off, cap, rfl, _⟩
    · exact ⟨A, c, by rw [h0]⟩
    · exact ⟨_, _, rfl⟩
  obtain ⟨Ab, cb, rfl⟩ : ∃ A c, b = .slice A l.length c := by
    rcases hb.2 with ⟨h0, A, c, rfl⟩ | ⟨b, off, cap, rfl, _⟩
    · exact ⟨A, c, by rw [h0]⟩
    · exact ⟨_, _, rfl⟩
  have H := Lib.hid (And.intro ha hb)
  have f0 : (((l.length : Nat) : Int) != (l.length : Nat)) = false := by simp
  clear ha hb
  go_enter Try.func17, Try.ntmps17
  go_wp2_with fail
  go_loopw [5] (fun s wr => ∃ k : Nat, s = .int .i64 (k : Int) ∧ k ≤ l.length ∧ ∃ q, wr = w.drewN q) (fun s _ => ((l.length : Int) - intAt s).toNat)
  case atStart => exact ⟨0, rfl, by omega, 0, rfl⟩
  case round =>
    obtain ⟨k, rfl, hk, q, rfl⟩ := hrel
    by_cases hkn : k < l.length
    · have f1 : decide ((k : Int) < (l.length : Nat)) = true := decide_eq_true (by omega)
      obtain ⟨ga, oa, rfl, hac⟩ : ∃ g off, Aa = some ⟨g, off, none⟩ ∧ w.cell? ⟨g, off + k, none⟩ = some (.int .i64 (l[k] : Nat)) := by
        rcases H.out.1.2 with ⟨h0, _⟩ | ⟨b, off, cap, hv, _, _, _, hc⟩
        · omega
        · injection hv with hv
          exact ⟨b, off, hv, hc k _ (by simp [rowL, hkn])⟩
      obtain ⟨gb, ob, rfl, hbc⟩ : ∃ g off, Ab = some ⟨g, off, none⟩ ∧ w.cell? ⟨g, off + k, none⟩ = some (.int .i64 (l[k] : Nat)) := by
        rcases H.out.2.2 with ⟨h0, _⟩ | ⟨b, off, cap, hv, _, _, _, hc⟩
        · omega
        · injection hv with hv
          exact ⟨b, off, hv, hc k _ (by simp [rowL, hkn])⟩
      obtain ⟨z, hz⟩ : ∃ z, l[k] = z := ⟨_, rfl⟩
      rw [hz] at hac hbc
      have f2 : ((z : Int) != (z : Int)) = false := by simp
      clear hz
      go_wp2_with fail
      go_quiet (fail)
      go_wp2_with fail
      go_roundw
      case rel => exact ⟨k + 1, by go_num, by omega, _, rfl⟩
      case measure =>
        simp only [intAt]
        omega
    · have f1 : decide ((k : Int) < (l.length : Nat)) = false := decide_eq_false (by omega)
      go_wp2_with fail
      go_ret
      exact ⟨rfl, rfl, rfl, rfl, Nat.le_refl _, fun _ _ => rfl⟩
theorem row_else {w w' : World} {B : Nat} {v : Value} {n : Nat} {xs : List Value} {T : Nat → Prop} (h : w.ownsRow B 3 1 v n xs) (he : Else T w w') (hT : ∀ k, v.ownBlock = some k → ¬ T k) : w'.ownsRow B 3 1 v n xs := by
  refine ⟨h.1, ?_⟩
  rcases h.2 with h2 | ⟨g, cap, cur, hv, hg, hh, r⟩
  · exact .inl h2
  · exact .inr ⟨g, cap, cur, hv, hg, (he.block g (Array.getElem?_eq_some_iff.1 hh).1 (hT g (by rw [hv]; rfl))).trans hh, r⟩
theorem row_mono {w : World} {B B' : Nat} {e : TypeId} {size : Nat} {v : Value} {n : Nat} {xs : List Value} (h : w.ownsRow B e size v n xs) (hB : B' ≤ B) : w.ownsRow B' e size v n xs := by
  refine ⟨h.1, ?_⟩
  rcases h.2 with h2 | ⟨g, cap, cur, hv, hg, r⟩
  · exact .inl h2
  · exact .inr ⟨g, cap, cur, hv, Nat.le_trans hB hg, r⟩
theorem fresh_color (m : Nat) (f : Nat → Nat) : ∃ c, ∀ k, k < m → f k < c := by
  induction m with
  | zero => exact ⟨0, fun k hk => by omega⟩
  | succ m ih =>
    obtain ⟨c, hc⟩ := ih
    refine ⟨max c (f m + 1), fun k hk => ?_⟩
    by_cases h : k = m
    · subst h; omega
    · have := hc k (by omega); omega
theorem One.set {w wr : World} {u m : Nat} {c : Nat → Nat} {N : Int} (h : One w u m c N wr) (hN : N ≤ 1000000000) (i : Nat) (hi : i < m) (hm : m ≤ 20) :
    Calls Try.prog 18 #[.pointer (some ⟨w.heap.size, 0, none⟩), .int .i64 (i : Nat)] wr fun e w' => ∃ v, e = .returned v ∧ Rd w' 1 v (mem_ m c i).length (rowL (mem_ m c i)) ∧ One w u m c (N + 42) w' ∧ Else (fun k => w.heap.size ≤ k ∧ k < u) wr w' := by
  obtain ⟨ro, st, h1, h3, h5, h6⟩ := h
  refine (set_in h1 (by omega) i hi).mono ?_
  rintro e w' ⟨v, rfl, hr, ⟨k, hk, hU⟩, hE⟩
  exact ⟨v, rfl, hr, ⟨ro, _, hU, by omega, h5.trans (hE.below (fun k hk => hk.1) h5.size), Nat.le_trans h6 hE.size⟩, hE⟩
/-- The copy, behind block p. -/
def Cop (p b m : Nat) (N : Int) (wr : World) : Prop := ∃ (cg ro : Nat → Nat) (st : Int), UFo (fun k => p ≤ k) wr b m cg ro st ∧ (0 ≤ st ∧ st ≤ N)
theorem copy_one {w wr : World} {u m : Nat} {c : Nat → Nat} {N : Int} (h : One w u m c N wr) (hm : 0 < m) :
    Calls Try.prog 26 #[.pointer (some ⟨w.heap.size, 0, none⟩)] wr fun e w' => ∃ b', e = .returned (.pointer (some ⟨b', 0, none⟩)) ∧ Cop wr.heap.size b' m N w' ∧ Below wr.heap.size wr w' := by
  obtain ⟨ro, st, h1, h3, h5, h6⟩ := h
  refine (copy_in h1 hm).mono ?_
  rintro e w' ⟨b', rfl, hU, hb⟩
  exact ⟨b', rfl, ⟨c, ro, st, hU, h3⟩, hb⟩
/-- All three. -/
structure Tri (w : World) (u p m : Nat) (c : Nat → Nat) (sv : Value) (b n : Nat) (N : Int) (wr : World) : Prop where
  f : One w u m c N wr
  s : wr.ownsRow u 3 1 sv m (rowI m c)
  sp : ∀ k, sv.ownBlock = some k → k < p
  g : Cop p b n N wr
theorem Tri.below {w : World} {u p m : Nat} {c : Nat → Nat} {sv : Value} {b n : Nat} {N : Int} {wr w' : World} (h : Tri w u p m c sv b n N wr) (hb : Below wr.heap.size wr w') : Tri w u p m c sv b n N w' := by
  obtain ⟨cg, ro, st, h1, h2⟩ := h.g
  exact ⟨h.f.below hb, row_later h.s hb, h.sp, cg, ro, st, h1.below hb, h2⟩
theorem Tri.more {w : World} {u p m : Nat} {c : Nat → Nat} {sv : Value} {b n : Nat} {N M : Int} {wr : World} (h : Tri w u p m c sv b n N wr) (hM : N ≤ M) : Tri w u p m c sv b n M wr := by
  obtain ⟨cg, ro, st, h1, h2⟩ := h.g
  exact ⟨h.f.more hM, h.s, h.sp, cg, ro, st, h1, by omega⟩
theorem Tri.join {w : World} {u p m : Nat} {c : Nat → Nat} {sv : Value} {b n : Nat} {N : Int} {wr : World} (h : Tri w u p m c sv b n N wr) (hN : N ≤ 1000000000) (hu : w.heap.size ≤ u) (hup : u ≤ p) (x y : Nat) (hx : x < n) (hy : y < n) :
    Calls Try.prog 12 #[.pointer (some ⟨b, 0, none⟩), .int .i64 (x : Nat), .int .i64 (y : Nat)] wr fun e w' => ∃ r t, e = .returned (.tuple #[.int .i64 r, .bool t]) ∧ Tri w u p m c sv b n (N + 42) w' := by
  obtain ⟨cg, ro, st, h1, h2⟩ := h.g
  have hd := dg_le h1.few
  refine (join_in h1 (by omega) x y hx hy).mono ?_
  rintro e w' ⟨r, k, ro', rfl, _, _, hk, hU, hE⟩
  exact ⟨_, _, rfl, (h.f.keep hE (fun k hk => Nat.le_trans hup hk) hu).more (by omega), row_else h.s hE (fun k hk hk2 => by have := h.sp k hk; omega), h.sp, _, _, _, hU, by omega⟩
theorem Tri.add {w : World} {u p m : Nat} {c : Nat → Nat} {sv : Value} {b n : Nat} {N : Int} {wr : World} (h : Tri w u p m c sv b n N wr) (hu : w.heap.size ≤ u) (hup : u ≤ p) (hn : n ≤ 1000) (hp : p ≤ wr.heap.size) :
    Calls Try.prog 11 #[.pointer (some ⟨b, 0, none⟩)] wr fun e w' => e = .returned (.int .i64 (n : Nat)) ∧ Tri w u p m c sv b (n + 1) N w' := by
  obtain ⟨cg, ro, st, h1, h2⟩ := h.g
  obtain ⟨c0, hc0⟩ := fresh_color n cg
  refine (add_uf h1 (by omega) c0 (fun k hk => by have := hc0 k hk; omega)).mono ?_
  rintro e w' ⟨rfl, hU, hE⟩
  exact ⟨rfl, h.f.keep hE (fun k hk => Nat.le_trans hup hk) hu, row_else h.s hE (fun k hk hk2 => by have := h.sp k hk; omega), h.sp, _, _, _, hU.more (fun k hk => by rcases hk with hk | hk; exact hk; exact Nat.le_trans hp hk), h2⟩
theorem Tri.set {w : World} {u p m : Nat} {c : Nat → Nat} {sv : Value} {b n : Nat} {N : Int} {wr : World} (h : Tri w u p m c sv b n N wr) (hN : N ≤ 1000000000) (hup : u ≤ p) (i : Nat) (hi : i < m) (hm : m ≤ 20) :
    Calls Try.prog 18 #[.pointer (some ⟨w.heap.size, 0, none⟩), .int .i64 (i : Nat)] wr fun e w' => ∃ v, e = .returned v ∧ Rd w' 1 v (mem_ m c i).length (rowL (mem_ m c i)) ∧ Tri w u p m c sv b n (N + 42) w' := by
  obtain ⟨cg, ro, st, h1, h2⟩ := h.g
  refine (h.f.set hN i hi hm).mono ?_
  rintro e w' ⟨v, rfl, hr, hO, hE⟩
  exact ⟨v, rfl, hr, hO, row_else h.s hE (fun k hk hk2 => by have := (h.s.lt k hk).1; omega), h.sp, cg, ro, st, h1.keep hE (fun k hk hk2 => by omega), by omega⟩
end Go.Proofs.Ytamieophdnnbnaa.Un
