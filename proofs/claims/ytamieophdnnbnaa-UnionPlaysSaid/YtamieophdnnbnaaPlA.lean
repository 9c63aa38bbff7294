/- UnionPlays: a forest and the answer's row beside each other; steps; the list of calls. -/
import Derived.Test.YtamieophdnnbnaaUnZ
namespace Go.Proofs.Ytamieophdnnbnaa.Un
open Go.RowKit Go.ChangeShapes Go.WideShapes Go.ChangeAt Go.Deep

structure P5 (S : Nat → Prop) (w : World) (b n : Nat) (c ro : Nat → Nat) (st : Int) (m : Nat) (d : Nat → Nat) (sv : Value) (wr : World) : Prop where
  f : UFo S wr b n c ro st
  s : ∀ k, S k → w.heap.size ≤ k ∧ k < wr.heap.size
  r : wr.ownsRow 0 3 1 sv m (rowI m d)
  rs : ∀ k, sv.ownBlock = some k → ¬ S k
  bel : Below w.heap.size w wr
section
variable {S : Nat → Prop} {w wr : World} {b n : Nat} {c ro : Nat → Nat} {st : Int} {m : Nat} {d : Nat → Nat} {sv : Value}
theorem P5.else_ (h : P5 S w b n c ro st m d sv wr) {c' ro' : Nat → Nat} {st' : Int} {w' : World} (he : Else S wr w') (hf : UFo S w' b n c' ro' st') : P5 S w b n c' ro' st' m d sv w' :=
  ⟨hf, fun k hk => ⟨(h.s k hk).1, Nat.lt_of_lt_of_le (h.s k hk).2 he.size⟩, row_else h.r he h.rs, h.rs, h.bel.trans (he.below (fun k hk => (h.s k hk).1) h.bel.size)⟩
theorem P5.below (h : P5 S w b n c ro st m d sv wr) {w' : World} (hb : Below wr.heap.size wr w') : P5 S w b n c ro st m d sv w' :=
  ⟨h.f.below hb, fun k hk => ⟨(h.s k hk).1, Nat.lt_of_lt_of_le (h.s k hk).2 hb.size⟩, row_later h.r hb, h.rs, h.bel.trans (hb.mono h.bel.size)⟩
theorem P5.row (h : P5 S w b n c ro st m d sv wr) {w' : World} {v' : Value} {m' : Nat} {d' : Nat → Nat} (hb : Below wr.heap.size wr w') (ho : w'.ownsRow wr.heap.size 3 1 v' m' (rowI m' d')) : P5 S w b n c ro st m' d' v' w' :=
  ⟨h.f.below hb, fun k hk => ⟨(h.s k hk).1, Nat.lt_of_lt_of_le (h.s k hk).2 hb.size⟩, row_zero ho, fun k hk hs => by have := (ho.lt k hk).1; have := (h.s k hs).2; omega, h.bel.trans (hb.mono h.bel.size)⟩
theorem P5.join (h : P5 S w b n c ro st m d sv wr) (hst : 0 ≤ st ∧ st ≤ 10000000000000) (x y : Nat) (hx : x < n) (hy : y < n) :
    Calls Try.prog 12 #[.pointer (some ⟨b, 0, none⟩), .int .i64 (x : Nat), .int .i64 (y : Nat)] wr fun e w' => ∃ (r k : Nat) (ro' : Nat → Nat), e = .returned (.tuple #[.int .i64 (r : Nat), .bool (!(c x == c y))]) ∧ r < n ∧ (c r = c x ∨ c r = c y) ∧ k ≤ 2 * dg n ∧ P5 S w b n (paint c x y) ro' (st + k) m d sv w' := by
  refine (join_in h.f hst x y hx hy).mono ?_
  rintro e w' ⟨r, k, ro', rfl, hr, hc, hk, hU, hE⟩
  exact ⟨r, k, ro', rfl, hr, hc, hk, h.else_ hE hU⟩
theorem P5.root (h : P5 S w b n c ro st m d sv wr) (hst : 0 ≤ st ∧ st ≤ 10000000000000) (x : Nat) (hx : x < n) :
    Calls Try.prog 16 #[.pointer (some ⟨b, 0, none⟩), .int .i64 (x : Nat)] wr fun e w' => ∃ k : Nat, e = .returned (.tuple #[.int .i64 (ro x : Nat), .bool true]) ∧ k ≤ dg n ∧ P5 S w b n c ro (st + k) m d sv w' := by
  refine (root_in h.f (by omega) x hx).mono ?_
  rintro e w' ⟨k, rfl, hk, hU, hE⟩
  exact ⟨k, rfl, hk, h.else_ hE hU⟩
theorem P5.same (h : P5 S w b n c ro st m d sv wr) (hst : 0 ≤ st ∧ st ≤ 10000000000000) (x y : Nat) (hx : x < n) (hy : y < n) :
    Calls Try.prog 20 #[.pointer (some ⟨b, 0, none⟩), .int .i64 (x : Nat), .int .i64 (y : Nat)] wr fun e w' => ∃ k : Nat, e = .returned (.bool (c x == c y)) ∧ k ≤ 2 * dg n ∧ P5 S w b n c ro (st + k) m d sv w' := by
  refine (same_in h.f hst x y hx hy).mono ?_
  rintro e w' ⟨k, rfl, hk, hU, hE⟩
  exact ⟨k, rfl, hk, h.else_ hE hU⟩
theorem P5.set (h : P5 S w b n c ro st m d sv wr) (hst : 0 ≤ st ∧ st ≤ 10000000000000) (x : Nat) (hx : x < n) :
    Calls Try.prog 18 #[.pointer (some ⟨b, 0, none⟩), .int .i64 (x : Nat)] wr fun e w' => ∃ (v : Value) (k : Nat), e = .returned v ∧ Rd w' 1 v (mem_ n c x).length (rowL (mem_ n c x)) ∧ k ≤ n ∧ P5 S w b n c ro (st + k) m d sv w' := by
  refine (set_in h.f hst x hx).mono ?_
  rintro e w' ⟨v, rfl, hr, ⟨k, hk, hU⟩, hE⟩
  exact ⟨v, k, rfl, hr, hk, h.else_ hE hU⟩
theorem P5.add (h : P5 S w b n c ro st m d sv wr) (hn : n < 1048576) (x : Nat) (hx : ∀ k, k < n → c k ≠ x) :
    Calls Try.prog 11 #[.pointer (some ⟨b, 0, none⟩)] wr fun e w' => e = .returned (.int .i64 (n : Nat)) ∧ ∃ S', P5 S' w b (n + 1) (upd c n x) (upd ro n n) st m d sv w' := by
  refine (add_uf h.f hn x hx).mono ?_
  rintro e w' ⟨rfl, hU, hE⟩
  refine ⟨rfl, _, hU.tight, fun k hk => ⟨?_, hk.2⟩, row_else h.r hE h.rs, fun k hk hs => ?_, h.bel.trans (hE.below (fun k hk => (h.s k hk).1) h.bel.size)⟩
  · rcases hk.1 with h1 | h1
    · exact (h.s k h1).1
    · exact Nat.le_trans h.bel.size h1
  · rcases hs.1 with h1 | h1
    · exact h.rs k hk h1
    · have := (h.r.lt k hk).2; omega
theorem dg_dgs {n : Nat} (hn : 0 < n) : dg n = dgs n := by unfold dgs; rw [if_neg (by omega)]
theorem dgs_le {n : Nat} (h : n ≤ 1048576) : dgs n ≤ 21 := by unfold dgs; split; omega; exact dg_le h
theorem dgs_mono (n : Nat) : dgs n ≤ dgs (n + 1) := by
  unfold dgs
  split
  · omega
  · rw [if_neg (by omega)]
    unfold dg
    have : Nat.log2 n ≤ Nat.log2 (n + 1) := (Nat.le_log2 (by omega)).2 (Nat.le_trans ((Nat.le_log2 (n := n) (k := Nat.log2 n) (by omega)).1 (Nat.le_refl _)) (by omega))
    omega
/-- Steps stay within the bound. -/
def Okst (st K : Int) (n : Nat) : Prop := 0 ≤ st ∧ 1 ≤ K ∧ st ≤ K * (4 * (dgs n : Nat) + 8)
theorem Okst.more {st K : Int} {n : Nat} (h : Okst st K n) (k j : Nat) (hk : (k : Int) ≤ (j : Nat) * (4 * (dgs n : Nat) + 8)) : Okst (st + k) (K + j) n := by
  obtain ⟨h1, h2, h3⟩ := h
  refine ⟨by omega, by omega, ?_⟩
  rw [Int.add_mul]
  omega
theorem Okst.grow {st K : Int} {n : Nat} (h : Okst st K n) : Okst st K (n + 1) := by
  obtain ⟨h1, h2, h3⟩ := h
  refine ⟨h1, h2, Int.le_trans h3 (Int.mul_le_mul_of_nonneg_left ?_ (by omega))⟩
  have := dgs_mono n
  omega
theorem Okst.le {st K : Int} {n : Nat} (h : Okst st K n) (hn : n ≤ 1048576) (hK : K ≤ 1000000) : st ≤ 100000000 := by
  obtain ⟨h1, h2, h3⟩ := h
  have h4 := dgs_le hn
  have : K * (4 * (dgs n : Nat) + 8) ≤ K * 92 := Int.mul_le_mul_of_nonneg_left (by omega) (by omega)
  omega
end
/-- A slice of calls. -/
def RdO (w : World) (v : Value) (l : List (Nat × Int × Int)) : Prop :=
  (l = [] ∧ ∃ A c, v = .slice A 0 c) ∨ ∃ b off cap, v = .slice (some ⟨b, off, none⟩) l.length cap ∧ l.length ≤ cap ∧ b < w.heap.size ∧
    ∀ i (hi : i < l.length), w.cell? ⟨b, off + i * 3, none⟩ = some (.int .u8 (l[i].1 : Nat)) ∧ w.cell? ⟨b, off + i * 3 + 1, none⟩ = some (.int .i64 l[i].2.1) ∧ w.cell? ⟨b, off + i * 3 + 2, none⟩ = some (.int .i64 l[i].2.2)
theorem RdO.below {w w' : World} {v : Value} {l : List (Nat × Int × Int)} (h : RdO w v l) (hb : Below w.heap.size w w') : RdO w' v l := by
  rcases h with h2 | ⟨b, off, cap, hv, hc, hl, hx⟩
  · exact .inl h2
  · exact .inr ⟨b, off, cap, hv, hc, Nat.lt_of_lt_of_le hl hb.size, fun i hi => ⟨(hb.cell (p := ⟨b, _, none⟩) hl).trans (hx i hi).1, (hb.cell (p := ⟨b, _, none⟩) hl).trans (hx i hi).2.1, (hb.cell (p := ⟨b, _, none⟩) hl).trans (hx i hi).2.2⟩⟩
theorem RdO.slice {w : World} {v : Value} {l : List (Nat × Int × Int)} (h : RdO w v l) : ∃ A c, v = .slice A l.length c := by
  rcases h with ⟨rfl, A, c, hv⟩ | ⟨b, off, cap, hv, _⟩
  · exact ⟨A, c, hv⟩
  · exact ⟨_, _, hv⟩
theorem RdO.at_ {w : World} {A : Option Addr} {n c : Nat} {l : List (Nat × Int × Int)} (h : RdO w (.slice A n c) l) {i : Nat} (hi : i < l.length) : ∃ b off, A = some ⟨b, off, none⟩ ∧ b < w.heap.size ∧ w.cell? ⟨b, off + i * 3, none⟩ = some (.int .u8 (l[i].1 : Nat)) ∧ w.cell? ⟨b, off + i * 3 + 1, none⟩ = some (.int .i64 l[i].2.1) ∧ w.cell? ⟨b, off + i * 3 + 2, none⟩ = some (.int .i64 l[i].2.2) := by
  rcases h with ⟨rfl, _⟩ | ⟨b, off, cap, hv, hc, hl, hx⟩
  · simp at hi
  · injection hv with h1 _ _
    exact ⟨b, off, h1, hl, hx i hi⟩
def ArgO (w : World) (v : Value) : Prop := ∃ l, RdO w v l
set_option maxRecDepth 100000 in
theorem ArgO_open {H : Type} {enc : TypeId × Value → H} {W : World} {r : Reach} {b0 : Nat} {v : Value} {d : DataW H} {p : List MemPlace} (hval : Value.okWide Try.prog W r b0 22 v)
    (h : DataW.Trod enc Try.prog W 0 (fun _ => true) true 22 v d p) : ArgO W v := by
  obtain ⟨a0, len, cap, rfl⟩ := okWide_slice Try.underlying22 hval
  obtain ⟨fuel, hf⟩ := h
  rcases open_slice Try.underlying22 hf with ⟨hcs, _⟩ | ⟨a, len', cap', m, n, D, Pl, hcs, _, hl, hm, hmm, hx, hi⟩
  · simp [Value.cells] at hcs
    obtain ⟨rfl, rfl, rfl⟩ := hcs
    exact ⟨[], .inl ⟨rfl, _, _, rfl⟩⟩
  · simp [Value.cells] at hcs
    obtain ⟨rfl, rfl, rfl⟩ := hcs
    simp only [if_true] at hmm
    have hC : Try.prog.cellsOf 32 = 3 := by kernel_rfl
    have hI : Try.prog.cellsOf 3 = 1 := by kernel_rfl
    have hU : Try.prog.cellsOf 5 = 1 := by kernel_rfl
    rw [hC] at hi
    have key : ∀ i, i < len → ∃ t : Nat × Int × Int, W.cell? (a.add (i * 3)) = some (.int .u8 (t.1 : Nat)) ∧ W.cell? ((a.add (i * 3)).add 1) = some (.int .i64 t.2.1) ∧ W.cell? ((a.add (i * 3)).add 2) = some (.int .i64 t.2.2) := by
      intro i hil
      obtain ⟨cs', hc, ht'⟩ := hi i (by omega)
      obtain ⟨ys, n', _, _, hlen, hyl, hfld⟩ := DataW.trod_struct Try.underlying32 ht'
      rw [hC] at hlen
      obtain ⟨_, hcl, hat⟩ := World.cells?_some hc
      have q0 : DataW.trod enc Try.prog W 0 (fun _ => true) true n' 5 ((cs'.drop 0).take (Try.prog.cellsOf 5)) = ys[0]? := hfld 0 _ rfl
      have q1 : DataW.trod enc Try.prog W 0 (fun _ => true) true n' 3 ((cs'.drop 1).take (Try.prog.cellsOf 3)) = ys[1]? := hfld 1 _ rfl
      have q2 : DataW.trod enc Try.prog W 0 (fun _ => true) true n' 3 ((cs'.drop 2).take (Try.prog.cellsOf 3)) = ys[2]? := hfld 2 _ rfl
      have hyl' : ys.length = 3 := hyl
      rw [hU, List.getElem?_eq_getElem (by omega)] at q0
      rw [hI, List.getElem?_eq_getElem (by omega)] at q1 q2
      obtain ⟨k0, hk0, _, w0⟩ := DataW.trod_int Try.underlying5 q0
      obtain ⟨k1, hk1, _, _⟩ := DataW.trod_int Try.underlying3 q1
      obtain ⟨k2, hk2, _, _⟩ := DataW.trod_int Try.underlying3 q2
      have w0 := u8_wf w0
      match cs', hlen with
      | [c0, c1, c2], _ =>
        simp at hk0 hk1 hk2
        subst hk0; subst hk1; subst hk2
        refine ⟨(k0.toNat, k1, k2), ?_, ?_, ?_⟩
        · have := hat 0 (by omega)
          rw [show ((k0.toNat : Nat) : Int) = k0 by omega]
          simpa [Addr.add] using this
        · exact hat 1 (by omega)
        · exact hat 2 (by omega)
    by_cases h0 : len = 0
    · subst h0
      exact ⟨[], .inl ⟨rfl, _, _, rfl⟩⟩
    · obtain ⟨b, off, spot⟩ := a
      obtain ⟨t0, hc0, _⟩ := key 0 (by omega)
      have hspot : spot = none := by simpa [Addr.add] using World.cell?_spot hc0
      subst hspot
      obtain ⟨ts, htl, hP⟩ := list_of _ len key
      refine ⟨ts, .inr ⟨b, off, cap, by rw [htl], by omega, ?_, ?_⟩⟩
      · have := hc0
        simp [Addr.add] at this
        unfold World.cell? at this
        split at this
        · rename_i hh
          exact (Array.getElem?_eq_some_iff.1 hh).1
        · cases this
      · intro i hi'
        have hP2 := hP i hi'
        simp only [Addr.add_lit] at hP2
        exact hP2
end Go.Proofs.Ytamieophdnnbnaa.Un
