/- Texts of one proof, one behind the other. -/
import Derived.Test.YtojgiienohpaiaaMgCycleGreat1
import Derived.RangeFuncFrom
import Derived.Maps.AppendAt
import Derived.Deep.AppendLies
import Derived.RegionTactic
import Derived.OwnWalk
import Derived.Test.YtojgiienohpaiaaRows
import Derived.Deep.QuietTactic
import Derived.BigQuiet
import Derived.RangeFuncNested
import Derived.RangeFuncBound
import Derived.RangeFuncCalls
import Derived.RangeFuncLeaves
import Derived.RangeFuncBox
import Derived.Shelf.Abstract
import Derived.Shelf.RegionOpen
import Derived.OwnWalkIn
import Derived.TacticsInMore
import Derived.LoopNIn
import Derived.LoopIn
import Derived.Outline
/- Worlds in which blocks between two bounds turn. -/
namespace Go.Proofs.Ytojgiienohpaiaa
open Go.RowKit
/-- What turns lies in between. -/
structure Btw (B H : Nat) (W W' : World) : Prop where
  os : W'.os = W.os
  tape : W'.tape = W.tape
  output : W'.output = W.output
  size : W.heap.size ≤ W'.heap.size
  block : ∀ b, (b < B ∨ H ≤ b) → b < W.heap.size → W'.heap[b]? = W.heap[b]?
theorem Btw.refl (B H : Nat) (W : World) : Btw B H W W := ⟨rfl, rfl, rfl, Nat.le_refl _, fun _ _ _ => rfl⟩
theorem Btw.below {B H : Nat} {W W' : World} (h : Btw B H W W') (hB : B ≤ W.heap.size) : Below B W W' := ⟨h.os, h.tape, h.output, h.size, fun b hb => h.block b (.inl hb) (by omega)⟩
theorem Btw.trans {B H : Nat} {a b c : World} (x : Btw B H a b) (y : Btw B H b c) : Btw B H a c :=
  ⟨y.os.trans x.os, y.tape.trans x.tape, y.output.trans x.output, Nat.le_trans x.size y.size, fun k hk hl => (y.block k hk (by have := x.size; omega)).trans (x.block k hk hl)⟩
theorem Btw.of_below {B H : Nat} {W W' : World} (h : Below W.heap.size W W') : Btw B H W W' := ⟨h.os, h.tape, h.output, h.size, fun b _ hl => h.block b hl⟩
theorem Btw.row {B H : Nat} {W W' : World} {base size n : Nat} {e : TypeId} {v : Value} {xs : List Value} (h : Btw B H W W') (hH : H ≤ base) (o : W.ownsRow base e size v n xs) : W'.ownsRow base e size v n xs := by
  refine ⟨o.1, ?_⟩
  rcases o.2 with h2 | ⟨g, cap, cur, hv, hg, hh, r⟩
  · exact .inl h2
  · exact .inr ⟨g, cap, cur, hv, hg, (h.block g (.inr (by omega)) (Array.getElem?_eq_some_iff.1 hh).1).trans hh, r⟩
/-- What turns lies in between, or was laid from M on and is cells. -/
structure Bt3 (B H M : Nat) (W W' : World) : Prop where
  os : W'.os = W.os
  tape : W'.tape = W.tape
  output : W'.output = W.output
  size : W.heap.size ≤ W'.heap.size
  block : ∀ b, (b < B ∨ (H ≤ b ∧ b < M)) → b < W.heap.size → W'.heap[b]? = W.heap[b]?
  same : ∀ b o, M ≤ b → W.heap[b]? = some o → o.isCells = false → W'.heap[b]? = some o
theorem Bt3.refl (B H M : Nat) (W : World) : Bt3 B H M W W := ⟨rfl, rfl, rfl, Nat.le_refl _, fun _ _ _ => rfl, fun _ _ _ h _ => h⟩
theorem Bt3.below {B H M : Nat} {W W' : World} (h : Bt3 B H M W W') (hB : B ≤ W.heap.size) : Below B W W' := ⟨h.os, h.tape, h.output, h.size, fun b hb => h.block b (.inl hb) (by omega)⟩
theorem Bt3.trans {B H M : Nat} {a b c : World} (x : Bt3 B H M a b) (y : Bt3 B H M b c) : Bt3 B H M a c :=
  ⟨y.os.trans x.os, y.tape.trans x.tape, y.output.trans x.output, Nat.le_trans x.size y.size, fun k hk hl => (y.block k hk (by have := x.size; omega)).trans (x.block k hk hl), fun k o hk ho hc => y.same k o hk (x.same k o hk ho hc) hc⟩
theorem Bt3.of_below {B H M : Nat} {W W' : World} (h : Below W.heap.size W W') : Bt3 B H M W W' :=
  ⟨h.os, h.tape, h.output, h.size, fun b _ hl => h.block b hl, fun b _ _ ho _ => (h.block b (Array.getElem?_eq_some_iff.1 ho).1).trans ho⟩
end Go.Proofs.Ytojgiienohpaiaa
/- An append onto a row of the call's own, whatever the source is that it takes its cells from: nil, empty or not. Nothing here speaks of the program. -/
namespace Go.Proofs.Ytojgiienohpaiaa
open Go.RowKit

theorem run_append_none {P : Program} (w : World) (base : Nat) (t ty e : TypeId) (i : TypeInfo) (size : Nat) (ht : P.underlying t = some (.slice e)) (hi : P.info? e = some i)
    (v : Value) (n : Nat) (xs : List Value) (hown : w.ownsRow base e size v n xs) (c : Nat) : (Builtin.append_ #[t, t] ty #[v, .slice none 0 c]).run P w = .ok v w := by
  rcases hown.2 with ⟨rfl, rfl⟩ | ⟨g, cap, cur, rfl, _, _, hnc, _⟩
  · simp [Builtin.append_, run_underlying ht, sizeOf, typeInfo, hi, Builtin.lenOf, Builtin.firstCells]
  · simp [Builtin.append_, run_underlying ht, sizeOf, typeInfo, hi, Builtin.lenOf, Builtin.firstCells, hnc, storeCells]
theorem run_append_rd {P : Program} (w : World) (base : Nat) (t ty e : TypeId) (i : TypeInfo) (z : Value) (size bytes : Nat) (ht : P.underlying t = some (.slice e)) (hi : P.info? e = some i) (hz : i.zero = some z)
    (hsize : i.size = size) (hby : i.bytes = bytes) (hzs : z.cells.size = size) (hsz : 0 < size)
    (v : Value) (n : Nat) (xs : List Value) (hown : w.ownsRow base e size v n xs)
    (vx : Value) (m : Nat) (news : List Value) (hr : Rd w size vx m news) (h1 : ∀ u ∈ news, u.oneCell' = true)
    (h63 : n + m ≤ maxLen) (hbytes : (n + m) * bytes ≤ 140737488355328) (hbase : base ≤ w.heap.size) :
    ∃ v' w', (Builtin.append_ #[t, t] ty #[v, vx]).run P w = .ok v' w' ∧ w'.ownsRow base e size v' (n + m) (xs ++ news) ∧ w.grownBy w' v.ownBlock ∧
      (v'.ownBlock = v.ownBlock ∨ v'.ownBlock = some w.heap.size) := by
  have nilCase : ∀ c, m = 0 → vx = .slice none 0 c → ∃ v' w', (Builtin.append_ #[t, t] ty #[v, vx]).run P w = .ok v' w' ∧ w'.ownsRow base e size v' (n + m) (xs ++ news) ∧ w.grownBy w' v.ownBlock ∧
      (v'.ownBlock = v.ownBlock ∨ v'.ownBlock = some w.heap.size) := by
    rintro c rfl rfl
    have hn : news = [] := List.eq_nil_of_length_eq_zero (by simpa using hr.1)
    subst hn
    exact ⟨v, w, run_append_none w base t ty e i size ht hi v n xs hown c, by simpa using hown, World.grownBy.refl w _, .inl rfl⟩
  rcases hr.2 with ⟨h0, A, c, rfl⟩ | ⟨b, off, cap, rfl, _, _, _, hc⟩
  · rcases A with _ | ad
    · exact nilCase c h0 rfl
    · subst h0
      have hn : news = [] := List.eq_nil_of_length_eq_zero (by simpa using hr.1)
      subst hn
      obtain ⟨v', w', hrun, h2, h3, _, h5⟩ := run_append_own_at (P := P) w base t ty e i z size bytes ht hi hz hsize hby hzs hsz v n xs hown ad 0 c [] hr.1 (by simp) h1 h63 hbytes hbase
      exact ⟨v', w', hrun, h2, h3, h5⟩
  · obtain ⟨v', w', hrun, h2, h3, _, h5⟩ := run_append_own_at (P := P) w base t ty e i z size bytes ht hi hz hsize hby hzs hsz v n xs hown ⟨b, off, none⟩ m cap news hr.1 (fun j u hu => by rw [Addr.add_lit]; exact hc j u hu) h1 h63 hbytes hbase
    exact ⟨v', w', hrun, h2, h3, h5⟩
theorem wp_append_rd {P : Program} (w : World) {o : Oper} {a : Act} {K : Act → World → Prop} {Q : Exit → Act → World → Prop} (s x : Operand) (t : TypeId)
    (ho : o.op = .call { callee := .builtin .append, args := #[s, x], argTypes := #[t, t] })
    (base : Nat) (e : TypeId) (i : TypeInfo) (z : Value) (size bytes : Nat) (ht : P.underlying t = some (.slice e)) (hi : P.info? e = some i) (hz : i.zero = some z)
    (hsize : i.size = size) (hby : i.bytes = bytes) (hzs : z.cells.size = size) (hsz : 0 < size)
    (v : Value) (n : Nat) (xs : List Value) (hs : a.eval s = v) (hown : w.ownsRow base e size v n xs)
    (vx : Value) (m : Nat) (news : List Value) (hx : a.eval x = vx) (hr : Rd w size vx m news) (h1 : ∀ u ∈ news, u.oneCell' = true)
    (h63 : n + m ≤ maxLen) (hbytes : (n + m) * bytes ≤ 140737488355328) (hbase : base ≤ w.heap.size)
    (h : ∀ v' w', w'.ownsRow base e size v' (n + m) (xs ++ news) → w.grownBy w' v.ownBlock → (v'.ownBlock = v.ownBlock ∨ v'.ownBlock = some w.heap.size) → K (a.put o.dst v') w') : o.wp P a w K Q := by
  obtain ⟨v', w', hrun, h2, h3, h4⟩ := run_append_rd (P := P) w base t o.type e i z size bytes ht hi hz hsize hby hzs hsz v n xs hown vx m news hr h1 h63 hbytes hbase
  unfold Oper.wp execOp
  simp only [ho, resolve, invoke, builtin, Sem.run_bind, Sem.run_pure, Result.andThen_ok, List.map_toArray, List.map_cons, List.map_nil, hs, hx, hrun]
  exact h v' w' h2 h3 h4
theorem wpList_append_rd {P : Program} (w : World) {ops : Array Oper} {rest : List Oper} {o : Oper} {a : Act} {Q : Exit → Act → World → Prop} (hgd : o.guard = none) (s x : Operand) (t : TypeId)
    (ho : o.op = .call { callee := .builtin .append, args := #[s, x], argTypes := #[t, t] })
    (base : Nat) (e : TypeId) (i : TypeInfo) (z : Value) (size bytes : Nat) (ht : P.underlying t = some (.slice e)) (hi : P.info? e = some i) (hz : i.zero = some z)
    (hsize : i.size = size) (hby : i.bytes = bytes) (hzs : z.cells.size = size) (hsz : 0 < size)
    (v : Value) (n : Nat) (xs : List Value) (hs : a.eval s = v) (hown : w.ownsRow base e size v n xs)
    (vx : Value) (m : Nat) (news : List Value) (hx : a.eval x = vx) (hr : Rd w size vx m news) (h1 : ∀ u ∈ news, u.oneCell' = true)
    (h63 : n + m ≤ maxLen) (hbytes : (n + m) * bytes ≤ 140737488355328) (hbase : base ≤ w.heap.size)
    (h : ∀ v' w', w'.ownsRow base e size v' (n + m) (xs ++ news) → w.grownBy w' v.ownBlock → (v'.ownBlock = v.ownBlock ∨ v'.ownBlock = some w.heap.size) → wpList P ops Q rest (a.put o.dst v') w') : wpList P ops Q (o :: rest) a w :=
  wpList_plain hgd fun _ hK => wp_append_rd w s x t ho base e i z size bytes ht hi hz hsize hby hzs hsz v n xs hs hown vx m news hx hr h1 h63 hbytes hbase fun v' w' h2 h3 h4 => hK _ _ (h v' w' h2 h3 h4)
theorem step_append_rd {P : Program} (w : World) {ops : Array Oper} {o : Oper} {a : Act} {K : Act → World → Prop} {Q : Exit → Act → World → Prop} {E : Prop} (hgd : o.guard = none) (s x : Operand) (t : TypeId)
    (ho : o.op = .call { callee := .builtin .append, args := #[s, x], argTypes := #[t, t] })
    (base : Nat) (e : TypeId) (i : TypeInfo) (z : Value) (size bytes : Nat) (ht : P.underlying t = some (.slice e)) (hi : P.info? e = some i) (hz : i.zero = some z)
    (hsize : i.size = size) (hby : i.bytes = bytes) (hzs : z.cells.size = size) (hsz : 0 < size)
    (v : Value) (n : Nat) (xs : List Value) (hs : a.eval s = v) (hown : w.ownsRow base e size v n xs)
    (vx : Value) (m : Nat) (news : List Value) (hx : a.eval x = vx) (hr : Rd w size vx m news) (h1 : ∀ u ∈ news, u.oneCell' = true)
    (h63 : n + m ≤ maxLen) (hbytes : (n + m) * bytes ≤ 140737488355328) (hbase : base ≤ w.heap.size)
    (h : ∀ v' w', w'.ownsRow base e size v' (n + m) (xs ++ news) → w.grownBy w' v.ownBlock → (v'.ownBlock = v.ownBlock ∨ v'.ownBlock = some w.heap.size) → K (a.put o.dst v') w') :
    if Region.wanted o (yielded ops a.tmps) = true then Oper.wp P o a w K Q else E := by
  have hw : Region.wanted o (yielded ops a.tmps) = true := by simp [Region.wanted, hgd]
  rw [if_pos hw]
  exact wp_append_rd w s x t ho base e i z size bytes ht hi hz hsize hby hzs hsz v n xs hs hown vx m news hx hr h1 h63 hbytes hbase h
/-- A part of what reads reads. -/
theorem Rd.lo {w : World} {size : Nat} {A : Option Addr} {n c : Nat} {xs : List Value} (h : Rd w size (.slice A n c) n xs) (k : Nat) (hk : k ≤ n) : Rd w size (.slice A k c) k (xs.take (k * size)) := by
  refine ⟨by rw [List.length_take, h.1]; exact Nat.min_eq_left (Nat.mul_le_mul_right _ hk), ?_⟩
  rcases h.2 with ⟨h0, A', c', hv⟩ | ⟨b, off, cap, hv, hnc, hcm, hb, hc⟩
  · have : k = 0 := by omega
    exact .inl ⟨this, A, c, by rw [this]⟩
  · injection hv with h1 h2 h3
    subst h1; subst h3
    refine .inr ⟨b, off, c, rfl, by omega, hcm, hb, fun j u hu => ?_⟩
    rw [List.getElem?_take] at hu
    split at hu
    · exact hc j u hu
    · cases hu
theorem Rd.hi {w : World} {size : Nat} {A : Option Addr} {n c : Nat} {xs : List Value} (h : Rd w size (.slice A n c) n xs) (k : Nat) (hk : k ≤ n) : Rd w size (.slice (if c = k then A else A.map (·.add (k * size))) (n - k) (c - k)) (n - k) (xs.drop (k * size)) := by
  refine ⟨by rw [List.length_drop, h.1, Nat.sub_mul], ?_⟩
  rcases Nat.eq_zero_or_pos (n - k) with h0 | h0
  · exact .inl ⟨h0, _, _, by rw [h0]⟩
  · rcases h.2 with ⟨h1, _⟩ | ⟨b, off, cap, hv, hnc, hcm, hb, hc⟩
    · omega
    · injection hv with h1 h2 h3
      subst h1; subst h3
      rw [if_neg (by omega)]
      refine .inr ⟨b, off + k * size, c - k, by rw [Option.map_some, Addr.add_lit], by omega, by omega, hb, fun j u hu => ?_⟩
      rw [List.getElem?_drop] at hu
      rw [Nat.add_assoc]
      exact hc _ u hu
theorem Rd.far {w w' : World} {size : Nat} {b off n cap : Nat} {xs : List Value} {row : Option Nat} (h : Rd w size (.slice (some ⟨b, off, none⟩) n cap) n xs) (hb : b < w.heap.size) (hg : w.grownBy w' row) (hne : some b ≠ row) : Rd w' size (.slice (some ⟨b, off, none⟩) n cap) n xs := by
  refine ⟨h.1, ?_⟩
  rcases h.2 with h2 | ⟨b', off', cap', hv, hnc, hcm, hb', hc⟩
  · exact .inl h2
  · injection hv with h1 h2 h3
    injection h1 with h1
    injection h1 with h1 h4
    subst h1; subst h4; subst h3
    exact .inr ⟨b, off, cap, rfl, hnc, hcm, by have := hg.size; omega, fun j u hu => (World.cell?_of_block (hg.block b hb hne)).trans (hc j u hu)⟩
/-- A new block reads as its cells. -/
theorem rd_new (w : World) (L : List Value) (t : TypeId) (size n : Nat) (hL : L.length = n * size) (hn : n ≤ maxLen) : Rd (w.alloc (.cells L.toArray t)) size (.slice (some ⟨w.heap.size, 0, none⟩) n n) n L :=
  ⟨hL, .inr ⟨w.heap.size, 0, n, rfl, Nat.le_refl _, hn, by simp, fun j u hu => by have := cells_new w L t j u hu; rwa [Addr.add_lit] at this⟩⟩
theorem own_none_yet (w : World) (H : Nat) (hH : H ≤ w.heap.size) (e : TypeId) (size : Nat) : (w.alloc (.cells #[] e)).ownsRow H e size (.slice (some ⟨w.heap.size, 0, none⟩) 0 0) 0 [] :=
  ⟨by simp, .inr ⟨w.heap.size, 0, #[], rfl, hH, heap_alloc_new w _, Nat.le_refl _, Nat.zero_le _, by simp, by simp⟩⟩
end Go.Proofs.Ytojgiienohpaiaa
/- The contracts of the answer's Size and of what guards the laws. -/
namespace Go.Proofs.Ytojgiienohpaiaa
open Go.RowKit

theorem ret_int {k : IntKind} {a b : Int} (h : a = b) : Ending.returned (.int k a) = .returned (.int k b) := by rw [h]
theorem ret_bool {a b : Bool} (h : a = b) : Ending.returned (.bool a) = .returned (.bool b) := by rw [h]
set_option maxHeartbeats 1000000 in
set_option maxRecDepth 100000 in
theorem rsize_any (m : Nat) : ∀ (f : Fo) (k n : Int) (v : Value) (w : World), f.size < m → f.size ≤ 1000000 → TyV w.heap.size w f v →
    Calls Try.prog 32 #[tyVal k n v] w fun e w' => e = .returned (.int .i64 (1 + f.size)) ∧ Below w.heap.size w w' := by
  induction m with
  | zero => intro f k n v w h; omega
  | succ m ih =>
    intro f k n v w hm hs h
    obtain ⟨A, c, rfl⟩ := h.slice
    have H := Lib.hid h
    have IH := Lib.hid ih
    have hll := f.len_le_size
    clear h ih
    unfold tyVal
    go_enter Try.func32, Try.ntmps32
    go_wp2_with fail
    go_loopw [3, 4] (fun t3 t4 wr => ∃ j : Nat, j ≤ f.len ∧ t4 = .int .i64 j ∧ t3 = .int .i64 (1 + (f.take j).size) ∧ Below (w.heap.size + 1) (w.alloc (.cells #[.int .i64 k, .int .i64 n, .slice A f.len c] 28)) wr) (fun _ t _ => f.len - (intOf t).toNat)
    case atStart => exact ⟨0, Nat.zero_le _, rfl, by simp [Fo.take_zero, Fo.size], Below.refl _ _⟩
    case round =>
      obtain ⟨j, hj, rfl, rfl, hb⟩ := hrel
      have e2 : wr.cell? ⟨w.heap.size, 2, none⟩ = some (.slice A f.len c) := (hb.cell (p := ⟨w.heap.size, 2, none⟩) (by simp)).trans (by go_simp)
      have HB : Hid (Below w.heap.size w wr) := Lib.hid (((Below.refl _ _).alloc (Nat.le_refl _) _).trans (hb.mono (by omega)))
      have hz := hb.size
      simp only [World.size_alloc] at hz
      have hts := f.size_take_le j
      by_cases hjl : j < f.len
      · obtain ⟨b, off, cap, hv, _, _, hlt, hC⟩ := H.out.form (by omega)
        injection hv with hA _ hcc
        subst hA; subst hcc
        obtain ⟨d0, d1, d2, hch⟩ := tyC_at hC j hjl
        have c0 := (HB.out.cell (p := ⟨b, off + j * 3, none⟩) hlt).trans d0
        have c1 := (HB.out.cell (p := ⟨b, off + j * 3 + 1, none⟩) hlt).trans d1
        have c2 := (HB.out.cell (p := ⟨b, off + j * 3 + 2, none⟩) hlt).trans d2
        have hch' : TyV wr.heap.size wr (f.at_ j).2.2.2 (slv (f.at_ j).2.2.1) := (hch.keep HB.out.size fun b off hb' => HB.out.cell (p := ⟨b, off, none⟩) hb')
        have hsz := f.at_size j hjl
        have hst := f.size_take_step j hjl
        have hle := f.size_take_le (j + 1)
        clear d0 d1 d2 hC hch
        have hrec := IH.out (f.at_ j).2.2.2 (f.at_ j).1 (f.at_ j).2.1 (slv (f.at_ j).2.2.1) wr (by omega) (by omega) hch'
        unfold tyVal at hrec
        generalize f.at_ j = p at *
        obtain ⟨pk, pn, pv, pf⟩ := p
        have HREC := Lib.hid hrec
        have HST := Lib.hid hst
        have hb1 : 0 ≤ (pf.size : Int) ∧ (pf.size : Int) ≤ 1000000 := by simp only at hsz; omega
        have hb2 : ((f.take j).size : Int) ≤ 1000000 := by omega
        clear hrec hst hch'
        go_wp2_with fail
        refine HREC.out.mono ?_
        rintro e w2 ⟨rfl, hb3⟩
        go_wp2_with fail
        go_roundw
        case rel => exact ⟨j + 1, by omega, by go_num, by rw [HST.out]; congr 1; omega, hb.trans (hb3.mono hz)⟩
        case measure => simp [intOf]; omega
      · obtain rfl : j = f.len := by omega
        have HT : Hid (f.take f.len = f) := Lib.hid f.take_len
        go_wp2_with fail
        go_ret
        exact ⟨ret_int (by rw [HT.out]), HB.out⟩
end Go.Proofs.Ytojgiienohpaiaa
/- slices.Backward at types, and types.backwards: a list with types behind it, the last of them first. -/
namespace Go.Proofs.Ytojgiienohpaiaa
open Go.RowKit Go.Shelf
attribute [local go_sem] Oper.semAt_some

/-- A type's three cells, as they are. -/
abbrev Tr := Int × Int × Sl
def trC (x : Tr) : List Value := [.int .i64 x.1, .int .i64 x.2.1, slv x.2.2]
def trV (x : Tr) : Value := .agg #[.int .i64 x.1, .int .i64 x.2.1, slv x.2.2]
/-- A slice value that reads as these, below block B. -/
def RdX (B : Nat) (w : World) (v : Value) (L : List Tr) : Prop :=
  ∃ A c, v = .slice A L.length c ∧ (0 < L.length → ∃ b off, A = some ⟨b, off, none⟩ ∧ b < B ∧ ∀ i (h : i < L.length), w.cell? ⟨b, off + i * 3, none⟩ = some (.int .i64 L[i].1) ∧ w.cell? ⟨b, off + i * 3 + 1, none⟩ = some (.int .i64 L[i].2.1) ∧ w.cell? ⟨b, off + i * 3 + 2, none⟩ = some (slv L[i].2.2))
theorem RdX.below {B : Nat} {w w' : World} {v : Value} {L : List Tr} (h : RdX B w v L) (hb : Below B w w') : RdX B w' v L := by
  obtain ⟨A, c, hv, h⟩ := h
  refine ⟨A, c, hv, fun hn => ?_⟩
  obtain ⟨b, off, hA, hlt, hc⟩ := h hn
  exact ⟨b, off, hA, hlt, fun i hi => ⟨(hb.cell (p := ⟨_, _, none⟩) hlt).trans (hc i hi).1, (hb.cell (p := ⟨_, _, none⟩) hlt).trans (hc i hi).2.1, (hb.cell (p := ⟨_, _, none⟩) hlt).trans (hc i hi).2.2⟩⟩
/-- What a round keeps: whatever lay below B, and one block of cells beside. -/
structure KpB (B Bs : Nat) (W W' : World) : Prop where
  below : Below B W W'
  kept : ∀ o, W.heap[Bs]? = some o → o.isCells = true → W'.heap[Bs]? = some o
theorem KpB.t {B Bs : Nat} {X Y Z : World} (h : KpB B Bs X Y) (k : KpB B Bs Y Z) : KpB B Bs X Z := ⟨h.below.trans k.below, fun o ho hc => k.kept o (h.kept o ho hc) hc⟩
theorem KpB.b {B Bs : Nat} {w : World} (hn : B ≤ w.heap.size) (W : World) (l : Nat) (o o' : Obj) (hl : w.heap.size ≤ l) (h : W.heap[l]? = some o) (h1 : o.isCells = false) (h2 : o.isWalk = false) : KpB B Bs W (W.putObj l o') := by
  refine ⟨belowK_b hn W l o o' hl h h1 h2, fun o2 ho hc => ?_⟩
  have hne : Bs ≠ l := by
    rintro rfl
    rw [h] at ho
    injection ho with ho
    subst ho
    rw [h1] at hc; cases hc
  exact ((grownBy_putObj' W l o').block Bs (Array.getElem?_eq_some_iff.1 ho).1 (fun e => hne (by cases e; rfl))).trans ho
theorem KpB.boxed {B Bs : Nat} {W W' : World} {t : TypeId} {v : Value} (h : KpB B Bs W W') (hb : Boxed W Bs t v) : Boxed W' Bs t v := h.kept _ hb rfl
set_option maxRecDepth 100000 in
set_option maxHeartbeats 2000000 in
/-- slices.Backward's closure: the last first, each with its place. -/
theorem back1 (n : Nat) (hn : 1 ≤ n) (l Bs B : Nat) (A : Option Addr) (c : Nat) (L : List Tr) (hL : L.length ≤ 1000000) (J Jx : List (Int × Tr) → World → Prop)
    (hY : ∀ pre x W, J pre W → pre.length < L.length → YieldAt Fence.wide (n - 1) Try.prog l #[.int .i64 x.1, trV x.2] W fun e W' =>
      (e = .returned (.bool true) ∧ J (pre ++ [x]) W' ∧ KpB B Bs W W') ∨ (e = .returned (.bool false) ∧ Jx (pre ++ [x]) W'))
    (W : World) (hBs : Boxed W Bs 26 (.slice A L.length c)) (hR : RdX B W (.slice A L.length c) L) (h0 : J [] W) :
    CallsIn Fence.wide n Try.prog 53 #[.func (.yield l) #[] #[], .pointer (some ⟨Bs, 0, none⟩)] W fun e W' => (∃ v, e = .returned v) ∧
      ((∃ ys : List (Int × Tr), ys.map (·.2) = L.reverse ∧ J ys W') ∨ (∃ pre, Jx pre W')) := by
  refine callsIn_of_wp Try.func53 rfl trivial ?_ rfl
  simp only [Try.ntmps53, List.size_toArray, List.length_cons, List.length_nil, Nat.reduceAdd, Nat.reduceSub, Array.replicate_succ, Array.replicate_zero, List.push_toArray, List.append_toArray, List.nil_append, List.cons_append]
  have e00 : W.cell? ⟨Bs, 0, none⟩ = some (.slice A L.length c) := hBs.cell
  have HBS := Lib.hid hBs
  clear hBs
  gi_wp2
  gi_loopw [3] (fun i wr => ∃ (k : Nat) (z : Int) (pre : List (Int × Tr)), k ≤ L.length ∧ i = .int .i64 z ∧ z + 1 = k ∧ pre.map (·.2) = (L.drop k).reverse ∧ J pre wr ∧ Below B W wr ∧ Boxed wr Bs 26 (.slice A L.length c))
    (fun i _ => (intOf i + 1).toNat)
  case atStart => exact ⟨L.length, _, [], Nat.le_refl _, rfl, by omega, by simp, h0, Below.refl _ _, HBS.out⟩
  case round =>
    obtain ⟨k, z, pre, hk, rfl, hz, hpre, hJs, hnx, hbx⟩ := hrel
    have e0 : wr.cell? ⟨Bs, 0, none⟩ = some (.slice A L.length c) := hbx.cell
    have HBX := Lib.hid hbx
    clear hbx
    by_cases hk0 : 1 ≤ k
    · obtain ⟨A', c', hv, hf⟩ := hR.below hnx
      injection hv with hv1 _ hv3
      subst hv1; subst hv3
      obtain ⟨b, off, rfl, hlt, hc⟩ := hf (by omega)
      obtain ⟨c0, c1, c2⟩ := hc (k - 1) (by omega)
      have hdrop : L.drop (k - 1) = L[k - 1] :: L.drop k := by
        have := List.drop_eq_getElem_cons (l := L) (i := k - 1) (by omega)
        rwa [show k - 1 + 1 = k by omega] at this
      have hpl : pre.length < L.length := by
        have : (pre.map (·.2)).length = pre.length := by simp
        rw [hpre] at this
        simp at this
        omega
      obtain ⟨x, hx⟩ : ∃ x, L[k - 1] = x := ⟨_, rfl⟩
      rw [hx] at c0 c1 c2 hdrop
      obtain ⟨x1, x2, x3⟩ := x
      dsimp only [slv] at c2
      obtain ⟨fn, tmps, assign, body, hy, hR2⟩ := hY pre (z, x1, x2, x3) wr hJs hpl
      dsimp only [trV, slv] at hy
      have f1 : (0 : Int) ≤ z := by omega
      have f2 : z < (L.length : Int) := by omega
      have f3 : z.toNat = k - 1 := by omega
      have f4 : decide ((0 : Int) ≤ z) = true := decide_eq_true f1
      have HZ := Lib.hid hz
      have HP := Lib.hid hpre
      have HD := Lib.hid hdrop
      clear hz hpre hdrop hx hc hf hpl
      gi_wp2
      refine hR2.mono ?_
      rintro e W3 (⟨rfl, hJ3, hk3⟩ | ⟨rfl, hJx3⟩)
      · gi_wp2
        go_roundw
        case rel => exact ⟨k - 1, z - 1, pre ++ [(z, x1, x2, x3)], by omega, by go_num, by have := HZ.out; omega, by simp [HP.out, HD.out], hJ3, hnx.trans hk3.below, hk3.boxed HBX.out⟩
        case measure => simp [intOf]; omega
      · gi_wp2
        refine bodyPost_ret (results_none rfl _ _ _) rfl ?_
        exact ⟨⟨_, rfl⟩, .inr ⟨_, hJx3⟩⟩
    · obtain rfl : k = 0 := by omega
      have f1 : ¬ (0 : Int) ≤ z := by omega
      have f4 : decide ((0 : Int) ≤ z) = false := decide_eq_false f1
      have HP := Lib.hid hpre
      clear hz hpre
      gi_wp2
      go_end0
      exact ⟨⟨_, rfl⟩, .inl ⟨pre, by simpa using HP.out, hJs⟩⟩
set_option maxHeartbeats 1000000 in
/-- slices.Backward at types: the slice is boxed, the function that comes has the box. -/
theorem back_make (A : Option Addr) (n c : Nat) (w : World) :
    Calls Try.prog 25 #[.slice A n c] w fun e w' => e = .returned (.func (.func 53) #[] #[.pointer (some ⟨w.heap.size, 0, none⟩)]) ∧ w' = w.alloc (.cells #[.slice A n c] 26) := by
  go_enter Try.func25, Try.ntmps25
  go_wp2
  go_ret
  exact ⟨rfl, rfl⟩
theorem back_stops (n : Nat) (hn : 1 ≤ n) (Bs B : Nat) (A : Option Addr) (c : Nat) (L : List Tr) (hL : L.length ≤ 1000000) (w : World) (hBw : B ≤ w.heap.size) (hBs : Boxed w Bs 26 (.slice A L.length c)) (hR : RdX B w (.slice A L.length c) L) :
    SeqStopsK Fence.wide n Try.prog 53 #[.pointer (some ⟨Bs, 0, none⟩)] (fun x : Int × Tr => #[Value.int .i64 x.1, trV x.2]) (KpB B Bs) (fun ys => ys.map (·.2) = L.reverse) (fun _ => True) L.length w := fun l J Jx W hW _ _ hY h0 => by
  have hbs : Boxed W Bs 26 (.slice A L.length c) := (hW.block Bs hBs.lt).trans hBs
  refine (back1 n hn l Bs B A c L hL J Jx hY W hbs (hR.below (hW.mono hBw)) h0).mono ?_
  rintro e W' ⟨he, ⟨ys, hy, hj⟩ | ⟨pre, hj⟩⟩
  · exact ⟨he, .inl ⟨ys, hy, hj⟩⟩
  · exact ⟨he, .inr ⟨pre, trivial, hj⟩⟩
end Go.Proofs.Ytojgiienohpaiaa
