/- Texts of one proof, one behind the other. -/
import Derived.WalkKit
import Derived.Maps.AppendAt
import Derived.Deep.AppendLies
import Derived.RegionTactic
import Derived.OwnWalk
import Derived.WalkSpells
import Derived.WalkLawsBesides
import Derived.Lib.Hide
import Derived.Test.YtfoangiphbmipaaRows
import Derived.Deep.QuietTactic
import Derived.BigQuiet
/- Small facts on memory: a new block's cells, rows that the call owns. Nothing here speaks of the program. -/
namespace Go.Proofs.Ytfoangiphbmipaa
open Go.RowKit

/-- The cells of the newest block. -/
theorem cells_new (w : World) (L : List Value) (t : TypeId) : ∀ (j : Nat) (u : Value), L[j]? = some u → (w.alloc (.cells L.toArray t)).cell? ((⟨w.heap.size, 0, none⟩ : Addr).add j) = some u := by
  intro j u hu
  have h := cell_of_row (w.alloc (.cells L.toArray t)) w.heap.size j L.toArray t (0, 0) (heap_alloc_new w _)
  rw [Addr.add_lit, Nat.zero_add, h]
  simpa using hu
theorem cells_new' (w : World) (g : Nat) (hg : w.heap.size = g) (L : List Value) (t : TypeId) : ∀ (j : Nat) (u : Value), L[j]? = some u → (w.alloc (.cells L.toArray t)).cell? ((⟨g, 0, none⟩ : Addr).add j) = some u := by
  subst hg; exact cells_new w L t
theorem add_lit0 (g i : Nat) : (⟨g, 0, none⟩ : Addr).add i = ⟨g, i, none⟩ := by rw [Addr.add_lit, Nat.zero_add]
/-- A slice value reads as n elements of 'size' cells each: the cells xs. -/
def Rd (w : World) (size : Nat) (v : Value) (n : Nat) (xs : List Value) : Prop :=
  xs.length = n * size ∧ ((n = 0 ∧ ∃ A c, v = .slice A 0 c) ∨
    ∃ b off cap, v = .slice (some ⟨b, off, none⟩) n cap ∧ n ≤ cap ∧ cap ≤ maxLen ∧ b < w.heap.size ∧ ∀ j u, xs[j]? = some u → w.cell? ⟨b, off + j, none⟩ = some u)

theorem Rd.of_own {w : World} {base : Nat} {e : TypeId} {size : Nat} {v : Value} {n : Nat} {xs : List Value} (h : w.ownsRow base e size v n xs) : Rd w size v n xs := by
  refine ⟨h.1, ?_⟩
  rcases h.2 with ⟨rfl, rfl⟩ | ⟨g, cap, cur, rfl, hb, hg, hnc, hcm, hcs, htake⟩
  · exact .inl ⟨rfl, _, _, rfl⟩
  · refine .inr ⟨g, 0, cap, rfl, hnc, hcm, (Array.getElem?_eq_some_iff.1 hg).1, fun j u hu => ?_⟩
    have := h.cells (g := g) rfl j u hu
    rw [Addr.add_lit] at this
    exact this
theorem Rd.keep {w w' : World} {size : Nat} {v : Value} {n : Nat} {xs : List Value} (h : Rd w size v n xs) (hs : w.heap.size ≤ w'.heap.size) (hk : ∀ b off, b < w.heap.size → w'.cell? ⟨b, off, none⟩ = w.cell? ⟨b, off, none⟩) : Rd w' size v n xs := by
  refine ⟨h.1, ?_⟩
  rcases h.2 with h2 | ⟨b, off, cap, hv, hnc, hcm, hb, hc⟩
  · exact .inl h2
  · exact .inr ⟨b, off, cap, hv, hnc, hcm, by omega, fun j u hu => (hk _ _ hb).trans (hc j u hu)⟩
theorem Rd.below {w w' : World} {size : Nat} {v : Value} {n : Nat} {xs : List Value} (h : Rd w size v n xs) (hb : Below w.heap.size w w') : Rd w' size v n xs :=
  h.keep hb.size fun _ _ hlt => hb.cell (p := ⟨_, _, none⟩) hlt
theorem Rd.alloc {w : World} {size : Nat} {v : Value} {n : Nat} {xs : List Value} (h : Rd w size v n xs) (o : Obj) : Rd (w.alloc o) size v n xs :=
  h.below ((Below.refl _ _).alloc (Nat.le_refl _) o)
theorem Rd.drew {w : World} {size : Nat} {v : Value} {n : Nat} {xs : List Value} (h : Rd w size v n xs) : Rd w.drew size v n xs := h
end Go.Proofs.Ytfoangiphbmipaa
/- An append onto a row of the call's own, whatever the source is that it takes its cells from: nil, empty or not. Nothing here speaks of the program. -/
namespace Go.Proofs.Ytfoangiphbmipaa
open Go.RowKit

theorem run_append_none {P : Program} (w : World) (base : Nat) (t ty e : TypeId) (i : TypeInfo) (size : Nat) (ht : P.underlying t = some (.slice e)) (hi : P.info? e = some i)
    (v : Value) (n : Nat) (xs : List Value) (hown : w.ownsRow base e size v n xs) (c : Nat) : (Builtin.append_ #[t, t] ty #[v, .slice none 0 c]).run P w = .ok v w := by
  rcases hown.2 with ⟨rfl, rfl⟩ | ⟨g, cap, cur, rfl, _, _, hnc, _⟩
  · simp [Builtin.append_, run_underlying ht, sizeOf, typeInfo, hi, Builtin.lenOf, Builtin.firstCells]
  · simp [Builtin.append_, run_underlying ht, sizeOf, typeInfo, hi, Builtin.lenOf, Builtin.firstCells, hnc, storeCells]
theorem run_append_rd {P : Program} (w : World) (base : Nat) (t ty e : TypeId) (i : TypeInfo) (z : Value) (size bytes : Nat) (ht : P.underlying t = some (.slice e)) (hi : P.info? e = some i) (hz : i.zero = some z)
    (hsize : i.size = size) (hby : i.bytes = bytes) (hzs : z.cells.size = size) (hsz : 0 < size)
    (v : Value) (n : Nat) (xs : List Value) (hown : w.ownsRow base e size v n xs)
    (vx : Value) (m : Nat) (news : List Value) (hr : Rd w size vx m news) (h1 : ∀ u ∈ news, u.oneCell' = true)
    (h63 : n + m ≤ maxLen) (hbytes : (n + m) * bytes ≤ 140737488355328) (hbase : base ≤ w.heap.size) :
    ∃ v' w', (Builtin.append_ #[t, t] ty #[v, vx]).run P w = .ok v' w' ∧ w'.ownsRow base e size v' (n + m) (xs ++ news) ∧ w.grownBy w' v.ownBlock ∧
      (v'.ownBlock = v.ownBlock ∨ v'.ownBlock = some w.heap.size) := by
  have nilCase : ∀ c, m = 0 → vx = .slice none 0 c → ∃ v' w', (Builtin.append_ #[t, t] ty #[v, vx]).run P w = .ok v' w' ∧ w'.ownsRow base e size v' (n + m) (xs ++ news) ∧ w.grownBy w' v.ownBlock ∧
      (v'.ownBlock = v.ownBlock ∨ v'.ownBlock = some w.heap.size) := by
    rintro c rfl rfl
    have hn : news = [] := List.eq_nil_of_length_eq_zero (by simpa using hr.1)
    subst hn
    exact ⟨v, w, run_append_none w base t ty e i size ht hi v n xs hown c, by simpa using hown, World.grownBy.refl w _, .inl rfl⟩
  rcases hr.2 with ⟨h0, A, c, rfl⟩ | ⟨b, off, cap, rfl, _, _, _, hc⟩
  · rcases A with _ | ad
    · exact nilCase c h0 rfl
    · subst h0
      have hn : news = [] := List.eq_nil_of_length_eq_zero (by simpa using hr.1)
      subst hn
      obtain ⟨v', w', hrun, h2, h3, _, h5⟩ := run_append_own_at (P := P) w base t ty e i z size bytes ht hi hz hsize hby hzs hsz v n xs hown ad 0 c [] hr.1 (by simp) h1 h63 hbytes hbase
      exact ⟨v', w', hrun, h2, h3, h5⟩
  · obtain ⟨v', w', hrun, h2, h3, _, h5⟩ := run_append_own_at (P := P) w base t ty e i z size bytes ht hi hz hsize hby hzs hsz v n xs hown ⟨b, off, none⟩ m cap news hr.1 (fun j u hu => by rw [Addr.add_lit]; exact hc j u hu) h1 h63 hbytes hbase
    exact ⟨v', w', hrun, h2, h3, h5⟩
theorem wp_append_rd {P : Program} (w : World) {o : Oper} {a : Act} {K : Act → World → Prop} {Q : Exit → Act → World → Prop} (s x : Operand) (t : TypeId)
    (ho : o.op = .call { callee := .builtin .append, args := #[s, x], argTypes := #[t, t] })
    (base : Nat) (e : TypeId) (i : TypeInfo) (z : Value) (size bytes : Nat) (ht : P.underlying t = some (.slice e)) (hi : P.info? e = some i) (hz : i.zero = some z)
    (hsize : i.size = size) (hby : i.bytes = bytes) (hzs : z.cells.size = size) (hsz : 0 < size)
    (v : Value) (n : Nat) (xs : List Value) (hs : a.eval s = v) (hown : w.ownsRow base e size v n xs)
    (vx : Value) (m : Nat) (news : List Value) (hx : a.eval x = vx) (hr : Rd w size vx m news) (h1 : ∀ u ∈ news, u.oneCell' = true)
    (h63 : n + m ≤ maxLen) (hbytes : (n + m) * bytes ≤ 140737488355328) (hbase : base ≤ w.heap.size)
    (h : ∀ v' w', w'.ownsRow base e size v' (n + m) (xs ++ news) → w.grownBy w' v.ownBlock → (v'.ownBlock = v.ownBlock ∨ v'.ownBlock = some w.heap.size) → K (a.put o.dst v') w') : o.wp P a w K Q := by
  obtain ⟨v', w', hrun, h2, h3, h4⟩ := run_append_rd (P := P) w base t o.type e i z size bytes ht hi hz hsize hby hzs hsz v n xs hown vx m news hr h1 h63 hbytes hbase
  unfold Oper.wp execOp
  simp only [ho, resolve, invoke, builtin, Sem.run_bind, Sem.run_pure, Result.andThen_ok, List.map_toArray, List.map_cons, List.map_nil, hs, hx, hrun]
  exact h v' w' h2 h3 h4
theorem wpList_append_rd {P : Program} (w : World) {ops : Array Oper} {rest : List Oper} {o : Oper} {a : Act} {Q : Exit → Act → World → Prop} (hgd : o.guard = none) (s x : Operand) (t : TypeId)
    (ho : o.op = .call { callee := .builtin .append, args := #[s, x], argTypes := #[t, t] })
    (base : Nat) (e : TypeId) (i : TypeInfo) (z : Value) (size bytes : Nat) (ht : P.underlying t = some (.slice e)) (hi : P.info? e = some i) (hz : i.zero = some z)
    (hsize : i.size = size) (hby : i.bytes = bytes) (hzs : z.cells.size = size) (hsz : 0 < size)
    (v : Value) (n : Nat) (xs : List Value) (hs : a.eval s = v) (hown : w.ownsRow base e size v n xs)
    (vx : Value) (m : Nat) (news : List Value) (hx : a.eval x = vx) (hr : Rd w size vx m news) (h1 : ∀ u ∈ news, u.oneCell' = true)
    (h63 : n + m ≤ maxLen) (hbytes : (n + m) * bytes ≤ 140737488355328) (hbase : base ≤ w.heap.size)
    (h : ∀ v' w', w'.ownsRow base e size v' (n + m) (xs ++ news) → w.grownBy w' v.ownBlock → (v'.ownBlock = v.ownBlock ∨ v'.ownBlock = some w.heap.size) → wpList P ops Q rest (a.put o.dst v') w') : wpList P ops Q (o :: rest) a w :=
  wpList_plain hgd fun _ hK => wp_append_rd w s x t ho base e i z size bytes ht hi hz hsize hby hzs hsz v n xs hs hown vx m news hx hr h1 h63 hbytes hbase fun v' w' h2 h3 h4 => hK _ _ (h v' w' h2 h3 h4)
theorem step_append_rd {P : Program} (w : World) {ops : Array Oper} {o : Oper} {a : Act} {K : Act → World → Prop} {Q : Exit → Act → World → Prop} {E : Prop} (hgd : o.guard = none) (s x : Operand) (t : TypeId)
    (ho : o.op = .call { callee := .builtin .append, args := #[s, x], argTypes := #[t, t] })
    (base : Nat) (e : TypeId) (i : TypeInfo) (z : Value) (size bytes : Nat) (ht : P.underlying t = some (.slice e)) (hi : P.info? e = some i) (hz : i.zero = some z)
    (hsize : i.size = size) (hby : i.bytes = bytes) (hzs : z.cells.size = size) (hsz : 0 < size)
    (v : Value) (n : Nat) (xs : List Value) (hs : a.eval s = v) (hown : w.ownsRow base e size v n xs)
    (vx : Value) (m : Nat) (news : List Value) (hx : a.eval x = vx) (hr : Rd w size vx m news) (h1 : ∀ u ∈ news, u.oneCell' = true)
    (h63 : n + m ≤ maxLen) (hbytes : (n + m) * bytes ≤ 140737488355328) (hbase : base ≤ w.heap.size)
    (h : ∀ v' w', w'.ownsRow base e size v' (n + m) (xs ++ news) → w.grownBy w' v.ownBlock → (v'.ownBlock = v.ownBlock ∨ v'.ownBlock = some w.heap.size) → K (a.put o.dst v') w') :
    if Region.wanted o (yielded ops a.tmps) = true then Oper.wp P o a w K Q else E := by
  have hw : Region.wanted o (yielded ops a.tmps) = true := by simp [Region.wanted, hgd]
  rw [if_pos hw]
  exact wp_append_rd w s x t ho base e i z size bytes ht hi hz hsize hby hzs hsz v n xs hs hown vx m news hx hr h1 h63 hbytes hbase h
/-- A part of what reads reads. -/
theorem Rd.lo {w : World} {size : Nat} {A : Option Addr} {n c : Nat} {xs : List Value} (h : Rd w size (.slice A n c) n xs) (k : Nat) (hk : k ≤ n) : Rd w size (.slice A k c) k (xs.take (k * size)) := by
  refine ⟨by rw [List.length_take, h.1]; exact Nat.min_eq_left (Nat.mul_le_mul_right _ hk), ?_⟩
  rcases h.2 with ⟨h0, A', c', hv⟩ | ⟨b, off, cap, hv, hnc, hcm, hb, hc⟩
  · have : k = 0 := by omega
    exact .inl ⟨this, A, c, by rw [this]⟩
  · injection hv with h1 h2 h3
    subst h1; subst h3
    refine .inr ⟨b, off, c, rfl, by omega, hcm, hb, fun j u hu => ?_⟩
    rw [List.getElem?_take] at hu
    split at hu
    · exact hc j u hu
    · cases hu
theorem Rd.hi {w : World} {size : Nat} {A : Option Addr} {n c : Nat} {xs : List Value} (h : Rd w size (.slice A n c) n xs) (k : Nat) (hk : k ≤ n) : Rd w size (.slice (if c = k then A else A.map (·.add (k * size))) (n - k) (c - k)) (n - k) (xs.drop (k * size)) := by
  refine ⟨by rw [List.length_drop, h.1, Nat.sub_mul], ?_⟩
  rcases Nat.eq_zero_or_pos (n - k) with h0 | h0
  · exact .inl ⟨h0, _, _, by rw [h0]⟩
  · rcases h.2 with ⟨h1, _⟩ | ⟨b, off, cap, hv, hnc, hcm, hb, hc⟩
    · omega
    · injection hv with h1 h2 h3
      subst h1; subst h3
      rw [if_neg (by omega)]
      refine .inr ⟨b, off + k * size, c - k, by rw [Option.map_some, Addr.add_lit], by omega, by omega, hb, fun j u hu => ?_⟩
      rw [List.getElem?_drop] at hu
      rw [Nat.add_assoc]
      exact hc _ u hu
theorem Rd.far {w w' : World} {size : Nat} {b off n cap : Nat} {xs : List Value} {row : Option Nat} (h : Rd w size (.slice (some ⟨b, off, none⟩) n cap) n xs) (hb : b < w.heap.size) (hg : w.grownBy w' row) (hne : some b ≠ row) : Rd w' size (.slice (some ⟨b, off, none⟩) n cap) n xs := by
  refine ⟨h.1, ?_⟩
  rcases h.2 with h2 | ⟨b', off', cap', hv, hnc, hcm, hb', hc⟩
  · exact .inl h2
  · injection hv with h1 h2 h3
    injection h1 with h1
    injection h1 with h1 h4
    subst h1; subst h4; subst h3
    exact .inr ⟨b, off, cap, rfl, hnc, hcm, by have := hg.size; omega, fun j u hu => (World.cell?_of_block (hg.block b hb hne)).trans (hc j u hu)⟩
/-- A new block reads as its cells. -/
theorem rd_new (w : World) (L : List Value) (t : TypeId) (size n : Nat) (hL : L.length = n * size) (hn : n ≤ maxLen) : Rd (w.alloc (.cells L.toArray t)) size (.slice (some ⟨w.heap.size, 0, none⟩) n n) n L :=
  ⟨hL, .inr ⟨w.heap.size, 0, n, rfl, Nat.le_refl _, hn, by simp, fun j u hu => by have := cells_new w L t j u hu; rwa [Addr.add_lit] at this⟩⟩
theorem own_none_yet (w : World) (H : Nat) (hH : H ≤ w.heap.size) (e : TypeId) (size : Nat) : (w.alloc (.cells #[] e)).ownsRow H e size (.slice (some ⟨w.heap.size, 0, none⟩) 0 0) 0 [] :=
  ⟨by simp, .inr ⟨w.heap.size, 0, #[], rfl, hH, heap_alloc_new w _, Nat.le_refl _, Nat.zero_le _, by simp, by simp⟩⟩
end Go.Proofs.Ytfoangiphbmipaa
/- Plain facts on types: a list of types as a first-order thing; size, depth, variables. Nothing here speaks of the program. -/
namespace Go.Proofs.Ytfoangiphbmipaa

/-- A slice: its address, its length, its capacity. -/
abbrev Sl := Option Addr × Nat × Nat
def slv (s : Sl) : Value := .slice s.1 s.2.1 s.2.2
/-- A list of types: each has a kind, a number, and a list of parts, which lies at a value. -/
inductive Fo where
  | nil : Fo
  | cons (k n : Int) (v : Sl) (ps rest : Fo) : Fo
namespace Fo
def len : Fo → Nat
  | nil => 0
  | cons _ _ _ _ r => r.len + 1
/-- All types in a list, with their parts. -/
def size : Fo → Nat
  | nil => 0
  | cons _ _ _ ps r => 1 + ps.size + r.size
/-- The depth of the deepest one. -/
def depth : Fo → Nat
  | nil => 0
  | cons _ _ _ ps r => max (1 + ps.depth) r.depth
def app : Fo → Fo → Fo
  | nil, g => g
  | cons k n v ps r, g => cons k n v ps (r.app g)
def drop : Nat → Fo → Fo
  | 0, f => f
  | _ + 1, nil => nil
  | j + 1, cons _ _ _ _ r => r.drop j
def take : Nat → Fo → Fo
  | 0, _ => nil
  | _ + 1, nil => nil
  | j + 1, cons k n v ps r => cons k n v ps (r.take j)
/-- The one at a place: its kind, its number, its parts. -/
def at_ : Nat → Fo → Int × Int × Sl × Fo
  | _, nil => (0, 0, (none, 0, 0), nil)
  | 0, cons k n v ps _ => (k, n, v, ps)
  | j + 1, cons _ _ _ _ r => r.at_ j
theorem size_app (f g : Fo) : (f.app g).size = f.size + g.size := by
  induction f with
  | nil => simp [app, size]
  | cons k n v ps r _ ih => simp [app, size, ih]; omega
theorem len_app (f g : Fo) : (f.app g).len = f.len + g.len := by
  induction f with
  | nil => simp [app, len]
  | cons k n v ps r _ ih => simp [app, len, ih]; omega
theorem app_nil (f : Fo) : f.app nil = f := by
  induction f with
  | nil => rfl
  | cons k n v ps r _ ih => simp [app, ih]
theorem app_assoc (f g h : Fo) : (f.app g).app h = f.app (g.app h) := by
  induction f with
  | nil => rfl
  | cons k n v ps r _ ih => simp [app, ih]
theorem len_le_size (f : Fo) : f.len ≤ f.size := by
  induction f with
  | nil => simp [len]
  | cons k n v ps r _ ih => simp [len, size]; omega
theorem drop_step (f : Fo) (j : Nat) (hj : j < f.len) : f.drop j = cons (f.at_ j).1 (f.at_ j).2.1 (f.at_ j).2.2.1 (f.at_ j).2.2.2 (f.drop (j + 1)) := by
  induction f generalizing j with
  | nil => simp [len] at hj
  | cons k n v ps r _ ih =>
    cases j with
    | zero => simp [drop, at_]
    | succ j => simp only [drop, at_]; exact ih j (by simp [len] at hj; omega)
theorem drop_len (f : Fo) : f.drop f.len = nil := by
  induction f with
  | nil => rfl
  | cons k n v ps r _ ih => simpa [len, drop] using ih
theorem drop_zero (f : Fo) : f.drop 0 = f := by cases f <;> rfl
theorem take_zero (f : Fo) : f.take 0 = nil := by cases f <;> rfl
theorem take_len (f : Fo) : f.take f.len = f := by
  induction f with
  | nil => rfl
  | cons k n v ps r _ ih => simp [len, take, ih]
theorem take_step (f : Fo) (j : Nat) (hj : j < f.len) : f.take (j + 1) = (f.take j).app (cons (f.at_ j).1 (f.at_ j).2.1 (f.at_ j).2.2.1 (f.at_ j).2.2.2 nil) := by
  induction f generalizing j with
  | nil => simp [len] at hj
  | cons k n v ps r _ ih =>
    cases j with
    | zero => simp [take, at_, app]
    | succ j => simp only [take, at_, app]; rw [ih j (by simp [len] at hj; omega)]
theorem at_size (f : Fo) (j : Nat) (hj : j < f.len) : (f.at_ j).2.2.2.size < f.size := by
  induction f generalizing j with
  | nil => simp [len] at hj
  | cons k n v ps r _ ih =>
    cases j with
    | zero => simp [at_, size]; omega
    | succ j => have := ih j (by simp [len] at hj; omega); simp [at_, size]; omega
theorem size_drop_step (f : Fo) (j : Nat) (hj : j < f.len) : (f.drop j).size = 1 + (f.at_ j).2.2.2.size + (f.drop (j + 1)).size := by
  rw [drop_step f j hj, size]
theorem size_take_step (f : Fo) (j : Nat) (hj : j < f.len) : (f.take (j + 1)).size = (f.take j).size + (1 + (f.at_ j).2.2.2.size) := by
  rw [take_step f j hj, size_app]
  simp [size]
theorem at_depth (f : Fo) (j : Nat) (hj : j < f.len) : (f.at_ j).2.2.2.depth + 1 ≤ f.depth := by
  induction f generalizing j with
  | nil => simp [len] at hj
  | cons k n v ps r _ ih =>
    cases j with
    | zero => simp [at_, depth]; omega
    | succ j => have := ih j (by simp [len] at hj; omega); simp [at_, depth]; omega
theorem size_take_le (f : Fo) (j : Nat) : (f.take j).size ≤ f.size := by
  induction f generalizing j with
  | nil => cases j <;> simp [take]
  | cons k n v ps r _ ih =>
    cases j with
    | zero => simp [take, size]
    | succ j => have := ih j; simp [take, size]; omega
end Fo
end Go.Proofs.Ytfoangiphbmipaa
/- Types in memory: cells that read as a list of types; a slice that does. Nothing here speaks of the program. -/
namespace Go.Proofs.Ytfoangiphbmipaa
open Go.RowKit

/-- A slice value, as a list of types lies: nothing, or cells at an address, all below block B. -/
def TyV (B : Nat) (w : World) : Fo → Value → Prop
  | .nil, v => ∃ A c, v = .slice A 0 c
  | .cons k n u ps r, v => ∃ b off cap, v = .slice (some ⟨b, off, none⟩) (r.len + 1) cap ∧ r.len + 1 ≤ cap ∧ cap ≤ maxLen ∧ b < B ∧
      TyC B w (.cons k n u ps r) b off
where
  /-- The cells from an address on. -/
  TyC (B : Nat) (w : World) : Fo → Nat → Nat → Prop
  | .nil, _, _ => True
  | .cons k n u ps r, b, off => w.cell? ⟨b, off, none⟩ = some (.int .i64 k) ∧ w.cell? ⟨b, off + 1, none⟩ = some (.int .i64 n) ∧
      w.cell? ⟨b, off + 2, none⟩ = some (slv u) ∧ TyV B w ps (slv u) ∧ TyC B w r b (off + 3)
abbrev TyC := @TyV.TyC
theorem tyV_nil {B : Nat} {w : World} {v : Value} : TyV B w .nil v ↔ ∃ A c, v = .slice A 0 c := by rw [TyV]
theorem tyV_cons {B : Nat} {w : World} {k n : Int} {u : Sl} {ps r : Fo} {v : Value} : TyV B w (.cons k n u ps r) v ↔ ∃ b off cap, v = .slice (some ⟨b, off, none⟩) (r.len + 1) cap ∧ r.len + 1 ≤ cap ∧ cap ≤ maxLen ∧ b < B ∧
      TyC B w (.cons k n u ps r) b off := by rw [TyV]
theorem tyC_cons {B : Nat} {w : World} {k n : Int} {u : Sl} {ps r : Fo} {b off : Nat} : TyC B w (.cons k n u ps r) b off ↔ w.cell? ⟨b, off, none⟩ = some (.int .i64 k) ∧ w.cell? ⟨b, off + 1, none⟩ = some (.int .i64 n) ∧
      w.cell? ⟨b, off + 2, none⟩ = some (slv u) ∧ TyV B w ps (slv u) ∧ TyC B w r b (off + 3) := by unfold TyC; rw [TyV.TyC]
theorem tyC_nil {B : Nat} {w : World} {b off : Nat} : TyC B w .nil b off := by unfold TyC; rw [TyV.TyC]; trivial
theorem TyV.slice {B : Nat} {w : World} {f : Fo} {v : Value} (h : TyV B w f v) : ∃ A c, v = .slice A f.len c := by
  cases f with
  | nil => exact tyV_nil.1 h
  | cons k n u ps r =>
    obtain ⟨b, off, cap, rfl, _⟩ := tyV_cons.1 h
    exact ⟨_, _, rfl⟩
theorem TyV.form {B : Nat} {w : World} {f : Fo} {v : Value} (h : TyV B w f v) (hn : 0 < f.len) : ∃ b off cap, v = .slice (some ⟨b, off, none⟩) f.len cap ∧ f.len ≤ cap ∧ cap ≤ maxLen ∧ b < B ∧ TyC B w f b off := by
  cases f with
  | nil => simp [Fo.len] at hn
  | cons k n u ps r => exact tyV_cons.1 h
theorem tyC_at {B : Nat} {w : World} {f : Fo} {b off : Nat} (h : TyC B w f b off) (j : Nat) (hj : j < f.len) :
    w.cell? ⟨b, off + j * 3, none⟩ = some (.int .i64 (f.at_ j).1) ∧ w.cell? ⟨b, off + j * 3 + 1, none⟩ = some (.int .i64 (f.at_ j).2.1) ∧
      w.cell? ⟨b, off + j * 3 + 2, none⟩ = some (slv (f.at_ j).2.2.1) ∧ TyV B w (f.at_ j).2.2.2 (slv (f.at_ j).2.2.1) := by
  induction f generalizing off j with
  | nil => simp [Fo.len] at hj
  | cons k n u ps r _ ih =>
    obtain ⟨h1, h2, h3, h3', h4⟩ := tyC_cons.1 h
    cases j with
    | zero => simpa [Fo.at_] using ⟨h1, h2, h3, h3'⟩
    | succ j =>
      have := ih h4 j (by simp [Fo.len] at hj; omega)
      rw [show off + (j + 1) * 3 = off + 3 + j * 3 by omega]
      exact this
theorem ty_keep {B B' : Nat} {w w' : World} (hB : B ≤ B') (hk : ∀ b off, b < B → w'.cell? ⟨b, off, none⟩ = w.cell? ⟨b, off, none⟩) (f : Fo) :
    (∀ v, TyV B w f v → TyV B' w' f v) ∧ (∀ b off, b < B → TyC B w f b off → TyC B' w' f b off) := by
  induction f with
  | nil => exact ⟨fun v h => tyV_nil.2 (tyV_nil.1 h), fun _ _ _ _ => tyC_nil⟩
  | cons k n u ps r ih1 ih2 =>
    have hc : ∀ b off, b < B → TyC B w (.cons k n u ps r) b off → TyC B' w' (.cons k n u ps r) b off := by
      intro b off hb h
      obtain ⟨h1, h2, h3, h4, h5⟩ := tyC_cons.1 h
      exact tyC_cons.2 ⟨(hk _ _ hb).trans h1, (hk _ _ hb).trans h2, (hk _ _ hb).trans h3, ih1.1 (slv u) h4, ih2.2 _ _ hb h5⟩
    refine ⟨fun v h => ?_, hc⟩
    obtain ⟨b, off, cap, hv, h1, h2, h3, h4⟩ := tyV_cons.1 h
    exact tyV_cons.2 ⟨b, off, cap, hv, h1, h2, by omega, hc b off h3 h4⟩
theorem TyV.keep {B B' : Nat} {w w' : World} {f : Fo} {v : Value} (h : TyV B w f v) (hB : B ≤ B') (hk : ∀ b off, b < B → w'.cell? ⟨b, off, none⟩ = w.cell? ⟨b, off, none⟩) : TyV B' w' f v := (ty_keep hB hk f).1 v h
theorem TyV.below {B : Nat} {w w' : World} {f : Fo} {v : Value} (h : TyV B w f v) (hb : Below B w w') : TyV B w' f v := h.keep (Nat.le_refl _) fun b off hlt => hb.cell (p := ⟨b, off, none⟩) hlt
/-- A type as a value: its kind, its number, its parts. -/
def tyVal (k n : Int) (v : Value) : Value := .agg #[.int .i64 k, .int .i64 n, v]
end Go.Proofs.Ytfoangiphbmipaa
/- The contracts of the answer's Size and of what guards the laws. -/
namespace Go.Proofs.Ytfoangiphbmipaa
open Go.RowKit

theorem ret_int {k : IntKind} {a b : Int} (h : a = b) : Ending.returned (.int k a) = .returned (.int k b) := by rw [h]
theorem ret_bool {a b : Bool} (h : a = b) : Ending.returned (.bool a) = .returned (.bool b) := by rw [h]
end Go.Proofs.Ytfoangiphbmipaa
