/- Texts of one proof, one behind the other. -/
import Derived.Test.YtbdckmnppeglfaaMgGraphTypes26
import Derived.Test.YtbdckmnppeglfaaMgGraphTypes25
import Derived.Test.YtbdckmnppeglfaaMgGraphTypes12
/- The answer's graph: Add. -/
namespace Go.Proofs.Ytbdckmnppeglfaa
open Go.RowKit Go.Shelf
attribute [local go_sem ↓] builtin_app
set_option maxRecDepth 100000
theorem nodeInfo : (Try.prog.info? 40).map (fun i => (i.zero, i.size, i.bytes)) = some (some (.agg #[.int .i64 0, .int .i64 0, .slice none 0 0, .slice none 0 0]), 4, 64) := by kernel_rfl
theorem nums_snoc (P : List Nat) (i : Nat) : nums (P ++ [i]) = nums P ++ [.int .i64 (i : Nat)] := by simp [nums, ints, toI]
/-- A part's number put behind the others. -/
theorem app_part (W : World) (base : Nat) (v : Value) (P : List Nat) (own : W.ownsRow base 3 1 v P.length (nums P)) (hl : P.length ≤ 10000000) (hbase : base ≤ W.heap.size) (i : Nat) :
    ∃ (v' : Value) (W' : World), (app_ #[28, 28] 28 #[v, .slice (some ⟨W.heap.size, 0, none⟩) 1 1]).run Try.prog (W.alloc (.cells #[.int .i64 (i : Nat)] 3)) = .ok v' W' ∧ W'.ownsRow base 3 1 v' (P ++ [i]).length (nums (P ++ [i])) ∧ (W.alloc (.cells #[.int .i64 (i : Nat)] 3)).grownBy W' v.ownBlock ∧ (v'.ownBlock = v.ownBlock ∨ v'.ownBlock = some (W.heap.size + 1)) := by
  have h1 : (W.alloc (.cells #[.int .i64 (i : Nat)] 3)).ownsRow base 3 1 v (toI P).length (ints (toI P)) := by rw [toI_len]; exact own.alloc _
  obtain ⟨v', W', hr, ho, hb, -, hg, ha⟩ := app_int _ base v (toI P) h1 (.slice (some ⟨W.heap.size, 0, none⟩) 1 1) [(i : Int)] (rd_new W [.int .i64 i] _ 1 1 rfl (by unfold maxLen; omega)) (by rw [toI_len]; simp; omega) (by simp; omega)
  refine ⟨v', W', hr, ?_, hg, by rw [World.size_alloc] at ha; exact ha⟩
  have e : toI P ++ [(i : Int)] = toI (P ++ [i]) := by simp [toI]
  rw [e, toI_len] at ho
  exact ho
theorem rnode_else (R : List Rn) (k n : Int) (u : Sl) (ps : Fo) (P : List Nat) (h : k = 1 → gvar (R.map rG) n = none) : rnode R k n u ps P = (R ++ [(k, n, u, ps, P)], R.length) := by
  unfold rnode
  by_cases hk : k = 1
  · rw [if_pos hk, h hk]
  · rw [if_neg hk]
theorem RgM.snoc {D : Nat → Prop} {BT : Nat} {w : World} {v : Value} {M : List Rm} {x : Rm} (h : RgM D BT w v M) (hx : TyV BT w x.1.2.2.2.1 (slv x.1.2.2.1) ∧ RdD D w 1 (slv x.2) x.1.2.2.2.2.length (nums x.1.2.2.2.2)) {v' : Value} (hr : RdD D w 4 v' (M.length + 1) (M.flatMap rmC ++ rmC x)) : RgM D BT w v' (M ++ [x]) :=
  ⟨by rw [List.length_append, List.flatMap_append]; simpa using hr, fun y hy => by
    rcases List.mem_append.1 hy with hy | hy
    · exact h.nodes y hy
    · obtain rfl : y = x := by simpa using hy
      exact hx⟩
/-- The end: a copy of the nodes, and the new one. -/
theorem ivar_neg {G : List Gn} {n : Int} (h : ivar G n < 0) : gvar G n = none := by
  unfold ivar at h
  split at h
  · omega
  · assumption
theorem ivar_nonneg {G : List Gn} {n : Int} (h : 0 ≤ ivar G n) : ∃ i, gvar G n = some i ∧ ivar G n = i := by
  unfold ivar at h ⊢
  split at h
  · rename_i i hi
    exact ⟨i, hi, rfl⟩
  · omega
abbrev M1 (M : List Rm) : List Rn := M.map (·.1)
theorem gM_eq (M : List Rm) : gM M = (M1 M).map rG := by simp [gM, M1]
/-- What a node more makes. -/
abbrev AddsTo (D : Nat → Prop) (BT : Nat) (w : World) (M : List Rm) (k n : Int) (u : Sl) (F : Fo) : Ending → World → Prop := fun e w' =>
  ∃ (v' : Value) (M' : List Rm), e = .returned (.tuple #[v', .int .i64 ((radd1 (M1 M) k n u F).2 : Nat)]) ∧ M1 M' = (radd1 (M1 M) k n u F).1 ∧ RgM D BT w' v' M' ∧ Below w.heap.size w w'
/-- The loop: what stands after j parts. -/
def RaI (D : Nat → Prop) (BT : Nat) (wx : World) (M : List Rm) (k n : Int) (u : Sl) (F : Fo) (j : Nat) (v0 : Value) (wr : World) : Prop :=
  ∃ (Mj : List Rm) (vq : Value), RgM (fun b => D b ∧ b ≠ wx.heap.size ∧ vq.ownBlock ≠ some b) BT wr v0 Mj ∧ M1 Mj = (radd (M1 M) (F.take j)).1 ∧ wr.heap[wx.heap.size]? = some (Obj.cells #[.int .i64 k, .int .i64 n, slv u, vq] 40) ∧
    wr.ownsRow (wx.heap.size + 1) 3 1 vq (radd (M1 M) (F.take j)).2.length (nums (radd (M1 M) (F.take j)).2) ∧ Below wx.heap.size wx wr ∧ wx.heap.size + 1 ≤ wr.heap.size
theorem RaI.start {D : Nat → Prop} {BT : Nat} {wx : World} {M : List Rm} {k n : Int} {u : Sl} {F : Fo} {v0 : Value} (h : RgM D BT wx v0 M) (hT : BT ≤ wx.heap.size) : RaI D BT wx M k n u F 0 v0 (wx.alloc (.cells #[.int .i64 k, .int .i64 n, slv u, .slice none 0 0] 40)) := by
  have hb1 : Below wx.heap.size wx (wx.alloc (.cells #[.int .i64 k, .int .i64 n, slv u, .slice none 0 0] 40)) := (Below.refl _ _).alloc (Nat.le_refl _) _
  refine ⟨M, .slice none 0 0, ?_, by rw [Fo.take_zero, radd_nil], heap_alloc_new _ _, by rw [Fo.take_zero, radd_nil]; exact World.ownsRow_nil _ _ _ _, hb1, by simp⟩
  exact (h.imp fun b hb hD => (⟨hD, by omega, by intro e; cases e⟩ : D b ∧ b ≠ wx.heap.size ∧ (Value.slice none 0 0).ownBlock ≠ some b)).below hT hb1
/-- A round: the part's nodes are there, its number is put behind the others. -/
theorem RaI.step {D : Nat → Prop} {BT : Nat} {wx : World} {M : List Rm} {k n : Int} {u : Sl} {F : Fo} {j : Nat} (hj : j < F.len) (hl : M.length + F.size ≤ 100000) (hT : BT ≤ wx.heap.size)
    {Mj M5 : List Rm} {vq v5 : Value} {wr w5 : World} (hM5 : RgM (fun b => D b ∧ b ≠ wx.heap.size ∧ vq.ownBlock ≠ some b) BT w5 v5 M5)
    (hMj : M1 Mj = (radd (M1 M) (F.take j)).1) (hbox : wr.heap[wx.heap.size]? = some (Obj.cells #[.int .i64 k, .int .i64 n, slv u, vq] 40))
    (hq : wr.ownsRow (wx.heap.size + 1) 3 1 vq (radd (M1 M) (F.take j)).2.length (nums (radd (M1 M) (F.take j)).2)) (hb : Below wx.heap.size wx wr) (hsz : wx.heap.size + 1 ≤ wr.heap.size)
    (hM : M1 M5 = (radd1 (M1 Mj) (F.at_ j).1 (F.at_ j).2.1 (F.at_ j).2.2.1 (F.at_ j).2.2.2).1) (hb5 : Below wr.heap.size wr w5) (i : Nat) (hi : i = (radd1 (M1 Mj) (F.at_ j).1 (F.at_ j).2.1 (F.at_ j).2.2.1 (F.at_ j).2.2.2).2) :
    ∃ (A6 : Option Addr) (n6 c6 : Nat) (w6 : World), (app_ #[28, 28] 28 #[vq, .slice (some ⟨w5.heap.size, 0, none⟩) 1 1]).run Try.prog (w5.alloc (.cells #[.int .i64 (i : Nat)] 3)) = .ok (.slice A6 n6 c6) w6 ∧ w5.cell? ⟨wx.heap.size, 3, none⟩ = some vq ∧ w6.cell? ⟨wx.heap.size, 3, none⟩ = some vq ∧ w6.frozen? ⟨wx.heap.size, 3, none⟩ = false ∧
      RaI D BT wx M k n u F (j + 1) v5 (w6.setCell ⟨wx.heap.size, 3, none⟩ (.slice A6 n6 c6)) := by
  have hP : (radd (M1 M) (F.take j)).2.length ≤ 100000 := by rw [(radd_len _ _).2]; have := (F.take j).len_le_size; have := F.size_take_le j; omega
  have q5 := own_below hq hb5
  obtain ⟨v6, w6, hr, ho, hg, hat⟩ := app_part w5 (wx.heap.size + 1) vq _ q5 (by omega) (Nat.le_trans hsz hb5.size) i
  have hs5 := hb5.size
  have hs6 := hg.size
  simp only [World.size_alloc] at hs6
  have hown : ∀ b, vq.ownBlock = some b → wx.heap.size + 1 ≤ b ∧ b < wr.heap.size := fun b h => hq.lt b h
  obtain ⟨P6, hP6⟩ : ∃ P6, (radd (M1 M) (F.take j)).2 ++ [i] = P6 := ⟨_, rfl⟩
  rw [hP6] at ho
  obtain ⟨A6, c6, rfl, -, -⟩ := own_form ho
  obtain ⟨v6, hv6⟩ : ∃ v6, Value.slice A6 P6.length c6 = v6 := ⟨_, rfl⟩
  have hk : ∀ b, b < w5.heap.size → vq.ownBlock ≠ some b → w6.heap[b]? = w5.heap[b]? := fun b hb h => (hg.block b (by simp; omega) (fun e => h e.symm)).trans (Below.heap_alloc _ _ _ hb)
  have hn : vq.ownBlock ≠ some wx.heap.size := fun e => by have := (hown _ e).1; omega
  have b5 : w5.heap[wx.heap.size]? = some (Obj.cells #[.int .i64 k, .int .i64 n, slv u, vq] 40) := (hb5.block _ (by omega)).trans hbox
  have b6 : w6.heap[wx.heap.size]? = some (Obj.cells #[.int .i64 k, .int .i64 n, slv u, vq] 40) := (hk _ (by omega) hn).trans b5
  have hst := radd_step F j hj (M1 M)
  rw [← hMj, ← hi, ← hM] at hst
  have hst2 : (radd (M1 M) (F.take (j + 1))).2 = P6 := by rw [hst]; exact hP6
  have hb15 := hb.trans (hb5.mono (by omega))
  refine ⟨A6, _, c6, w6, hr, cell_of_row w5 _ 3 _ _ (0, 0) b5, cell_of_row w6 _ 3 _ _ (0, 0) b6, frozen_cells b6 3, ?_⟩
  rw [hv6] at ho hat ⊢
  have hset : ∀ b, b ≠ wx.heap.size → (w6.setCell ⟨wx.heap.size, 3, none⟩ v6).heap[b]? = w6.heap[b]? := fun b hb => Below.heap_setCell _ _ _ _ hb
  have hss : (w6.setCell ⟨wx.heap.size, 3, none⟩ v6).heap.size = w6.heap.size := by simp [World.setCell]
  have hB : Below wx.heap.size w5 (w6.setCell ⟨wx.heap.size, 3, none⟩ v6) := ⟨hg.os, hg.tape, hg.output, by rw [hss]; omega, fun b hb => (hset b (by omega)).trans (hk b (by omega) fun e => by have := (hown b e).1; omega)⟩
  have hne6 : ∀ b, b < w5.heap.size → vq.ownBlock ≠ some b → v6.ownBlock ≠ some b := fun b hb h e => by
    rcases hat with h' | h'
    · rw [h'] at e; exact h e
    · rw [h'] at e; injection e with e; omega
  refine ⟨M5, v6, ?_, by rw [hst], heap_setCell_same w6 wx.heap.size 3 _ _ _ b6, ?_, hb15.trans hB, by rw [hss]; omega⟩
  · exact (hM5.imp fun b hlt hD => (⟨⟨hD.1, hD.2.1, hD.2.2⟩, hlt⟩ : (D b ∧ b ≠ wx.heap.size ∧ vq.ownBlock ≠ some b) ∧ b < w5.heap.size)).to (hB.mono hT) (by rw [hss]; omega) (fun b hD hlt => (hset b hD.1.2.1).trans (hk b hlt hD.1.2.2)) |>.imp fun b _ hD => ⟨hD.1.1, hD.1.2.1, hne6 b hD.2 hD.1.2.2⟩
  · rw [hst2]
    refine ⟨ho.1, ?_⟩
    rcases ho.2 with h | ⟨b, cap, cur, hv, hb, hh, hr⟩
    · exact .inl h
    · exact .inr ⟨b, cap, cur, hv, hb, (hset b (by omega)).trans hh, hr⟩
end Go.Proofs.Ytbdckmnppeglfaa
