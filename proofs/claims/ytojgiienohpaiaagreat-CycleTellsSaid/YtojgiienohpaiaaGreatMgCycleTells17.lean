/- Texts of one proof, one behind the other. -/
import Derived.Test.YtojgiienohpaiaaGreatMgCycleTells16
import Derived.Test.YtojgiienohpaiaaGreatMgCycleTells6
import Derived.Test.YtojgiienohpaiaaGreatMgCycleTells5
import Derived.Deep.LoopGhost
import Derived.Deep.QuietTactic
import Derived.BigQuiet
import Derived.WalkMore
namespace Go.Proofs.YtojgiienohpaiaaGreat
open Go.RowKit Go.Shelf
set_option maxRecDepth 100000
theorem radd_app (f g : Fo) : ∀ R, radd R (f.app g) = ((radd (radd R f).1 g).1, (radd R f).2 ++ (radd (radd R f).1 g).2) := by
  induction f with
  | nil => intro R; simp [Fo.app, radd_nil]
  | cons k n u ps r _ ih =>
    intro R
    simp only [Fo.app, radd_cons, ih]
    rfl
theorem radd_step (F : Fo) (j : Nat) (hj : j < F.len) (R : List Rn) : radd R (F.take (j + 1)) =
    ((radd1 (radd R (F.take j)).1 (F.at_ j).1 (F.at_ j).2.1 (F.at_ j).2.2.1 (F.at_ j).2.2.2).1, (radd R (F.take j)).2 ++ [(radd1 (radd R (F.take j)).1 (F.at_ j).1 (F.at_ j).2.1 (F.at_ j).2.2.1 (F.at_ j).2.2.2).2]) := by
  rw [F.take_step j hj, radd_app, radd_cons, radd_nil]
theorem rnode_len (R : List Rn) (k n : Int) (u : Sl) (ps : Fo) (P : List Nat) : (rnode R k n u ps P).1.length ≤ R.length + 1 := by
  unfold rnode
  split <;> simp
theorem radd_len (F : Fo) : ∀ R, (radd R F).1.length ≤ R.length + F.size ∧ (radd R F).2.length = F.len := by
  induction F with
  | nil => intro R; simp [radd_nil, Fo.size, Fo.len]
  | cons k n u ps r i1 i2 =>
    intro R
    have h1 := i1 R
    have h3 := rnode_len (radd R ps).1 k n u ps (radd R ps).2
    rw [← radd1_eq] at h3
    have h2 := i2 (radd1 R k n u ps).1
    rw [radd_cons]
    simp only [List.length_cons, Fo.size, Fo.len]
    omega
abbrev Rm := Rn × Sl
def rmC (x : Rm) : List Value := [.int .i64 x.1.1, .int .i64 x.1.2.1, slv x.1.2.2.1, slv x.2]
theorem rmC_at (M : List Rm) (i : Nat) (hi : i < M.length) : (M.flatMap rmC)[i * 4]? = some (.int .i64 M[i].1.1) ∧ (M.flatMap rmC)[i * 4 + 1]? = some (.int .i64 M[i].1.2.1) ∧ (M.flatMap rmC)[i * 4 + 2]? = some (slv M[i].1.2.2.1) ∧ (M.flatMap rmC)[i * 4 + 3]? = some (slv M[i].2) := by
  induction M generalizing i with
  | nil => simp at hi
  | cons x M ih =>
    cases i with
    | zero => simp [rmC]
    | succ i =>
      have := ih i (by simpa using hi)
      have e : ∀ j, ((x :: M).flatMap rmC)[(i + 1) * 4 + j]? = (M.flatMap rmC)[i * 4 + j]? := fun j => by
        rw [List.flatMap_cons, List.getElem?_append_right (by simp [rmC]; omega)]
        congr 1
        simp [rmC]; omega
      have e0 := e 0
      simp only [Nat.add_zero] at e0
      rw [e0, e 1, e 2, e 3]
      exact this
theorem rmC_one (M : List Rm) : ∀ u ∈ M.flatMap rmC, u.oneCell' = true := by
  intro u hu
  obtain ⟨x, _, hx⟩ := List.mem_flatMap.1 hu
  simp only [rmC, List.mem_cons, List.not_mem_nil, or_false] at hx
  rcases hx with rfl | rfl | rfl | rfl <;> rfl
def RdD (D : Nat → Prop) (w : World) (size : Nat) (v : Value) (n : Nat) (xs : List Value) : Prop :=
  Rd w size v n xs ∧ (0 < n → ∀ b off cap, v = .slice (some ⟨b, off, none⟩) n cap → D b)
theorem RdD.to {D : Nat → Prop} {w w' : World} {size : Nat} {v : Value} {n : Nat} {xs : List Value} (h : RdD D w size v n xs) (hs : w.heap.size ≤ w'.heap.size) (hk : ∀ b, D b → b < w.heap.size → w'.heap[b]? = w.heap[b]?) : RdD D w' size v n xs := by
  refine ⟨⟨h.1.1, ?_⟩, h.2⟩
  rcases Nat.eq_zero_or_pos n with h0 | h0
  · rcases h.1.2 with h1 | ⟨b, off, cap, hv, hnc, hcm, hb, hc⟩
    · exact .inl h1
    · subst h0
      exact .inl ⟨rfl, _, _, hv⟩
  · rcases h.1.2 with ⟨h1, _⟩ | ⟨b, off, cap, hv, hnc, hcm, hb, hc⟩
    · omega
    · exact .inr ⟨b, off, cap, hv, hnc, hcm, by omega, fun j u hu => (World.cell?_of_block (hk b (h.2 h0 b off cap hv) hb)).trans (hc j u hu)⟩
theorem RdD.imp {D D' : Nat → Prop} {w : World} {size : Nat} {v : Value} {n : Nat} {xs : List Value} (h : RdD D w size v n xs) (hD : ∀ b, b < w.heap.size → D b → D' b) : RdD D' w size v n xs :=
  ⟨h.1, fun h0 b off cap hv => by
    rcases h.1.2 with ⟨h1, _⟩ | ⟨b', off', cap', hv', _, _, hb, _⟩
    · omega
    · rw [hv'] at hv
      injection hv with hv
      injection hv with hv
      injection hv with hv
      subst hv
      exact hD _ hb (h.2 h0 b' off' cap' hv')⟩
theorem RdD.of_own {D : Nat → Prop} {w : World} {base : Nat} {e : TypeId} {size : Nat} {v : Value} {n : Nat} {xs : List Value} (h : w.ownsRow base e size v n xs) (hD : ∀ b, base ≤ b → D b) : RdD D w size v n xs :=
  ⟨Rd.of_own h, fun _ b off cap hv => hD b (h.lt b (by rw [hv]; rfl)).1⟩
structure RgM (D : Nat → Prop) (BT : Nat) (w : World) (v : Value) (M : List Rm) : Prop where
  row : RdD D w 4 v M.length (M.flatMap rmC)
  nodes : ∀ x ∈ M, TyV BT w x.1.2.2.2.1 (slv x.1.2.2.1) ∧ RdD D w 1 (slv x.2) x.1.2.2.2.2.length (nums x.1.2.2.2.2)
theorem RgM.to {D : Nat → Prop} {BT : Nat} {w w' : World} {v : Value} {M : List Rm} (h : RgM D BT w v M) (hB : Below BT w w') (hs : w.heap.size ≤ w'.heap.size) (hk : ∀ b, D b → b < w.heap.size → w'.heap[b]? = w.heap[b]?) : RgM D BT w' v M :=
  ⟨h.row.to hs hk, fun x hx => ⟨(h.nodes x hx).1.below hB, (h.nodes x hx).2.to hs hk⟩⟩
theorem RgM.below {D : Nat → Prop} {BT : Nat} {w w' : World} {v : Value} {M : List Rm} (h : RgM D BT w v M) (hT : BT ≤ w.heap.size) (hb : Below w.heap.size w w') : RgM D BT w' v M :=
  h.to (hb.mono hT) hb.size fun b _ hlt => hb.block b hlt
theorem RgM.imp {D D' : Nat → Prop} {BT : Nat} {w : World} {v : Value} {M : List Rm} (h : RgM D BT w v M) (hD : ∀ b, b < w.heap.size → D b → D' b) : RgM D' BT w v M :=
  ⟨h.row.imp hD, fun x hx => ⟨(h.nodes x hx).1, (h.nodes x hx).2.imp hD⟩⟩
def ivar (G : List Gn) (n : Int) : Int := match gvar G n with
  | some i => i
  | none => -1
abbrev gM (M : List Rm) : List Gn := M.map fun x => rG x.1
theorem gvar_drop (G : List Gn) (n : Int) (j : Nat) (hj : j < G.length) (h : gvar G n = (gvar (G.drop j) n).map (· + j)) (hx : ¬ (G[j].1 = 1 ∧ G[j].2.1 = n)) : gvar G n = (gvar (G.drop (j + 1)) n).map (· + (j + 1)) := by
  rw [h, List.drop_eq_getElem_cons hj, gvar, if_neg hx]
  cases gvar (G.drop (j + 1)) n with
  | none => rfl
  | some i => simp only [Option.map_some]; congr 1; omega
theorem ivar_here (G : List Gn) (n : Int) (j : Nat) (hj : j < G.length) (h : gvar G n = (gvar (G.drop j) n).map (· + j)) (hx : G[j].1 = 1 ∧ G[j].2.1 = n) : ivar G n = j := by
  rw [ivar, h, List.drop_eq_getElem_cons hj, gvar, if_pos hx]
  simp
theorem ivar_none (G : List Gn) (n : Int) (h : gvar G n = (gvar (G.drop G.length) n).map (· + G.length)) : ivar G n = -1 := by
  rw [ivar, h, List.drop_length]
  rfl
set_option maxHeartbeats 1000000 in
theorem rvar_graph (w : World) (v : Value) (M : List Rm) (hM : Rd w 4 v M.length (M.flatMap rmC)) (hl : M.length ≤ 1000000) (n : Int) :
    Calls Tryz.prog 15 #[v, .int .i64 n] w fun e w' => e = .returned (.int .i64 (ivar (gM M) n)) ∧ Below w.heap.size w w' := by
  obtain ⟨A, c, rfl⟩ := hM.form
  obtain ⟨q, hq⟩ : ∃ q, M.length = q := ⟨_, rfl⟩
  rw [hq] at hl ⊢
  have hgl : (gM M).length = q := by simp [gM, hq]
  have HM := Lib.hid hM
  have HQ := Lib.hid (And.intro hq hgl)
  obtain ⟨z, hz⟩ : ∃ z, ivar (gM M) n = z := ⟨_, rfl⟩
  rw [hz]
  have HZ := Lib.hid hz
  clear hM hq hz hgl
  go_enter Tryz.func15, Tryz.ntmps15
  go_wp2_with fail
  go_loopw [5] (fun t wr => ∃ j : Nat, j ≤ q ∧ t = .int .i64 j ∧ gvar (gM M) n = (gvar ((gM M).drop j) n).map (· + j) ∧ Below w.heap.size w wr) (fun t _ => q - (intOf t).toNat)
  case atStart => exact ⟨0, Nat.zero_le _, rfl, by simp, Below.refl _ _⟩
  case round =>
    obtain ⟨j, hj, rfl, hja, hb⟩ := hrel
    have HBW := Lib.hid hb
    have HJA := Lib.hid hja
    clear hja hb
    by_cases hjl : j < q
    · have hjM : j < M.length := by rw [HQ.out.1]; exact hjl
      have hjG : j < (gM M).length := by rw [HQ.out.2]; exact hjl
      obtain ⟨b1, o1, cap1, hv1, _, _, hlt1, hc1⟩ := HM.out.2.resolve_left (by rintro ⟨h, _⟩; omega)
      injection hv1 with hA1 _ hcc1
      subst hA1; subst hcc1
      obtain ⟨p0, p1, -, -⟩ := rmC_at M j hjM
      have hgj : (gM M)[j] = rG M[j].1 := by simp [gM]
      obtain ⟨x, hx⟩ : ∃ x, M[j].1.1 = x := ⟨_, rfl⟩
      obtain ⟨y, hy⟩ : ∃ y, M[j].1.2.1 = y := ⟨_, rfl⟩
      rw [hx] at p0
      rw [hy] at p1
      have c0 : wr.cell? ⟨b1, o1 + j * 4, none⟩ = some (.int .i64 x) := (HBW.out.cell (p := ⟨b1, o1 + j * 4, none⟩) hlt1).trans (hc1 _ _ p0)
      have c1 : wr.cell? ⟨b1, o1 + j * 4 + 1, none⟩ = some (.int .i64 y) := (HBW.out.cell (p := ⟨b1, o1 + j * 4 + 1, none⟩) hlt1).trans (hc1 (j * 4 + 1) _ p1)
      have hG1 : (gM M)[j].1 = x := by rw [hgj]; exact hx
      have hG2 : (gM M)[j].2.1 = y := by rw [hgj]; exact hy
      by_cases hxy : x = 1 ∧ y = n
      · have HI := Lib.hid (ivar_here (gM M) n j hjG HJA.out (by rw [hG1, hG2]; exact hxy))
        obtain ⟨rfl, rfl⟩ := hxy
        clear hx hy hc1 hgj p0 p1 hG1 hG2 hjM hjG
        go_wp2_with fail
        go_ret
        refine ⟨?_, HBW.out⟩
        rw [← HZ.out, HI.out]
        rfl
      · have HI := Lib.hid (gvar_drop (gM M) n j hjG HJA.out (by rw [hG1, hG2]; exact hxy))
        have f1 : (x == 1 && y == n) = false := by simpa using hxy
        clear hx hy hc1 hgj p0 p1 hG1 hG2 hjM hjG
        by_cases hx1 : x = 1
        · subst hx1
          have f2 : (y == n) = false := by simpa using hxy
          clear f1 hxy
          go_wp2_with fail
          go_roundw
          case rel => exact ⟨j + 1, by omega, by go_num, HI.out, HBW.out⟩
          case measure => simp [intOf]; omega
        · have f2 : (x == 1) = false := by simpa using hx1
          clear f1 hxy
          go_wp2_with fail
          go_roundw
          case rel => exact ⟨j + 1, by omega, by go_num, HI.out, HBW.out⟩
          case measure => simp [intOf]; omega
    · obtain rfl : j = q := by omega
      have HI := Lib.hid (ivar_none (gM M) n (by rw [HQ.out.2]; exact HJA.out))
      go_wp2_with fail
      go_ret
      exact ⟨by rw [← HZ.out, HI.out]; rfl, HBW.out⟩
end Go.Proofs.YtojgiienohpaiaaGreat
namespace Go.Proofs.YtojgiienohpaiaaGreat
open Go.RowKit Go.Shelf
attribute [local go_sem ↓] builtin_app
set_option maxRecDepth 100000
theorem nodeInfo : (Tryz.prog.info? 73).map (fun i => (i.zero, i.size, i.bytes)) = some (some (.agg #[.int .i64 0, .int .i64 0, .slice none 0 0, .slice none 0 0]), 4, 64) := by kernel_rfl
theorem app_part (W : World) (base : Nat) (v : Value) (P : List Nat) (own : W.ownsRow base 3 1 v P.length (nums P)) (hl : P.length ≤ 10000000) (hbase : base ≤ W.heap.size) (i : Nat) :
    ∃ (v' : Value) (W' : World), (app_ #[30, 30] 30 #[v, .slice (some ⟨W.heap.size, 0, none⟩) 1 1]).run Tryz.prog (W.alloc (.cells #[.int .i64 (i : Nat)] 3)) = .ok v' W' ∧ W'.ownsRow base 3 1 v' (P ++ [i]).length (nums (P ++ [i])) ∧ (W.alloc (.cells #[.int .i64 (i : Nat)] 3)).grownBy W' v.ownBlock ∧ (v'.ownBlock = v.ownBlock ∨ v'.ownBlock = some (W.heap.size + 1)) := by
  have h1 : (W.alloc (.cells #[.int .i64 (i : Nat)] 3)).ownsRow base 3 1 v (toI P).length (ints (toI P)) := by rw [toI_len]; exact own.alloc _
  obtain ⟨v', W', hr, ho, hb, -, hg, ha⟩ := app_int _ base v (toI P) h1 (.slice (some ⟨W.heap.size, 0, none⟩) 1 1) [(i : Int)] (rd_new W [.int .i64 i] _ 1 1 rfl (by unfold maxLen; omega)) (by rw [toI_len]; simp; omega) (by simp; omega)
  refine ⟨v', W', hr, ?_, hg, by rw [World.size_alloc] at ha; exact ha⟩
  have e : toI P ++ [(i : Int)] = toI (P ++ [i]) := by simp [toI]
  rw [e, toI_len] at ho
  exact ho
theorem rnode_else (R : List Rn) (k n : Int) (u : Sl) (ps : Fo) (P : List Nat) (h : k = 1 → gvar (R.map rG) n = none) : rnode R k n u ps P = (R ++ [(k, n, u, ps, P)], R.length) := by
  unfold rnode
  by_cases hk : k = 1
  · rw [if_pos hk, h hk]
  · rw [if_neg hk]
theorem RgM.snoc {D : Nat → Prop} {BT : Nat} {w : World} {v : Value} {M : List Rm} {x : Rm} (h : RgM D BT w v M) (hx : TyV BT w x.1.2.2.2.1 (slv x.1.2.2.1) ∧ RdD D w 1 (slv x.2) x.1.2.2.2.2.length (nums x.1.2.2.2.2)) {v' : Value} (hr : RdD D w 4 v' (M.length + 1) (M.flatMap rmC ++ rmC x)) : RgM D BT w v' (M ++ [x]) :=
  ⟨by rw [List.length_append, List.flatMap_append]; simpa using hr, fun y hy => by
    rcases List.mem_append.1 hy with hy | hy
    · exact h.nodes y hy
    · obtain rfl : y = x := by simpa using hy
      exact hx⟩
theorem ivar_neg {G : List Gn} {n : Int} (h : ivar G n < 0) : gvar G n = none := by
  unfold ivar at h
  split at h
  · omega
  · assumption
theorem ivar_nonneg {G : List Gn} {n : Int} (h : 0 ≤ ivar G n) : ∃ i, gvar G n = some i ∧ ivar G n = i := by
  unfold ivar at h ⊢
  split at h
  · rename_i i hi
    exact ⟨i, hi, rfl⟩
  · omega
abbrev M1 (M : List Rm) : List Rn := M.map (·.1)
theorem gM_eq (M : List Rm) : gM M = (M1 M).map rG := by simp [gM, M1]
abbrev AddsTo (D : Nat → Prop) (BT : Nat) (w : World) (M : List Rm) (k n : Int) (u : Sl) (F : Fo) : Ending → World → Prop := fun e w' =>
  ∃ (v' : Value) (M' : List Rm), e = .returned (.tuple #[v', .int .i64 ((radd1 (M1 M) k n u F).2 : Nat)]) ∧ M1 M' = (radd1 (M1 M) k n u F).1 ∧ RgM D BT w' v' M' ∧ Below w.heap.size w w'
def RaI (D : Nat → Prop) (BT : Nat) (wx : World) (M : List Rm) (k n : Int) (u : Sl) (F : Fo) (j : Nat) (v0 : Value) (wr : World) : Prop :=
  ∃ (Mj : List Rm) (vq : Value), RgM (fun b => D b ∧ b ≠ wx.heap.size ∧ vq.ownBlock ≠ some b) BT wr v0 Mj ∧ M1 Mj = (radd (M1 M) (F.take j)).1 ∧ wr.heap[wx.heap.size]? = some (Obj.cells #[.int .i64 k, .int .i64 n, slv u, vq] 73) ∧
    wr.ownsRow (wx.heap.size + 1) 3 1 vq (radd (M1 M) (F.take j)).2.length (nums (radd (M1 M) (F.take j)).2) ∧ Below wx.heap.size wx wr ∧ wx.heap.size + 1 ≤ wr.heap.size
theorem RaI.start {D : Nat → Prop} {BT : Nat} {wx : World} {M : List Rm} {k n : Int} {u : Sl} {F : Fo} {v0 : Value} (h : RgM D BT wx v0 M) (hT : BT ≤ wx.heap.size) : RaI D BT wx M k n u F 0 v0 (wx.alloc (.cells #[.int .i64 k, .int .i64 n, slv u, .slice none 0 0] 73)) := by
  have hb1 : Below wx.heap.size wx (wx.alloc (.cells #[.int .i64 k, .int .i64 n, slv u, .slice none 0 0] 73)) := (Below.refl _ _).alloc (Nat.le_refl _) _
  refine ⟨M, .slice none 0 0, ?_, by rw [Fo.take_zero, radd_nil], heap_alloc_new _ _, by rw [Fo.take_zero, radd_nil]; exact World.ownsRow_nil _ _ _ _, hb1, by simp⟩
  exact (h.imp fun b hb hD => (⟨hD, by omega, by intro e; cases e⟩ : D b ∧ b ≠ wx.heap.size ∧ (Value.slice none 0 0).ownBlock ≠ some b)).below hT hb1
theorem RaI.step {D : Nat → Prop} {BT : Nat} {wx : World} {M : List Rm} {k n : Int} {u : Sl} {F : Fo} {j : Nat} (hj : j < F.len) (hl : M.length + F.size ≤ 100000) (hT : BT ≤ wx.heap.size)
    {Mj M5 : List Rm} {vq v5 : Value} {wr w5 : World} (hM5 : RgM (fun b => D b ∧ b ≠ wx.heap.size ∧ vq.ownBlock ≠ some b) BT w5 v5 M5)
    (hMj : M1 Mj = (radd (M1 M) (F.take j)).1) (hbox : wr.heap[wx.heap.size]? = some (Obj.cells #[.int .i64 k, .int .i64 n, slv u, vq] 73))
    (hq : wr.ownsRow (wx.heap.size + 1) 3 1 vq (radd (M1 M) (F.take j)).2.length (nums (radd (M1 M) (F.take j)).2)) (hb : Below wx.heap.size wx wr) (hsz : wx.heap.size + 1 ≤ wr.heap.size)
    (hM : M1 M5 = (radd1 (M1 Mj) (F.at_ j).1 (F.at_ j).2.1 (F.at_ j).2.2.1 (F.at_ j).2.2.2).1) (hb5 : Below wr.heap.size wr w5) (i : Nat) (hi : i = (radd1 (M1 Mj) (F.at_ j).1 (F.at_ j).2.1 (F.at_ j).2.2.1 (F.at_ j).2.2.2).2) :
    ∃ (A6 : Option Addr) (n6 c6 : Nat) (w6 : World), (app_ #[30, 30] 30 #[vq, .slice (some ⟨w5.heap.size, 0, none⟩) 1 1]).run Tryz.prog (w5.alloc (.cells #[.int .i64 (i : Nat)] 3)) = .ok (.slice A6 n6 c6) w6 ∧ w5.cell? ⟨wx.heap.size, 3, none⟩ = some vq ∧ w6.cell? ⟨wx.heap.size, 3, none⟩ = some vq ∧ w6.frozen? ⟨wx.heap.size, 3, none⟩ = false ∧
      RaI D BT wx M k n u F (j + 1) v5 (w6.setCell ⟨wx.heap.size, 3, none⟩ (.slice A6 n6 c6)) := by
  have hP : (radd (M1 M) (F.take j)).2.length ≤ 100000 := by rw [(radd_len _ _).2]; have := (F.take j).len_le_size; have := F.size_take_le j; omega
  have q5 := own_below hq hb5
  obtain ⟨v6, w6, hr, ho, hg, hat⟩ := app_part w5 (wx.heap.size + 1) vq _ q5 (by omega) (Nat.le_trans hsz hb5.size) i
  have hs5 := hb5.size
  have hs6 := hg.size
  simp only [World.size_alloc] at hs6
  have hown : ∀ b, vq.ownBlock = some b → wx.heap.size + 1 ≤ b ∧ b < wr.heap.size := fun b h => hq.lt b h
  obtain ⟨P6, hP6⟩ : ∃ P6, (radd (M1 M) (F.take j)).2 ++ [i] = P6 := ⟨_, rfl⟩
  rw [hP6] at ho
  obtain ⟨A6, c6, rfl, -, -⟩ := own_form ho
  obtain ⟨v6, hv6⟩ : ∃ v6, Value.slice A6 P6.length c6 = v6 := ⟨_, rfl⟩
  have hk : ∀ b, b < w5.heap.size → vq.ownBlock ≠ some b → w6.heap[b]? = w5.heap[b]? := fun b hb h => (hg.block b (by simp; omega) (fun e => h e.symm)).trans (Below.heap_alloc _ _ _ hb)
  have hn : vq.ownBlock ≠ some wx.heap.size := fun e => by have := (hown _ e).1; omega
  have b5 : w5.heap[wx.heap.size]? = some (Obj.cells #[.int .i64 k, .int .i64 n, slv u, vq] 73) := (hb5.block _ (by omega)).trans hbox
  have b6 : w6.heap[wx.heap.size]? = some (Obj.cells #[.int .i64 k, .int .i64 n, slv u, vq] 73) := (hk _ (by omega) hn).trans b5
  have hst := radd_step F j hj (M1 M)
  rw [← hMj, ← hi, ← hM] at hst
  have hst2 : (radd (M1 M) (F.take (j + 1))).2 = P6 := by rw [hst]; exact hP6
  have hb15 := hb.trans (hb5.mono (by omega))
  refine ⟨A6, _, c6, w6, hr, cell_of_row w5 _ 3 _ _ (0, 0) b5, cell_of_row w6 _ 3 _ _ (0, 0) b6, frozen_cells b6 3, ?_⟩
  rw [hv6] at ho hat ⊢
  have hset : ∀ b, b ≠ wx.heap.size → (w6.setCell ⟨wx.heap.size, 3, none⟩ v6).heap[b]? = w6.heap[b]? := fun b hb => Below.heap_setCell _ _ _ _ hb
  have hss : (w6.setCell ⟨wx.heap.size, 3, none⟩ v6).heap.size = w6.heap.size := by simp [World.setCell]
  have hB : Below wx.heap.size w5 (w6.setCell ⟨wx.heap.size, 3, none⟩ v6) := ⟨hg.os, hg.tape, hg.output, by rw [hss]; omega, fun b hb => (hset b (by omega)).trans (hk b (by omega) fun e => by have := (hown b e).1; omega)⟩
  have hne6 : ∀ b, b < w5.heap.size → vq.ownBlock ≠ some b → v6.ownBlock ≠ some b := fun b hb h e => by
    rcases hat with h' | h'
    · rw [h'] at e; exact h e
    · rw [h'] at e; injection e with e; omega
  refine ⟨M5, v6, ?_, by rw [hst], heap_setCell_same w6 wx.heap.size 3 _ _ _ b6, ?_, hb15.trans hB, by rw [hss]; omega⟩
  · exact (hM5.imp fun b hlt hD => (⟨⟨hD.1, hD.2.1, hD.2.2⟩, hlt⟩ : (D b ∧ b ≠ wx.heap.size ∧ vq.ownBlock ≠ some b) ∧ b < w5.heap.size)).to (hB.mono hT) (by rw [hss]; omega) (fun b hD hlt => (hset b hD.1.2.1).trans (hk b hlt hD.1.2.2)) |>.imp fun b _ hD => ⟨hD.1.1, hD.1.2.1, hne6 b hD.2 hD.1.2.2⟩
  · rw [hst2]
    refine ⟨ho.1, ?_⟩
    rcases ho.2 with h | ⟨b, cap, cur, hv, hb, hh, hr⟩
    · exact .inl h
    · exact .inr ⟨b, cap, cur, hv, hb, (hset b (by omega)).trans hh, hr⟩
end Go.Proofs.YtojgiienohpaiaaGreat
namespace Go.Proofs.YtojgiienohpaiaaGreat
open Go.RowKit
open Un (Else StM rowI UFo own_else dg swp wp_world paint)
set_option maxRecDepth 100000
def chR (G : List Gn) (kn : Kn) (ro : Nat → Nat) (r : Nat) : List Nat := (partsO G (kn r).1).map ro
def TellOk (gf : FuncId) (lb : Array Value) (cb n : Nat) (ch : Nat → List Nat) (T : Nat → Prop) (J : List (Nat × Bool) → Bool → World → Prop) (Q : World → Prop) : Prop :=
  ∀ (D : List (Nat × Bool)) (W : World) (r : Nat) (b : Bool) (P : Sl) (k : Nat), Q W → J D true W → Rd W 2 (slv P) (ch r).length (ptC cb (ch r)) → (b = true → ∀ x ∈ ch r, (x, true) ∈ D) → (∀ g, (r, g) ∉ D) → r < n → D.length ≤ n →
    Calls Tryz.prog gf (#[.agg #[.pointer (some ⟨cb, 0, none⟩), .int .i64 (r : Nat), slv P, .int .i64 (k : Nat)], .bool b] ++ lb) W fun x w' => ∃ g : Bool, x = .returned (.bool g) ∧ J (D ++ [(r, b)]) g w' ∧ Else T W w'
structure Told (e : Nat → Option Bool) (S : List (Nat × Nat)) (D : List (Nat × Bool)) : Prop where
  known : ∀ x b, (x, b) ∈ D → e x = some b ∧ ∀ s ∈ S, s.1 ≠ x
  all : ∀ x b, e x = some b → (∀ s ∈ S, s.1 ≠ x) → (x, b) ∈ D
def payD (ch : Nat → List Nat) (D : List (Nat × Bool)) : Nat := (D.map fun x => 2 * (ch x.1).length + 1).sum
def payS (S : List (Nat × Nat)) : Nat := (S.map fun x => 2 * x.2 + 1).sum
theorem payD_app (ch : Nat → List Nat) (D : List (Nat × Bool)) (x : Nat × Bool) : payD ch (D ++ [x]) = payD ch D + (2 * (ch x.1).length + 1) := by simp [payD]
theorem payS_app (S : List (Nat × Nat)) (x : Nat × Nat) : payS (S ++ [x]) = payS S + (2 * x.2 + 1) := by simp [payS]
section CyCs
variable {ch : Nat → List Nat} {e : Nat → Option Bool} {S : List (Nat × Nat)} {D : List (Nat × Bool)} {r k x : Nat}
theorem Told.push (h : Told e S D) (hn : e x = none) : Told (upe e x false) (S ++ [(x, 0)]) D := by
  refine ⟨fun y b hy => ?_, fun y b hy ho => ?_⟩
  · obtain ⟨h1, h2⟩ := h.known y b hy
    have hne : y ≠ x := fun he => by rw [he, hn] at h1; cases h1
    refine ⟨by unfold upe; rw [if_neg hne]; exact h1, fun s hs => ?_⟩
    rcases List.mem_append.1 hs with hs | hs
    · exact h2 s hs
    · obtain rfl : s = (x, 0) := by simpa using hs
      exact fun he => hne he.symm
  · have hne : y ≠ x := fun he => ho (x, 0) (by simp) he.symm
    unfold upe at hy
    rw [if_neg hne] at hy
    exact h.all y b hy fun s hs => ho s (List.mem_append_left _ hs)
theorem Told.step (h : Told e (S ++ [(r, k)]) D) (k' : Nat) : Told e (S ++ [(r, k')]) D := by
  have hm : ∀ (a b : Nat) s, s ∈ S ++ [(r, a)] → ∃ t ∈ S ++ [(r, b)], t.1 = s.1 := fun a b s hs => by
    rcases List.mem_append.1 hs with hs | hs
    · exact ⟨s, List.mem_append_left _ hs, rfl⟩
    · obtain rfl : s = (r, a) := by simpa using hs
      exact ⟨(r, b), by simp, rfl⟩
  refine ⟨fun y b hy => ⟨(h.known y b hy).1, fun s hs => ?_⟩, fun y b hy ho => h.all y b hy fun s hs => ?_⟩
  · obtain ⟨t, ht, he⟩ := hm k' k s hs
    rw [← he]
    exact (h.known y b hy).2 t ht
  · obtain ⟨t, ht, he⟩ := hm k k' s hs
    rw [← he]
    exact ho t ht
theorem Told.pop (h : Told e (S ++ [(r, k)]) D) (hd : Dfs ch e (S ++ [(r, k)])) (b : Bool) : Told (upe e r b) S (D ++ [(r, b)]) := by
  have hnd := hd.nd
  rw [List.map_append, List.nodup_append] at hnd
  have hne : ∀ s ∈ S, s.1 ≠ r := fun s hs => hnd.2.2 s.1 (List.mem_map_of_mem hs) r (by simp)
  refine ⟨fun y c hy => ?_, fun y c hy ho => ?_⟩
  · rcases List.mem_append.1 hy with hy | hy
    · obtain ⟨h1, h2⟩ := h.known y c hy
      have hyr : y ≠ r := fun he => h2 (r, k) (by simp) he.symm
      exact ⟨by unfold upe; rw [if_neg hyr]; exact h1, fun s hs => h2 s (List.mem_append_left _ hs)⟩
    · obtain ⟨rfl, rfl⟩ : y = r ∧ c = b := by simpa using hy
      exact ⟨by simp [upe], hne⟩
  · by_cases hyr : y = r
    · subst hyr
      simp only [upe, if_pos, Option.some.injEq] at hy
      subst hy
      simp
    · unfold upe at hy
      rw [if_neg hyr] at hy
      refine List.mem_append_left _ (h.all y c hy fun s hs => ?_)
      rcases List.mem_append.1 hs with hs | hs
      · exact ho s hs
      · obtain rfl : s = (r, k) := by simpa using hs
        exact fun he => hyr he.symm
theorem told_parts (h : Told e (S ++ [(r, k)]) D) (hd : Dfs ch e (S ++ [(r, k)])) (hk : k = (ch r).length) : ∀ y ∈ ch r, (y, true) ∈ D := fun y hy => by
  obtain ⟨t, ht, rfl⟩ := List.getElem_of_mem hy
  obtain ⟨z, h1, h2⟩ := hd.past (r, k) (by simp) t (by show t < k; omega)
  rw [List.getElem?_eq_getElem ht] at h1
  cases h1
  refine h.all _ _ h2 fun s hs he => ?_
  have := hd.on s hs
  rw [he, h2] at this
  cases this
theorem told_new (h : Told e (S ++ [(r, k)]) D) : ∀ g, (r, g) ∉ D := fun g hg => (h.known r g hg).2 (r, k) (by simp) rfl
end CyCs
theorem nodup_len {n : Nat} : ∀ {L : List Nat}, L.Nodup → (∀ x ∈ L, x < n) → L.length ≤ n := by
  induction n with
  | zero =>
    intro L _ h
    cases L with
    | nil => exact Nat.le_refl _
    | cons a L => exact absurd (h a List.mem_cons_self) (Nat.not_lt_zero _)
  | succ n ih =>
    intro L hn h
    have h1 := ih (L := L.erase n) (hn.sublist List.erase_sublist) fun x hx => by
      have h2 := h x (List.mem_of_mem_erase hx)
      have h3 : x ≠ n := fun e => by
        subst e
        exact (List.Nodup.not_mem_erase hn) hx
      omega
    have h2 : L.length ≤ (L.erase n).length + 1 := by rw [List.length_erase]; split <;> omega
    omega
def open_ (n : Nat) (e : Nat → Option Bool) : Nat := (List.range n).countP fun x => (e x).isNone
theorem open_upe {n : Nat} {e : Nat → Option Bool} {x : Nat} (hx : x < n) (hn : e x = none) (b : Bool) : open_ n (upe e x b) + 1 = open_ n e := by
  unfold open_
  induction n with
  | zero => omega
  | succ n ih =>
    rw [List.range_succ, List.countP_append, List.countP_append, List.countP_singleton, List.countP_singleton]
    by_cases h : x = n
    · subst h
      have e1 : (List.range x).countP (fun y => (upe e x b y).isNone) = (List.range x).countP fun y => (e y).isNone := by
        refine List.countP_congr fun y hy => ?_
        have := List.mem_range.1 hy
        unfold upe
        rw [if_neg (by omega)]
      rw [e1]
      simp [upe, hn]
    · have e1 := ih (by omega)
      have e2 : (upe e x b n).isNone = (e n).isNone := by unfold upe; rw [if_neg (by omega)]
      rw [e2]
      omega
theorem open_known {n : Nat} {e : Nat → Option Bool} {x : Nat} (hn : e x ≠ none) (b : Bool) : open_ n (upe e x b) = open_ n e := by
  unfold open_
  refine List.countP_congr fun y _ => ?_
  unfold upe
  split
  · rename_i h
    subst h
    cases he : e y with
    | none => exact absurd he hn
    | some _ => simp
  · rfl
theorem payD_le {ch : Nat → List Nat} (h8 : ∀ x, (ch x).length ≤ 8) (D : List (Nat × Bool)) : payD ch D ≤ 17 * D.length := by
  induction D with
  | nil => simp [payD]
  | cons x D ih =>
    have := h8 x.1
    have e : payD ch (x :: D) = (2 * (ch x.1).length + 1) + payD ch D := by simp [payD]
    rw [e, List.length_cons]
    omega
theorem payS_le {ch : Nat → List Nat} (h8 : ∀ x, (ch x).length ≤ 8) (S : List (Nat × Nat)) (hS : ∀ s ∈ S, s.2 ≤ (ch s.1).length) : payS S ≤ 17 * S.length := by
  induction S with
  | nil => simp [payS]
  | cons x S ih =>
    have h1 := h8 x.1
    have h2 := hS x List.mem_cons_self
    have h3 := ih fun s hs => hS s (List.mem_cons_of_mem _ hs)
    have e : payS (x :: S) = (2 * x.2 + 1) + payS S := by simp [payS]
    rw [e, List.length_cons]
    omega
theorem chR_le {n : Nat} {G : List Gn} {kn : Kn} {ro : Nat → Nat} (hP : ∀ p ∈ G, p.2.2.2.length ≤ 8 ∧ ∀ u ∈ p.2.2.2, u < n) (x : Nat) : (chR G kn ro x).length ≤ 8 := by
  unfold chR
  rw [List.length_map]
  unfold partsO
  cases h : (kn x).1 with
  | none => simp
  | some k =>
    cases hg : G[k]? with
    | none => simp [hg]
    | some p => simpa [hg] using (hP p (List.mem_of_getElem? hg)).1
theorem chR_lt {n : Nat} {G : List Gn} {kn : Kn} {ro : Nat → Nat} (hP : ∀ p ∈ G, p.2.2.2.length ≤ 8 ∧ ∀ u ∈ p.2.2.2, u < n) (hro : ∀ i, i < n → ro i < n) (x y : Nat) (hy : y ∈ chR G kn ro x) : y < n := by
  unfold chR at hy
  obtain ⟨u, hu, rfl⟩ := List.mem_map.1 hy
  refine hro u ?_
  unfold partsO at hu
  cases h : (kn x).1 with
  | none => rw [h] at hu; simp at hu
  | some k =>
    rw [h] at hu
    cases hg : G[k]? with
    | none => simp [hg] at hu
    | some p => simp [hg] at hu; exact (hP p (List.mem_of_getElem? hg)).2 u hu
structure FrI (O : Nat → Prop) (cb : Nat) (A : Adr) (st : Int) (n : Nat) (G : List Gn) (kn : Kn) (nx col ro : Nat → Nat) (wb mb : Nat) (T : Nat → Prop) (J : List (Nat × Bool) → Bool → World → Prop) (w0 : World) (f0 : Int) (sp0 : Int) (m0 : Nat) (D0 : List (Nat × Bool))
    (S : List Fr) (e : Nat → Option Bool) (D : List (Nat × Bool)) (todo : Value) (wr : World) : Prop where
  cl : ∃ f : Nat, ClM O wr cb A st false n G kn nx col ro (f0 + f) ∧ f + 168 * D0.length ≤ 168 * (D.length + S.length)
  wk : ∃ (q m : Nat), WkM wr wb mb e (sp0 + q) m ∧ q + payD (chR G kn ro) D0 ≤ 1 + payD (chR G kn ro) D + payS (S.map fun x => (x.1, x.2.1)) ∧ m + 2 * D0.length ≤ m0 + 2 * D.length + S.length
  dfs : Dfs (chR G kn ro) e (S.map fun x => (x.1, x.2.1))
  told : Told e (S.map fun x => (x.1, x.2.1)) D
  more : ∃ X, D = D0 ++ X
  nd : (D.map (·.1)).Nodup
  dlt : ∀ x b, (x, b) ∈ D → x < n
  lt : ∀ s ∈ S, s.1 < n
  row : wr.ownsRow w0.heap.size 81 4 todo S.length (frs cb S)
  rows : ∀ s ∈ S, RdD (fun b => w0.heap.size ≤ b ∧ todo.ownBlock ≠ some b) wr 2 (slv s.2.2) (chR G kn ro s.1).length (ptC cb (chR G kn ro s.1))
  tl : J D true wr
  els : Else (fun k => A.S k ∨ k = wb ∨ k = mb ∨ T k) w0 wr
end Go.Proofs.YtojgiienohpaiaaGreat
namespace Go.Proofs.YtojgiienohpaiaaGreat
open Go.RowKit
open Un (Else StM rowI UFo own_else dg swp wp_world paint)
attribute [local go_sem] Oper.semAt_some
attribute [local go_sem ↓] builtin_app
set_option maxRecDepth 100000
def FrPost (O : Nat → Prop) (cb : Nat) (A : Adr) (st : Int) (n : Nat) (G : List Gn) (kn : Kn) (nx col ro : Nat → Nat) (wb mb : Nat) (T : Nat → Prop) (J : List (Nat × Bool) → Bool → World → Prop) (f0 sp0 : Int) (m0 : Nat) (D0 : List (Nat × Bool)) (r : Nat) (w0 : World) (x : Ending) (w' : World) : Prop :=
  ∃ (g : Bool) (e : Nat → Option Bool) (S : List (Nat × Nat)) (D : List (Nat × Bool)) (f q m : Nat), x = .returned (.bool g) ∧ ClM O w' cb A st false n G kn nx col ro (f0 + f) ∧ WkM w' wb mb e (sp0 + q) m ∧ (∃ X, D = D0 ++ X) ∧ f + 168 * D0.length ≤ 168 * (D.length + S.length) ∧ q + payD (chR G kn ro) D0 ≤ 1 + payD (chR G kn ro) D + payS S ∧ m + 2 * D0.length ≤ m0 + 2 * D.length + S.length ∧ J D g w' ∧ Else (fun k => A.S k ∨ k = wb ∨ k = mb ∨ T k) w0 w' ∧
    Dfs (chR G kn ro) e S ∧ Told e S D ∧ (∀ s ∈ S, s.1 < n) ∧ (g = true → S = [] ∧ (e r).isSome = true) ∧ (D.map (·.1)).Nodup ∧ (∀ x b, (x, b) ∈ D → x < n)
section CyDs
variable {O : Nat → Prop} {w : World} {cb : Nat} {A : Adr} {st : Int} {n : Nat} {G : List Gn} {kn : Kn} {nx col ro : Nat → Nat} {fs : Int} {wb mb : Nat} {e : Nat → Option Bool} {sp : Int} {m : Nat} {D : List (Nat × Bool)} {gf : FuncId} {lb : Array Value} {T : Nat → Prop} {J : List (Nat × Bool) → Bool → World → Prop}
theorem stack_len {n : Nat} {S : List Fr} {ch : Nat → List Nat} {e : Nat → Option Bool} (h : Dfs ch e (S.map fun x => (x.1, x.2.1))) (hl : ∀ s ∈ S, s.1 < n) : S.length ≤ n := by
  have h1 := h.nd
  have h2 := nodup_len h1 (fun x hx => by
    rw [List.map_map] at hx
    obtain ⟨s, hs, rfl⟩ := List.mem_map.1 hx
    exact hl s hs)
  simpa using h2
theorem payS_map (S : List Fr) (x : Fr) : payS ((S ++ [x]).map fun x => (x.1, x.2.1)) = payS (S.map fun x => (x.1, x.2.1)) + (2 * x.2.1 + 1) := by
  rw [List.map_append, List.map_singleton, payS_app]
theorem frs_cells {W : World} {base g c cb : Nat} {S1 : List Fr} {r k : Nat} {P : Sl} (h : W.ownsRow base 81 4 (.slice (some ⟨g, 0, none⟩) (S1.length + 1) c) (S1 ++ [(r, k, P)]).length (frs cb (S1 ++ [(r, k, P)]))) (b : Nat) (hb : S1.length * 4 = b) :
    g < W.heap.size ∧ base ≤ g ∧ W.frozen? ⟨g, b + 3, none⟩ = false ∧ W.cell? ⟨g, b, none⟩ = some (.pointer (some ⟨cb, 0, none⟩)) ∧ W.cell? ⟨g, b + 1, none⟩ = some (.int .i64 (r : Nat)) ∧ W.cell? ⟨g, b + 2, none⟩ = some (slv P) ∧ W.cell? ⟨g, b + 3, none⟩ = some (.int .i64 (k : Nat)) := by
  have e1 : (S1 ++ [(r, k, P)]).length = S1.length + 1 := by simp
  rw [← e1] at h
  have hl : (frs cb (S1 ++ [(r, k, P)])).length = (S1.length + 1) * 4 := by rw [frs_len, e1]
  have hat := fun j (hj : j < 4) => frs_last cb S1 (r, k, P) j hj
  have hc := fun j (hj : j < 4) => (h.cellAt (S1.length * 4 + j) (by rw [e1]; omega)).trans (hat j hj)
  obtain ⟨h1, h2⟩ := h.lt g rfl
  subst hb
  refine ⟨h2, h1, ?_, hc 0 (by omega), hc 1 (by omega), hc 2 (by omega), hc 3 (by omega)⟩
  rcases h.2 with ⟨h0, _⟩ | ⟨g', cap, cur, hv, hbb, hg, _⟩
  · simp at h0
  · injection hv with hv
    injection hv with hv
    injection hv with hv
    subst hv
    simp [World.frozen?, hg]
theorem part_cells {Dp : Nat → Prop} {W : World} {P : Sl} {L : List Nat} {cb k : Nat} (h : RdD Dp W 2 (slv P) L.length (ptC cb L)) (hk : k < L.length) : ∃ b off x, P.1 = some ⟨b, off, none⟩ ∧ P.2.1 = L.length ∧ L.length ≤ P.2.2 ∧ L[k]? = some x ∧ b < W.heap.size ∧ W.cell? ⟨b, off + k * 2, none⟩ = some (.pointer (some ⟨cb, 0, none⟩)) ∧ W.cell? ⟨b, off + k * 2 + 1, none⟩ = some (.int .i64 (x : Nat)) := by
  obtain ⟨P1, P2, P3⟩ := P
  obtain ⟨⟨hl, h2⟩, _⟩ := h
  rcases h2 with ⟨h0, _⟩ | ⟨b, off, cap, hv, hnc, hcm, hb, hc⟩
  · omega
  · injection hv with e1 e2 e3
    have e3 : P3 = cap := e3
    have hx : L[k]? = some L[k] := List.getElem?_eq_getElem hk
    have hp : ∀ (L : List Nat) (k x : Nat), L[k]? = some x → (ptC cb L)[k * 2]? = some (.pointer (some ⟨cb, 0, none⟩)) ∧ (ptC cb L)[k * 2 + 1]? = some (.int .i64 (x : Nat)) := by
      intro L
      induction L with
      | nil => intro k x hx; simp at hx
      | cons y L ih =>
        intro k x hx
        cases k with
        | zero => simp at hx; subst hx; exact ⟨rfl, rfl⟩
        | succ k =>
          have := ih k x (by simpa using hx)
          have e : ptC cb (y :: L) = [.pointer (some ⟨cb, 0, none⟩), .int .i64 (y : Nat)] ++ ptC cb L := by simp [ptC]
          rw [e, List.getElem?_append_right (by simp; omega), List.getElem?_append_right (by simp; omega)]
          rw [show (k + 1) * 2 - [Value.pointer (some ⟨cb, 0, none⟩), Value.int .i64 (y : Nat)].length = k * 2 by simp; omega, show (k + 1) * 2 + 1 - [Value.pointer (some ⟨cb, 0, none⟩), Value.int .i64 (y : Nat)].length = k * 2 + 1 by simp; omega]
          exact this
    obtain ⟨g1, g2⟩ := hp L k _ hx
    exact ⟨b, off, L[k], e1, e2, by show L.length ≤ P3; omega, hx, hb, hc _ _ g1, by have := hc _ _ g2; rwa [← Nat.add_assoc] at this⟩
theorem part_len {Dp : Nat → Prop} {W : World} {P : Sl} {n : Nat} {xs : List Value} (h : RdD Dp W 2 (slv P) n xs) : P.2.1 = n := by
  obtain ⟨P1, P2, P3⟩ := P
  rcases h.1.2 with ⟨h0, _, _, hv⟩ | ⟨b, off, cap, hv, _⟩
  · injection hv with _ e _; subst h0; exact e
  · injection hv with _ e _
theorem FrI.row_lt {W : World} {wb mb : Nat} {T : Nat → Prop} {J : List (Nat × Bool) → Bool → World → Prop} {w0 : World} {f0 sp0 : Int} {m0 : Nat} {D0 D : List (Nat × Bool)} {S : List Fr} {todo : Value} (h : FrI O cb A st n G kn nx col ro wb mb T J w0 f0 sp0 m0 D0 S e D todo W) : ∀ k, todo.ownBlock = some k → w0.heap.size ≤ k := fun k hk => (h.row.lt k hk).1

def AcB (ch : Nat → List Nat) (rr : Nat) (D : List (Nat × Bool)) (b : Bool) : Prop := (b = true → Acc (Chl ch) rr) ∧ (b = false → ¬ Acc (Chl ch) rr) ∧ (b = true → ∀ y ∈ ch rr, (y, true) ∈ D)
structure FxI (w0 : World) (wb mb : Nat) (A : Adr) (cb : Nat) (T : Nat → Prop) (J : List (Nat × Bool) → Bool → World → Prop) : Prop where
  ap : ∀ k, A.D k ∨ A.F cb k → k < w0.heap.size ∧ k ≠ wb ∧ k ≠ mb
  ne : wb ≠ mb
  wl : wb < w0.heap.size
  ml : mb < w0.heap.size
  td : ∀ k, T k → k < w0.heap.size ∧ k ≠ wb ∧ k ≠ mb ∧ ¬ (A.D k ∨ A.F cb k)
  js : ∀ D g (S : Nat → Prop) W W', J D g W → Else S W W' → (∀ k, S k → ¬ T k) → J D g W'
variable {w0 wr w5 w6 w7 : World} {f0 sp0 : Int} {m0 : Nat} {D0 : List (Nat × Bool)} {S1 : List Fr} {rr k' x gs css f q m2 : Nat} {P P6 : Sl}
theorem FrI.push (X : FxI w0 wb mb A cb T J) (h : FrI O cb A st n G kn nx col ro wb mb T J w0 f0 sp0 m0 D0 (S1 ++ [(rr, k', P)]) e D (.slice (some ⟨gs, 0, none⟩) (S1.length + 1) css) wr) (hE6 : Else (fun k => k = wb ∨ (A.S k ∨ k = mb)) wr w6)
    {k6 B6 g7 c7 : Nat} {ob : Obj} (hC6 : ClM O w6 cb A st false n G kn nx col ro (f0 + f + k6)) (hk6 : k6 ≤ 168) (hf : f + 168 * D0.length ≤ 168 * (D.length + (S1.length + 1))) (hW6 : WkM w6 wb mb (upe e x false) (sp0 + q + 1) (m2 + 1)) (hq : q + payD (chR G kn ro) D0 ≤ 1 + payD (chR G kn ro) D + (payS (S1.map fun x => (x.1, x.2.1)) + (2 * k' + 1))) (hm2 : m2 + 2 * D0.length ≤ m0 + 2 * D.length + (S1.length + 1)) (hen : e x = none) (hxn : x < n) (hx : (chR G kn ro rr)[k']? = some x)
    (hP6 : w6.ownsRow B6 78 2 (slv P6) (chR G kn ro x).length (ptC cb (chR G kn ro x))) (hB6 : wr.heap.size ≤ B6)
    (ho7 : w7.ownsRow w0.heap.size 81 4 (.slice (some ⟨g7, 0, none⟩) (S1.length + 1 + 1) c7) (S1 ++ [(rr, k', P)] ++ [(x, 0, P6)]).length (frs cb (S1 ++ [(rr, k', P)] ++ [(x, 0, P6)]))) (hg7 : (w6.alloc ob).grownBy w7 (some gs)) (hat : gs = g7 ∨ g7 = w6.heap.size + 1) :
    FrI O cb A st n G kn nx col ro wb mb T J w0 f0 sp0 m0 D0 (S1 ++ [(rr, k', P)] ++ [(x, 0, P6)]) (upe e x false) D (.slice (some ⟨g7, 0, none⟩) (S1.length + 1 + 1) c7) w7 := by
  have hgs : w0.heap.size ≤ gs := h.row_lt gs rfl
  have hgl : gs < wr.heap.size := (h.row.lt gs rfl).2
  have hE7 : Else (fun k => k = gs) w6 w7 := (Else.alloc _ _ _).trans (Else.grown hg7 fun k hk => by injection hk with hk; exact hk.symm)
  have hE67 : Else (fun k => k = gs ∨ (k = wb ∨ (A.S k ∨ k = mb))) wr w7 := (hE6.mono fun k hk => .inr hk).trans (hE7.mono fun k hk => .inl hk)
  have hEw : Else (fun k => A.S k ∨ k = wb ∨ k = mb ∨ T k) w0 w7 := ((h.els.mono fun k hk => (.inl hk : (A.S k ∨ k = wb ∨ k = mb ∨ T k) ∨ k = gs)).trans (hE67.mono fun k hk => by rcases hk with hk | hk | hk | hk; exact .inr hk; exact .inl (.inr (.inl hk)); exact .inl (.inl hk); exact .inl (.inr (.inr (.inl hk))))).old fun k hk => hk.imp id fun hk => by omega
  have hs6 := hE6.size
  have hs7 := hE7.size
  have hmap : (S1 ++ [(rr, k', P)] ++ [(x, 0, P6)]).map (fun x : Fr => (x.1, x.2.1)) = (S1 ++ [(rr, k', P)]).map (fun x : Fr => (x.1, x.2.1)) ++ [(x, 0)] := by simp
  have hlen : (S1 ++ [(rr, k', P)] ++ [(x, 0, P6)]).length = S1.length + 2 := by simp
  refine ⟨⟨f + k6, ?_, by rw [hlen]; omega⟩, ⟨q + 1, m2 + 1, ?_, ?_, by rw [hlen]; omega⟩, ?_, ?_, h.more, h.nd, h.dlt, ?_, ho7, ?_, ?_, hEw⟩
  · have e1 : f0 + ((f + k6 : Nat) : Int) = f0 + f + k6 := by push_cast; omega
    rw [e1]
    exact hC6.aside hE7 fun k hk he => by have := (X.ap k hk).1; omega
  · have e1 : sp0 + ((q + 1 : Nat) : Int) = sp0 + q + 1 := by push_cast; omega
    rw [e1]
    exact hW6.keep hE7 (fun he => by have := X.wl; omega) (fun he => by have := X.ml; omega)
  · rw [hmap, payS_app, payS_map]
    show q + 1 + _ ≤ 1 + _ + (payS (S1.map fun x => (x.1, x.2.1)) + (2 * k' + 1) + (2 * 0 + 1))
    omega
  · rw [hmap]
    refine h.dfs.push (fun a ha => ?_) hen
    rw [List.map_append, List.map_singleton, List.getElem?_append_right (by simp)] at ha
    simp at ha
    subst ha
    exact hx
  · rw [hmap]
    exact h.told.push hen
  · intro s hs
    rcases List.mem_append.1 hs with hs | hs
    · exact h.lt s hs
    · obtain rfl : s = _ := by simpa using hs
      exact hxn
  · intro s hs
    rcases List.mem_append.1 hs with hs | hs
    · have h1 : RdD (fun b => (w0.heap.size ≤ b ∧ gs ≠ b) ∧ g7 ≠ b) wr 2 (slv s.2.2) (chR G kn ro s.1).length (ptC cb (chR G kn ro s.1)) := (h.rows s hs).imp fun b hb hd => by
        have h2 : some gs ≠ some b := hd.2
        have h4 : gs ≠ b := fun e => h2 (by rw [e])
        refine ⟨⟨hd.1, h4⟩, ?_⟩
        rcases hat with h3 | h3 <;> omega
      refine (h1.to hE67.size fun b hd hb => hE67.block b hb fun hk => ?_).imp fun b _ hd => ⟨hd.1.1, fun e => by have e : some g7 = some b := e; injection e with e; exact hd.2 e⟩
      rcases hk with hk | hk | hk | hk
      · exact hd.1.2 hk.symm
      · have := X.wl; omega
      · have := (X.ap b (.inr (.inl hk))).1; omega
      · have := X.ml; omega
    · obtain rfl : s = _ := by simpa using hs
      have h1 : RdD (fun b => (w0.heap.size ≤ b ∧ gs ≠ b) ∧ g7 ≠ b) w6 2 (slv P6) (chR G kn ro x).length (ptC cb (chR G kn ro x)) := (RdD.of_own hP6 fun b hb => hb).imp fun b hb hd => by
        have hd : B6 ≤ b := hd
        have := h.els.size
        refine ⟨⟨by omega, by omega⟩, ?_⟩
        rcases hat with h3 | h3 <;> omega
      refine (h1.to hE7.size fun b hd hb => hE7.block b hb fun hk => hd.1.2 hk.symm).imp fun b _ hd => ⟨hd.1.1, fun e => by have e : some g7 = some b := e; injection e with e; exact hd.2 e⟩
  · exact X.js D true _ _ _ h.tl hE67 fun k hk hT => by
      obtain ⟨t1, t2, t3, t4⟩ := X.td k hT
      rcases hk with hk | hk | hk | hk
      · omega
      · exact t2 hk
      · exact t4 (.inr (.inl hk))
      · exact t3 hk
theorem FrI.step (X : FxI w0 wb mb A cb T J) {L : Nat} {P1 : Option Addr} {P3 : Nat} (h : FrI O cb A st n G kn nx col ro wb mb T J w0 f0 sp0 m0 D0 (S1 ++ [(rr, k', (P1, L, P3))]) e D (.slice (some ⟨gs, 0, none⟩) (S1.length + 1) css) wr) (hE6 : Else (fun k => k = wb) wr w6)
    (hC6 : ClM O w6 cb A st false n G kn nx col ro (f0 + f)) (hf : f + 168 * D0.length ≤ 168 * (D.length + (S1.length + 1))) (hW6 : WkM w6 wb mb e (sp0 + q + 1) m2) (hq : q + payD (chR G kn ro) D0 ≤ 1 + payD (chR G kn ro) D + (payS (S1.map fun x => (x.1, x.2.1)) + (2 * k' + 1))) (hm2 : m2 + 2 * D0.length ≤ m0 + 2 * D.length + (S1.length + 1)) (hx : (chR G kn ro rr)[k']? = some x) (het : e x = some true) {b : Nat} (hb : S1.length * 4 = b) :
    FrI O cb A st n G kn nx col ro wb mb T J w0 f0 sp0 m0 D0 (S1 ++ [(rr, k' + 1, (P1, L, P3))]) e D (.slice (some ⟨gs, 0, none⟩) (S1.length + 1) css) (w6.setCell ⟨gs, b + 3, none⟩ (.int .i64 ((k' : Int) + 1))) := by
  have hgs : w0.heap.size ≤ gs := h.row_lt gs rfl
  have hgl : gs < wr.heap.size := (h.row.lt gs rfl).2
  have hE7 : Else (fun k => k = gs) w6 (w6.setCell ⟨gs, b + 3, none⟩ (.int .i64 ((k' : Int) + 1))) := Un.Else.set (S := fun k => k = gs) w6 (p := ⟨gs, b + 3, none⟩) rfl _
  have hrow6 := own_else h.row hE6 fun k hk he => by have hk : some gs = some k := hk; injection hk with hk; have he : k = wb := he; have := X.wl; omega
  have hlen0 : (S1 ++ [(rr, k', ((P1, L, P3) : Sl))]).length = S1.length + 1 := by simp
  have hlen : (S1 ++ [(rr, k' + 1, ((P1, L, P3) : Sl))]).length = S1.length + 1 := by simp
  have hrow7 := (show w6.ownsRow w0.heap.size 81 4 (.slice (some ⟨gs, 0, none⟩) (S1.length + 1) css) (S1.length + 1) (frs cb (S1 ++ [(rr, k', (P1, L, P3))])) from by rw [hlen0] at hrow6; exact hrow6).stored (S1.length * 4 + 3) (.int .i64 ((k' : Int) + 1))
  have hst := frs_step cb S1 rr k' (P1, L, P3)
  have hcast : (((k' + 1 : Nat)) : Int) = (k' : Int) + 1 := by push_cast; rfl
  rw [hcast] at hst
  rw [hst, hb] at hrow7
  have hE67 : Else (fun k => k = gs ∨ k = wb) wr (w6.setCell ⟨gs, b + 3, none⟩ (.int .i64 ((k' : Int) + 1))) := (hE6.mono fun k hk => .inr hk).trans (hE7.mono fun k hk => .inl hk)
  have hEw : Else (fun k => A.S k ∨ k = wb ∨ k = mb ∨ T k) w0 (w6.setCell ⟨gs, b + 3, none⟩ (.int .i64 ((k' : Int) + 1))) := ((h.els.mono fun k hk => (.inl hk : (A.S k ∨ k = wb ∨ k = mb ∨ T k) ∨ k = gs)).trans (hE67.mono fun k hk => by rcases hk with hk | hk; exact .inr hk; exact .inl (.inr (.inl hk)))).old fun k hk => hk.imp id fun hk => by omega
  have hm0 : (S1 ++ [(rr, k', ((P1, L, P3) : Sl))]).map (fun x : Fr => (x.1, x.2.1)) = S1.map (fun x : Fr => (x.1, x.2.1)) ++ [(rr, k')] := by simp
  have hmap : (S1 ++ [(rr, k' + 1, ((P1, L, P3) : Sl))]).map (fun x : Fr => (x.1, x.2.1)) = S1.map (fun x : Fr => (x.1, x.2.1)) ++ [(rr, k' + 1)] := by simp
  have hdf := h.dfs
  have htd := h.told
  rw [hm0] at hdf htd
  refine ⟨⟨f, hC6.aside hE7 fun k hk he => by have := (X.ap k hk).1; omega, by rw [hlen]; exact hf⟩, ⟨q + 1, m2, ?_, ?_, by rw [hlen]; omega⟩, ?_, ?_, h.more, h.nd, h.dlt, ?_, ?_, ?_, ?_, hEw⟩
  · have e1 : sp0 + ((q + 1 : Nat) : Int) = sp0 + q + 1 := by push_cast; omega
    rw [e1]
    exact hW6.keep hE7 (fun he => by have := X.wl; omega) (fun he => by have := X.ml; omega)
  · rw [hmap, payS_app]
    show q + 1 + _ ≤ 1 + _ + (payS (S1.map fun x => (x.1, x.2.1)) + (2 * (k' + 1) + 1))
    omega
  · rw [hmap]
    exact hdf.step hx het
  · rw [hmap]
    exact htd.step _
  · intro s hs
    rcases List.mem_append.1 hs with hs | hs
    · exact h.lt s (List.mem_append_left _ hs)
    · obtain rfl : s = _ := by simpa using hs
      exact h.lt (rr, k', (P1, L, P3)) (by simp)
  · rw [hlen]
    exact hrow7.1
  · intro s hs
    have key : ∀ s : Fr, s ∈ S1 ++ [(rr, k', ((P1, L, P3) : Sl))] → RdD (fun b => w0.heap.size ≤ b ∧ (Value.slice (some ⟨gs, 0, none⟩) (S1.length + 1) css).ownBlock ≠ some b) (w6.setCell ⟨gs, b + 3, none⟩ (.int .i64 ((k' : Int) + 1))) 2 (slv s.2.2) (chR G kn ro s.1).length (ptC cb (chR G kn ro s.1)) := fun s hs => by
      refine (h.rows s hs).to hE67.size fun b hd hb => hE67.block b hb fun hk => ?_
      rcases hk with hk | hk
      · exact hd.2 (by rw [hk]; rfl)
      · have := X.wl; omega
    rcases List.mem_append.1 hs with hs | hs
    · exact key s (List.mem_append_left _ hs)
    · obtain rfl : s = _ := by simpa using hs
      exact key (rr, k', (P1, L, P3)) (by simp)
  · exact X.js D true _ _ _ h.tl hE67 fun k hk hT => by
      obtain ⟨t1, t2, t3, t4⟩ := X.td k hT
      rcases hk with hk | hk
      · omega
      · exact t2 hk
theorem FrI.pop (X : FxI w0 wb mb A cb T J) (h : FrI O cb A st n G kn nx col ro wb mb T J w0 f0 sp0 m0 D0 (S1 ++ [(rr, k', P)]) e D (.slice (some ⟨gs, 0, none⟩) (S1.length + 1) css) wr) (hE6 : Else (fun k => k = wb ∨ k = mb ∨ T k) wr w6)
    (hC6 : ClM O w6 cb A st false n G kn nx col ro (f0 + f)) (hf : f + 168 * D0.length ≤ 168 * (D.length + (S1.length + 1))) (bb : Bool) (hW6 : WkM w6 wb mb (upe e rr bb) (sp0 + q) (m2 + 1)) (hq : q + payD (chR G kn ro) D0 ≤ 1 + payD (chR G kn ro) D + payS (S1.map fun x => (x.1, x.2.1)) + (2 * (chR G kn ro rr).length + 1)) (hm2 : m2 + 2 * D0.length ≤ m0 + 2 * D.length + (S1.length + 1))
    (hb1 : bb = true → Acc (Chl (chR G kn ro)) rr) (hb2 : bb = false → ¬ Acc (Chl (chR G kn ro)) rr) (g : Bool) (hJ : J (D ++ [(rr, bb)]) g w6) :
    FrI O cb A st n G kn nx col ro wb mb T (fun D _ W => J D g W) w0 f0 sp0 m0 D0 S1 (upe e rr bb) (D ++ [(rr, bb)]) (.slice (some ⟨gs, 0, none⟩) S1.length css) w6 := by
  have hgs : w0.heap.size ≤ gs := h.row_lt gs rfl
  have hgl : gs < wr.heap.size := (h.row.lt gs rfl).2
  have hrow6 := own_else h.row hE6 fun k hk he => by
    have hk : some gs = some k := hk
    injection hk with hk
    rcases he with he | he | he
    · have := X.wl; omega
    · have := X.ml; omega
    · have := (X.td k he).1; omega
  have hlen0 : (S1 ++ [(rr, k', P)]).length = S1.length + 1 := by simp
  have hm0 : (S1 ++ [(rr, k', P)]).map (fun x : Fr => (x.1, x.2.1)) = S1.map (fun x : Fr => (x.1, x.2.1)) ++ [(rr, k')] := by simp
  have hdf := h.dfs
  have htd := h.told
  rw [hm0] at hdf htd
  have hnew := told_new htd
  have hEw : Else (fun k => A.S k ∨ k = wb ∨ k = mb ∨ T k) w0 w6 := h.els.trans (hE6.mono fun k hk => by rcases hk with hk | hk | hk; exact .inr (.inl hk); exact .inr (.inr (.inl hk)); exact .inr (.inr (.inr hk)))
  refine ⟨⟨f, hC6, by rw [List.length_append, List.length_singleton]; omega⟩, ⟨q, m2 + 1, hW6, ?_, by rw [List.length_append, List.length_singleton]; omega⟩, hdf.pop bb hb1 hb2, htd.pop hdf bb, ?_, ?_, ?_, fun s hs => h.lt s (List.mem_append_left _ hs), ?_, ?_, hJ, hEw⟩
  · rw [payD_app]
    show q + _ ≤ 1 + (_ + (2 * (chR G kn ro rr).length + 1)) + _
    omega
  · obtain ⟨Y, hY⟩ := h.more
    exact ⟨Y ++ [(rr, bb)], by rw [hY, List.append_assoc]⟩
  · rw [List.map_append, List.nodup_append]
    refine ⟨h.nd, by simp, fun a ha b hb => ?_⟩
    obtain rfl : b = rr := by simpa using hb
    obtain ⟨s, hs, rfl⟩ := List.mem_map.1 ha
    intro he
    exact hnew s.2 (by rw [← he]; exact hs)
  · intro y b hy
    rcases List.mem_append.1 hy with hy | hy
    · exact h.dlt y b hy
    · obtain ⟨rfl, rfl⟩ : y = rr ∧ b = bb := by simpa using hy
      exact h.lt (y, k', P) (by simp)
  · refine pop_fr (x := (rr, k', P)) ?_
    rw [hlen0] at hrow6 ⊢
    exact hrow6
  · intro s hs
    refine ((h.rows s (List.mem_append_left _ hs)).to hE6.size fun b hd hb => hE6.block b hb fun hk => ?_).imp fun b _ hd => hd
    rcases hk with hk | hk | hk
    · have := X.wl; omega
    · have := X.ml; omega
    · have := (X.td b hk).1; omega
end CyDs
end Go.Proofs.YtojgiienohpaiaaGreat
