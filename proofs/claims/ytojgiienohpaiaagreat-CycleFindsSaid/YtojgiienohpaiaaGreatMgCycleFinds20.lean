/- Texts of one proof, one behind the other. -/
import Derived.Test.YtojgiienohpaiaaGreatMgCycleFinds10
import Derived.Test.YtojgiienohpaiaaGreatMgCycleFinds4
import Derived.Deep.RegionWith
import Derived.Test.YtojgiienohpaiaaGreatMgCycleFinds7
import Derived.Test.YtojgiienohpaiaaGreatMgCycleFinds19
import Derived.Test.YtojgiienohpaiaaGreatMgCycleFinds5
namespace Go.Proofs.YtojgiienohpaiaaGreat
abbrev Rn := Int × Int × Sl × Fo × List Nat
def rG (x : Rn) : Gn := (x.1, x.2.1, 1 + x.2.2.2.1.size, x.2.2.2.2)
def rnode (R : List Rn) (k n : Int) (u : Sl) (ps : Fo) (P : List Nat) : List Rn × Nat :=
  match (if k = 1 then gvar (R.map rG) n else none) with
  | some i => (R, i)
  | none => (R ++ [(k, n, u, ps, P)], R.length)
mutual
def radd1 (R : List Rn) (k n : Int) (u : Sl) (ps : Fo) : List Rn × Nat := let r := radd R ps; rnode r.1 k n u ps r.2
def radd (R : List Rn) : Fo → List Rn × List Nat
  | .nil => (R, [])
  | .cons k n u ps r => let x := radd1 R k n u ps; let y := radd x.1 r; (y.1, x.2 :: y.2)
end
theorem radd_nil (R : List Rn) : radd R .nil = (R, []) := by simp [radd]
theorem radd_cons (R : List Rn) (k n : Int) (u : Sl) (ps r : Fo) : radd R (.cons k n u ps r) = ((radd (radd1 R k n u ps).1 r).1, (radd1 R k n u ps).2 :: (radd (radd1 R k n u ps).1 r).2) := by simp [radd]
theorem radd1_eq (R : List Rn) (k n : Int) (u : Sl) (ps : Fo) : radd1 R k n u ps = rnode (radd R ps).1 k n u ps (radd R ps).2 := by simp [radd1]
theorem rnode_G (R : List Rn) (k n : Int) (u : Sl) (ps : Fo) (P : List Nat) (hs : gsum (R.map rG) P = ps.size) : (rnode R k n u ps P).1.map rG = (gnode (R.map rG) k n P).1 ∧ (rnode R k n u ps P).2 = (gnode (R.map rG) k n P).2 := by
  unfold rnode gnode
  cases (if k = 1 then gvar (R.map rG) n else none) with
  | some i => exact ⟨rfl, rfl⟩
  | none => simp [rG, hs]
theorem radd_G (F : Fo) : ∀ R, GI (R.map rG) → Vok F → (radd R F).1.map rG = (gadd (R.map rG) F).1 ∧ (radd R F).2 = (gadd (R.map rG) F).2 := by
  induction F with
  | nil => intro R _ _; rw [radd_nil, gadd_nil]; exact ⟨rfl, rfl⟩
  | cons k n u ps r i1 i2 =>
    intro R hG hv
    obtain ⟨h1, h2, h3⟩ := hv
    obtain ⟨a1, a2⟩ := i1 R hG h2
    have g1 := gadd_ok ps (R.map rG) hG h2
    have hk : k = 1 → (gadd (R.map rG) ps).2 = [] := fun h => by rw [h1 h, gadd_nil]
    have g2 := (gnode_ok (gadd (R.map rG) ps).1 k n (gadd (R.map rG) ps).2 g1.ok hk).2.1
    obtain ⟨b1, b2⟩ := rnode_G (radd R ps).1 k n u ps (radd R ps).2 (by rw [a1, a2]; exact g1.sum)
    rw [a1, ← radd1_eq, a2, ← gadd1_eq] at b1 b2
    rw [← gadd1_eq] at g2
    obtain ⟨c1, c2⟩ := i2 (radd1 R k n u ps).1 (by rw [b1]; exact g2) h3
    rw [radd_cons, gadd_cons, ← b1, ← b2]
    exact ⟨c1, by rw [c2]⟩
end Go.Proofs.YtojgiienohpaiaaGreat
namespace Go.Proofs.YtojgiienohpaiaaGreat
open Go.RowKit

def RoomIs (n deep : Nat) (f : Fo) (r : Int) : Prop :=
  -1 ≤ r ∧ r ≤ n ∧ (0 ≤ r → 1 + (f.size : Int) + r = n ∧ 1 + f.depth ≤ deep) ∧ (1 + f.size ≤ n → 1 + f.depth ≤ deep → r = (n : Int) - (1 + f.size))
theorem RoomIs.zero (n : Nat) (f : Fo) : RoomIs n 0 f (-1) := ⟨by omega, by omega, by omega, by omega⟩
end Go.Proofs.YtojgiienohpaiaaGreat
namespace Go.Proofs.YtojgiienohpaiaaGreat
open Go.RowKit Go.Shelf
set_option maxRecDepth 100000
theorem radd_app (f g : Fo) : ∀ R, radd R (f.app g) = ((radd (radd R f).1 g).1, (radd R f).2 ++ (radd (radd R f).1 g).2) := by
  induction f with
  | nil => intro R; simp [Fo.app, radd_nil]
  | cons k n u ps r _ ih =>
    intro R
    simp only [Fo.app, radd_cons, ih]
    rfl
theorem radd_step (F : Fo) (j : Nat) (hj : j < F.len) (R : List Rn) : radd R (F.take (j + 1)) =
    ((radd1 (radd R (F.take j)).1 (F.at_ j).1 (F.at_ j).2.1 (F.at_ j).2.2.1 (F.at_ j).2.2.2).1, (radd R (F.take j)).2 ++ [(radd1 (radd R (F.take j)).1 (F.at_ j).1 (F.at_ j).2.1 (F.at_ j).2.2.1 (F.at_ j).2.2.2).2]) := by
  rw [F.take_step j hj, radd_app, radd_cons, radd_nil]
theorem rnode_len (R : List Rn) (k n : Int) (u : Sl) (ps : Fo) (P : List Nat) : (rnode R k n u ps P).1.length ≤ R.length + 1 := by
  unfold rnode
  split <;> simp
theorem radd_len (F : Fo) : ∀ R, (radd R F).1.length ≤ R.length + F.size ∧ (radd R F).2.length = F.len := by
  induction F with
  | nil => intro R; simp [radd_nil, Fo.size, Fo.len]
  | cons k n u ps r i1 i2 =>
    intro R
    have h1 := i1 R
    have h3 := rnode_len (radd R ps).1 k n u ps (radd R ps).2
    rw [← radd1_eq] at h3
    have h2 := i2 (radd1 R k n u ps).1
    rw [radd_cons]
    simp only [List.length_cons, Fo.size, Fo.len]
    omega
abbrev Rm := Rn × Sl
def rmC (x : Rm) : List Value := [.int .i64 x.1.1, .int .i64 x.1.2.1, slv x.1.2.2.1, slv x.2]
theorem rmC_at (M : List Rm) (i : Nat) (hi : i < M.length) : (M.flatMap rmC)[i * 4]? = some (.int .i64 M[i].1.1) ∧ (M.flatMap rmC)[i * 4 + 1]? = some (.int .i64 M[i].1.2.1) ∧ (M.flatMap rmC)[i * 4 + 2]? = some (slv M[i].1.2.2.1) ∧ (M.flatMap rmC)[i * 4 + 3]? = some (slv M[i].2) := by
  induction M generalizing i with
  | nil => simp at hi
  | cons x M ih =>
    cases i with
    | zero => simp [rmC]
    | succ i =>
      have := ih i (by simpa using hi)
      have e : ∀ j, ((x :: M).flatMap rmC)[(i + 1) * 4 + j]? = (M.flatMap rmC)[i * 4 + j]? := fun j => by
        rw [List.flatMap_cons, List.getElem?_append_right (by simp [rmC]; omega)]
        congr 1
        simp [rmC]; omega
      have e0 := e 0
      simp only [Nat.add_zero] at e0
      rw [e0, e 1, e 2, e 3]
      exact this
theorem rmC_one (M : List Rm) : ∀ u ∈ M.flatMap rmC, u.oneCell' = true := by
  intro u hu
  obtain ⟨x, _, hx⟩ := List.mem_flatMap.1 hu
  simp only [rmC, List.mem_cons, List.not_mem_nil, or_false] at hx
  rcases hx with rfl | rfl | rfl | rfl <;> rfl
def RdD (D : Nat → Prop) (w : World) (size : Nat) (v : Value) (n : Nat) (xs : List Value) : Prop :=
  Rd w size v n xs ∧ (0 < n → ∀ b off cap, v = .slice (some ⟨b, off, none⟩) n cap → D b)
theorem RdD.to {D : Nat → Prop} {w w' : World} {size : Nat} {v : Value} {n : Nat} {xs : List Value} (h : RdD D w size v n xs) (hs : w.heap.size ≤ w'.heap.size) (hk : ∀ b, D b → b < w.heap.size → w'.heap[b]? = w.heap[b]?) : RdD D w' size v n xs := by
  refine ⟨⟨h.1.1, ?_⟩, h.2⟩
  rcases Nat.eq_zero_or_pos n with h0 | h0
  · rcases h.1.2 with h1 | ⟨b, off, cap, hv, hnc, hcm, hb, hc⟩
    · exact .inl h1
    · subst h0
      exact .inl ⟨rfl, _, _, hv⟩
  · rcases h.1.2 with ⟨h1, _⟩ | ⟨b, off, cap, hv, hnc, hcm, hb, hc⟩
    · omega
    · exact .inr ⟨b, off, cap, hv, hnc, hcm, by omega, fun j u hu => (World.cell?_of_block (hk b (h.2 h0 b off cap hv) hb)).trans (hc j u hu)⟩
theorem RdD.imp {D D' : Nat → Prop} {w : World} {size : Nat} {v : Value} {n : Nat} {xs : List Value} (h : RdD D w size v n xs) (hD : ∀ b, b < w.heap.size → D b → D' b) : RdD D' w size v n xs :=
  ⟨h.1, fun h0 b off cap hv => by
    rcases h.1.2 with ⟨h1, _⟩ | ⟨b', off', cap', hv', _, _, hb, _⟩
    · omega
    · rw [hv'] at hv
      injection hv with hv
      injection hv with hv
      injection hv with hv
      subst hv
      exact hD _ hb (h.2 h0 b' off' cap' hv')⟩
theorem RdD.of_own {D : Nat → Prop} {w : World} {base : Nat} {e : TypeId} {size : Nat} {v : Value} {n : Nat} {xs : List Value} (h : w.ownsRow base e size v n xs) (hD : ∀ b, base ≤ b → D b) : RdD D w size v n xs :=
  ⟨Rd.of_own h, fun _ b off cap hv => hD b (h.lt b (by rw [hv]; rfl)).1⟩
structure RgM (D : Nat → Prop) (BT : Nat) (w : World) (v : Value) (M : List Rm) : Prop where
  row : RdD D w 4 v M.length (M.flatMap rmC)
  nodes : ∀ x ∈ M, TyV BT w x.1.2.2.2.1 (slv x.1.2.2.1) ∧ RdD D w 1 (slv x.2) x.1.2.2.2.2.length (nums x.1.2.2.2.2)
theorem RgM.to {D : Nat → Prop} {BT : Nat} {w w' : World} {v : Value} {M : List Rm} (h : RgM D BT w v M) (hB : Below BT w w') (hs : w.heap.size ≤ w'.heap.size) (hk : ∀ b, D b → b < w.heap.size → w'.heap[b]? = w.heap[b]?) : RgM D BT w' v M :=
  ⟨h.row.to hs hk, fun x hx => ⟨(h.nodes x hx).1.below hB, (h.nodes x hx).2.to hs hk⟩⟩
theorem RgM.below {D : Nat → Prop} {BT : Nat} {w w' : World} {v : Value} {M : List Rm} (h : RgM D BT w v M) (hT : BT ≤ w.heap.size) (hb : Below w.heap.size w w') : RgM D BT w' v M :=
  h.to (hb.mono hT) hb.size fun b _ hlt => hb.block b hlt
theorem RgM.imp {D D' : Nat → Prop} {BT : Nat} {w : World} {v : Value} {M : List Rm} (h : RgM D BT w v M) (hD : ∀ b, b < w.heap.size → D b → D' b) : RgM D' BT w v M :=
  ⟨h.row.imp hD, fun x hx => ⟨(h.nodes x hx).1, (h.nodes x hx).2.imp hD⟩⟩
def ivar (G : List Gn) (n : Int) : Int := match gvar G n with
  | some i => i
  | none => -1
abbrev gM (M : List Rm) : List Gn := M.map fun x => rG x.1
theorem gvar_drop (G : List Gn) (n : Int) (j : Nat) (hj : j < G.length) (h : gvar G n = (gvar (G.drop j) n).map (· + j)) (hx : ¬ (G[j].1 = 1 ∧ G[j].2.1 = n)) : gvar G n = (gvar (G.drop (j + 1)) n).map (· + (j + 1)) := by
  rw [h, List.drop_eq_getElem_cons hj, gvar, if_neg hx]
  cases gvar (G.drop (j + 1)) n with
  | none => rfl
  | some i => simp only [Option.map_some]; congr 1; omega
theorem ivar_here (G : List Gn) (n : Int) (j : Nat) (hj : j < G.length) (h : gvar G n = (gvar (G.drop j) n).map (· + j)) (hx : G[j].1 = 1 ∧ G[j].2.1 = n) : ivar G n = j := by
  rw [ivar, h, List.drop_eq_getElem_cons hj, gvar, if_pos hx]
  simp
theorem ivar_none (G : List Gn) (n : Int) (h : gvar G n = (gvar (G.drop G.length) n).map (· + G.length)) : ivar G n = -1 := by
  rw [ivar, h, List.drop_length]
  rfl
set_option maxHeartbeats 1000000 in
theorem rvar_graph (w : World) (v : Value) (M : List Rm) (hM : Rd w 4 v M.length (M.flatMap rmC)) (hl : M.length ≤ 1000000) (n : Int) :
    Calls Tryz.prog 15 #[v, .int .i64 n] w fun e w' => e = .returned (.int .i64 (ivar (gM M) n)) ∧ Below w.heap.size w w' := by
  obtain ⟨A, c, rfl⟩ := hM.form
  obtain ⟨q, hq⟩ : ∃ q, M.length = q := ⟨_, rfl⟩
  rw [hq] at hl ⊢
  have hgl : (gM M).length = q := by simp [gM, hq]
  have HM := Lib.hid hM
  have HQ := Lib.hid (And.intro hq hgl)
  obtain ⟨z, hz⟩ : ∃ z, ivar (gM M) n = z := ⟨_, rfl⟩
  rw [hz]
  have HZ := Lib.hid hz
  clear hM hq hz hgl
  go_enter Tryz.func15, Tryz.ntmps15
  go_wp2_with fail
  go_loopw [5] (fun t wr => ∃ j : Nat, j ≤ q ∧ t = .int .i64 j ∧ gvar (gM M) n = (gvar ((gM M).drop j) n).map (· + j) ∧ Below w.heap.size w wr) (fun t _ => q - (intOf t).toNat)
  case atStart => exact ⟨0, Nat.zero_le _, rfl, by simp, Below.refl _ _⟩
  case round =>
    obtain ⟨j, hj, rfl, hja, hb⟩ := hrel
    have HBW := Lib.hid hb
    have HJA := Lib.hid hja
    clear hja hb
    by_cases hjl : j < q
    · have hjM : j < M.length := by rw [HQ.out.1]; exact hjl
      have hjG : j < (gM M).length := by rw [HQ.out.2]; exact hjl
      obtain ⟨b1, o1, cap1, hv1, _, _, hlt1, hc1⟩ := HM.out.2.resolve_left (by rintro ⟨h, _⟩; omega)
      injection hv1 with hA1 _ hcc1
      subst hA1; subst hcc1
      obtain ⟨p0, p1, -, -⟩ := rmC_at M j hjM
      have hgj : (gM M)[j] = rG M[j].1 := by simp [gM]
      obtain ⟨x, hx⟩ : ∃ x, M[j].1.1 = x := ⟨_, rfl⟩
      obtain ⟨y, hy⟩ : ∃ y, M[j].1.2.1 = y := ⟨_, rfl⟩
      rw [hx] at p0
      rw [hy] at p1
      have c0 : wr.cell? ⟨b1, o1 + j * 4, none⟩ = some (.int .i64 x) := (HBW.out.cell (p := ⟨b1, o1 + j * 4, none⟩) hlt1).trans (hc1 _ _ p0)
      have c1 : wr.cell? ⟨b1, o1 + j * 4 + 1, none⟩ = some (.int .i64 y) := (HBW.out.cell (p := ⟨b1, o1 + j * 4 + 1, none⟩) hlt1).trans (hc1 (j * 4 + 1) _ p1)
      have hG1 : (gM M)[j].1 = x := by rw [hgj]; exact hx
      have hG2 : (gM M)[j].2.1 = y := by rw [hgj]; exact hy
      by_cases hxy : x = 1 ∧ y = n
      · have HI := Lib.hid (ivar_here (gM M) n j hjG HJA.out (by rw [hG1, hG2]; exact hxy))
        obtain ⟨rfl, rfl⟩ := hxy
        clear hx hy hc1 hgj p0 p1 hG1 hG2 hjM hjG
        go_wp2_with fail
        go_ret
        refine ⟨?_, HBW.out⟩
        rw [← HZ.out, HI.out]
        rfl
      · have HI := Lib.hid (gvar_drop (gM M) n j hjG HJA.out (by rw [hG1, hG2]; exact hxy))
        have f1 : (x == 1 && y == n) = false := by simpa using hxy
        clear hx hy hc1 hgj p0 p1 hG1 hG2 hjM hjG
        by_cases hx1 : x = 1
        · subst hx1
          have f2 : (y == n) = false := by simpa using hxy
          clear f1 hxy
          go_wp2_with fail
          go_roundw
          case rel => exact ⟨j + 1, by omega, by go_num, HI.out, HBW.out⟩
          case measure => simp [intOf]; omega
        · have f2 : (x == 1) = false := by simpa using hx1
          clear f1 hxy
          go_wp2_with fail
          go_roundw
          case rel => exact ⟨j + 1, by omega, by go_num, HI.out, HBW.out⟩
          case measure => simp [intOf]; omega
    · obtain rfl : j = q := by omega
      have HI := Lib.hid (ivar_none (gM M) n (by rw [HQ.out.2]; exact HJA.out))
      go_wp2_with fail
      go_ret
      exact ⟨by rw [← HZ.out, HI.out]; rfl, HBW.out⟩
end Go.Proofs.YtojgiienohpaiaaGreat
namespace Go.Proofs.YtojgiienohpaiaaGreat
open Go.RowKit Go.Shelf
attribute [local go_sem ↓] builtin_app
set_option maxRecDepth 100000
theorem nodeInfo : (Tryz.prog.info? 73).map (fun i => (i.zero, i.size, i.bytes)) = some (some (.agg #[.int .i64 0, .int .i64 0, .slice none 0 0, .slice none 0 0]), 4, 64) := by kernel_rfl
theorem app_part (W : World) (base : Nat) (v : Value) (P : List Nat) (own : W.ownsRow base 3 1 v P.length (nums P)) (hl : P.length ≤ 10000000) (hbase : base ≤ W.heap.size) (i : Nat) :
    ∃ (v' : Value) (W' : World), (app_ #[30, 30] 30 #[v, .slice (some ⟨W.heap.size, 0, none⟩) 1 1]).run Tryz.prog (W.alloc (.cells #[.int .i64 (i : Nat)] 3)) = .ok v' W' ∧ W'.ownsRow base 3 1 v' (P ++ [i]).length (nums (P ++ [i])) ∧ (W.alloc (.cells #[.int .i64 (i : Nat)] 3)).grownBy W' v.ownBlock ∧ (v'.ownBlock = v.ownBlock ∨ v'.ownBlock = some (W.heap.size + 1)) := by
  have h1 : (W.alloc (.cells #[.int .i64 (i : Nat)] 3)).ownsRow base 3 1 v (toI P).length (ints (toI P)) := by rw [toI_len]; exact own.alloc _
  obtain ⟨v', W', hr, ho, hb, -, hg, ha⟩ := app_int _ base v (toI P) h1 (.slice (some ⟨W.heap.size, 0, none⟩) 1 1) [(i : Int)] (rd_new W [.int .i64 i] _ 1 1 rfl (by unfold maxLen; omega)) (by rw [toI_len]; simp; omega) (by simp; omega)
  refine ⟨v', W', hr, ?_, hg, by rw [World.size_alloc] at ha; exact ha⟩
  have e : toI P ++ [(i : Int)] = toI (P ++ [i]) := by simp [toI]
  rw [e, toI_len] at ho
  exact ho
theorem rnode_else (R : List Rn) (k n : Int) (u : Sl) (ps : Fo) (P : List Nat) (h : k = 1 → gvar (R.map rG) n = none) : rnode R k n u ps P = (R ++ [(k, n, u, ps, P)], R.length) := by
  unfold rnode
  by_cases hk : k = 1
  · rw [if_pos hk, h hk]
  · rw [if_neg hk]
theorem RgM.snoc {D : Nat → Prop} {BT : Nat} {w : World} {v : Value} {M : List Rm} {x : Rm} (h : RgM D BT w v M) (hx : TyV BT w x.1.2.2.2.1 (slv x.1.2.2.1) ∧ RdD D w 1 (slv x.2) x.1.2.2.2.2.length (nums x.1.2.2.2.2)) {v' : Value} (hr : RdD D w 4 v' (M.length + 1) (M.flatMap rmC ++ rmC x)) : RgM D BT w v' (M ++ [x]) :=
  ⟨by rw [List.length_append, List.flatMap_append]; simpa using hr, fun y hy => by
    rcases List.mem_append.1 hy with hy | hy
    · exact h.nodes y hy
    · obtain rfl : y = x := by simpa using hy
      exact hx⟩
theorem ivar_neg {G : List Gn} {n : Int} (h : ivar G n < 0) : gvar G n = none := by
  unfold ivar at h
  split at h
  · omega
  · assumption
theorem ivar_nonneg {G : List Gn} {n : Int} (h : 0 ≤ ivar G n) : ∃ i, gvar G n = some i ∧ ivar G n = i := by
  unfold ivar at h ⊢
  split at h
  · rename_i i hi
    exact ⟨i, hi, rfl⟩
  · omega
abbrev M1 (M : List Rm) : List Rn := M.map (·.1)
theorem gM_eq (M : List Rm) : gM M = (M1 M).map rG := by simp [gM, M1]
abbrev AddsTo (D : Nat → Prop) (BT : Nat) (w : World) (M : List Rm) (k n : Int) (u : Sl) (F : Fo) : Ending → World → Prop := fun e w' =>
  ∃ (v' : Value) (M' : List Rm), e = .returned (.tuple #[v', .int .i64 ((radd1 (M1 M) k n u F).2 : Nat)]) ∧ M1 M' = (radd1 (M1 M) k n u F).1 ∧ RgM D BT w' v' M' ∧ Below w.heap.size w w'
def RaI (D : Nat → Prop) (BT : Nat) (wx : World) (M : List Rm) (k n : Int) (u : Sl) (F : Fo) (j : Nat) (v0 : Value) (wr : World) : Prop :=
  ∃ (Mj : List Rm) (vq : Value), RgM (fun b => D b ∧ b ≠ wx.heap.size ∧ vq.ownBlock ≠ some b) BT wr v0 Mj ∧ M1 Mj = (radd (M1 M) (F.take j)).1 ∧ wr.heap[wx.heap.size]? = some (Obj.cells #[.int .i64 k, .int .i64 n, slv u, vq] 73) ∧
    wr.ownsRow (wx.heap.size + 1) 3 1 vq (radd (M1 M) (F.take j)).2.length (nums (radd (M1 M) (F.take j)).2) ∧ Below wx.heap.size wx wr ∧ wx.heap.size + 1 ≤ wr.heap.size
theorem RaI.start {D : Nat → Prop} {BT : Nat} {wx : World} {M : List Rm} {k n : Int} {u : Sl} {F : Fo} {v0 : Value} (h : RgM D BT wx v0 M) (hT : BT ≤ wx.heap.size) : RaI D BT wx M k n u F 0 v0 (wx.alloc (.cells #[.int .i64 k, .int .i64 n, slv u, .slice none 0 0] 73)) := by
  have hb1 : Below wx.heap.size wx (wx.alloc (.cells #[.int .i64 k, .int .i64 n, slv u, .slice none 0 0] 73)) := (Below.refl _ _).alloc (Nat.le_refl _) _
  refine ⟨M, .slice none 0 0, ?_, by rw [Fo.take_zero, radd_nil], heap_alloc_new _ _, by rw [Fo.take_zero, radd_nil]; exact World.ownsRow_nil _ _ _ _, hb1, by simp⟩
  exact (h.imp fun b hb hD => (⟨hD, by omega, by intro e; cases e⟩ : D b ∧ b ≠ wx.heap.size ∧ (Value.slice none 0 0).ownBlock ≠ some b)).below hT hb1
theorem RaI.step {D : Nat → Prop} {BT : Nat} {wx : World} {M : List Rm} {k n : Int} {u : Sl} {F : Fo} {j : Nat} (hj : j < F.len) (hl : M.length + F.size ≤ 100000) (hT : BT ≤ wx.heap.size)
    {Mj M5 : List Rm} {vq v5 : Value} {wr w5 : World} (hM5 : RgM (fun b => D b ∧ b ≠ wx.heap.size ∧ vq.ownBlock ≠ some b) BT w5 v5 M5)
    (hMj : M1 Mj = (radd (M1 M) (F.take j)).1) (hbox : wr.heap[wx.heap.size]? = some (Obj.cells #[.int .i64 k, .int .i64 n, slv u, vq] 73))
    (hq : wr.ownsRow (wx.heap.size + 1) 3 1 vq (radd (M1 M) (F.take j)).2.length (nums (radd (M1 M) (F.take j)).2)) (hb : Below wx.heap.size wx wr) (hsz : wx.heap.size + 1 ≤ wr.heap.size)
    (hM : M1 M5 = (radd1 (M1 Mj) (F.at_ j).1 (F.at_ j).2.1 (F.at_ j).2.2.1 (F.at_ j).2.2.2).1) (hb5 : Below wr.heap.size wr w5) (i : Nat) (hi : i = (radd1 (M1 Mj) (F.at_ j).1 (F.at_ j).2.1 (F.at_ j).2.2.1 (F.at_ j).2.2.2).2) :
    ∃ (A6 : Option Addr) (n6 c6 : Nat) (w6 : World), (app_ #[30, 30] 30 #[vq, .slice (some ⟨w5.heap.size, 0, none⟩) 1 1]).run Tryz.prog (w5.alloc (.cells #[.int .i64 (i : Nat)] 3)) = .ok (.slice A6 n6 c6) w6 ∧ w5.cell? ⟨wx.heap.size, 3, none⟩ = some vq ∧ w6.cell? ⟨wx.heap.size, 3, none⟩ = some vq ∧ w6.frozen? ⟨wx.heap.size, 3, none⟩ = false ∧
      RaI D BT wx M k n u F (j + 1) v5 (w6.setCell ⟨wx.heap.size, 3, none⟩ (.slice A6 n6 c6)) := by
  have hP : (radd (M1 M) (F.take j)).2.length ≤ 100000 := by rw [(radd_len _ _).2]; have := (F.take j).len_le_size; have := F.size_take_le j; omega
  have q5 := own_below hq hb5
  obtain ⟨v6, w6, hr, ho, hg, hat⟩ := app_part w5 (wx.heap.size + 1) vq _ q5 (by omega) (Nat.le_trans hsz hb5.size) i
  have hs5 := hb5.size
  have hs6 := hg.size
  simp only [World.size_alloc] at hs6
  have hown : ∀ b, vq.ownBlock = some b → wx.heap.size + 1 ≤ b ∧ b < wr.heap.size := fun b h => hq.lt b h
  obtain ⟨P6, hP6⟩ : ∃ P6, (radd (M1 M) (F.take j)).2 ++ [i] = P6 := ⟨_, rfl⟩
  rw [hP6] at ho
  obtain ⟨A6, c6, rfl, -, -⟩ := own_form ho
  obtain ⟨v6, hv6⟩ : ∃ v6, Value.slice A6 P6.length c6 = v6 := ⟨_, rfl⟩
  have hk : ∀ b, b < w5.heap.size → vq.ownBlock ≠ some b → w6.heap[b]? = w5.heap[b]? := fun b hb h => (hg.block b (by simp; omega) (fun e => h e.symm)).trans (Below.heap_alloc _ _ _ hb)
  have hn : vq.ownBlock ≠ some wx.heap.size := fun e => by have := (hown _ e).1; omega
  have b5 : w5.heap[wx.heap.size]? = some (Obj.cells #[.int .i64 k, .int .i64 n, slv u, vq] 73) := (hb5.block _ (by omega)).trans hbox
  have b6 : w6.heap[wx.heap.size]? = some (Obj.cells #[.int .i64 k, .int .i64 n, slv u, vq] 73) := (hk _ (by omega) hn).trans b5
  have hst := radd_step F j hj (M1 M)
  rw [← hMj, ← hi, ← hM] at hst
  have hst2 : (radd (M1 M) (F.take (j + 1))).2 = P6 := by rw [hst]; exact hP6
  have hb15 := hb.trans (hb5.mono (by omega))
  refine ⟨A6, _, c6, w6, hr, cell_of_row w5 _ 3 _ _ (0, 0) b5, cell_of_row w6 _ 3 _ _ (0, 0) b6, frozen_cells b6 3, ?_⟩
  rw [hv6] at ho hat ⊢
  have hset : ∀ b, b ≠ wx.heap.size → (w6.setCell ⟨wx.heap.size, 3, none⟩ v6).heap[b]? = w6.heap[b]? := fun b hb => Below.heap_setCell _ _ _ _ hb
  have hss : (w6.setCell ⟨wx.heap.size, 3, none⟩ v6).heap.size = w6.heap.size := by simp [World.setCell]
  have hB : Below wx.heap.size w5 (w6.setCell ⟨wx.heap.size, 3, none⟩ v6) := ⟨hg.os, hg.tape, hg.output, by rw [hss]; omega, fun b hb => (hset b (by omega)).trans (hk b (by omega) fun e => by have := (hown b e).1; omega)⟩
  have hne6 : ∀ b, b < w5.heap.size → vq.ownBlock ≠ some b → v6.ownBlock ≠ some b := fun b hb h e => by
    rcases hat with h' | h'
    · rw [h'] at e; exact h e
    · rw [h'] at e; injection e with e; omega
  refine ⟨M5, v6, ?_, by rw [hst], heap_setCell_same w6 wx.heap.size 3 _ _ _ b6, ?_, hb15.trans hB, by rw [hss]; omega⟩
  · exact (hM5.imp fun b hlt hD => (⟨⟨hD.1, hD.2.1, hD.2.2⟩, hlt⟩ : (D b ∧ b ≠ wx.heap.size ∧ vq.ownBlock ≠ some b) ∧ b < w5.heap.size)).to (hB.mono hT) (by rw [hss]; omega) (fun b hD hlt => (hset b hD.1.2.1).trans (hk b hlt hD.1.2.2)) |>.imp fun b _ hD => ⟨hD.1.1, hD.1.2.1, hne6 b hD.2 hD.1.2.2⟩
  · rw [hst2]
    refine ⟨ho.1, ?_⟩
    rcases ho.2 with h | ⟨b, cap, cur, hv, hb, hh, hr⟩
    · exact .inl h
    · exact .inr ⟨b, cap, cur, hv, hb, (hset b (by omega)).trans hh, hr⟩
end Go.Proofs.YtojgiienohpaiaaGreat
namespace Go.Proofs.YtojgiienohpaiaaGreat
open Go.RowKit
open Un (Else StM rowI UFo own_else dg swp wp_world paint)
set_option maxRecDepth 100000
def chR (G : List Gn) (kn : Kn) (ro : Nat → Nat) (r : Nat) : List Nat := (partsO G (kn r).1).map ro
def TellOk (gf : FuncId) (lb : Array Value) (cb n : Nat) (ch : Nat → List Nat) (T : Nat → Prop) (J : List (Nat × Bool) → Bool → World → Prop) (Q : World → Prop) : Prop :=
  ∀ (D : List (Nat × Bool)) (W : World) (r : Nat) (b : Bool) (P : Sl) (k : Nat), Q W → J D true W → Rd W 2 (slv P) (ch r).length (ptC cb (ch r)) → (b = true → ∀ x ∈ ch r, (x, true) ∈ D) → (∀ g, (r, g) ∉ D) → r < n → D.length ≤ n →
    Calls Tryz.prog gf (#[.agg #[.pointer (some ⟨cb, 0, none⟩), .int .i64 (r : Nat), slv P, .int .i64 (k : Nat)], .bool b] ++ lb) W fun x w' => ∃ g : Bool, x = .returned (.bool g) ∧ J (D ++ [(r, b)]) g w' ∧ Else T W w'
structure Told (e : Nat → Option Bool) (S : List (Nat × Nat)) (D : List (Nat × Bool)) : Prop where
  known : ∀ x b, (x, b) ∈ D → e x = some b ∧ ∀ s ∈ S, s.1 ≠ x
  all : ∀ x b, e x = some b → (∀ s ∈ S, s.1 ≠ x) → (x, b) ∈ D
def payD (ch : Nat → List Nat) (D : List (Nat × Bool)) : Nat := (D.map fun x => 2 * (ch x.1).length + 1).sum
def payS (S : List (Nat × Nat)) : Nat := (S.map fun x => 2 * x.2 + 1).sum
theorem payD_app (ch : Nat → List Nat) (D : List (Nat × Bool)) (x : Nat × Bool) : payD ch (D ++ [x]) = payD ch D + (2 * (ch x.1).length + 1) := by simp [payD]
theorem payS_app (S : List (Nat × Nat)) (x : Nat × Nat) : payS (S ++ [x]) = payS S + (2 * x.2 + 1) := by simp [payS]
section CyCs
variable {ch : Nat → List Nat} {e : Nat → Option Bool} {S : List (Nat × Nat)} {D : List (Nat × Bool)} {r k x : Nat}
theorem Told.push (h : Told e S D) (hn : e x = none) : Told (upe e x false) (S ++ [(x, 0)]) D := by
  refine ⟨fun y b hy => ?_, fun y b hy ho => ?_⟩
  · obtain ⟨h1, h2⟩ := h.known y b hy
    have hne : y ≠ x := fun he => by rw [he, hn] at h1; cases h1
    refine ⟨by unfold upe; rw [if_neg hne]; exact h1, fun s hs => ?_⟩
    rcases List.mem_append.1 hs with hs | hs
    · exact h2 s hs
    · obtain rfl : s = (x, 0) := by simpa using hs
      exact fun he => hne he.symm
  · have hne : y ≠ x := fun he => ho (x, 0) (by simp) he.symm
    unfold upe at hy
    rw [if_neg hne] at hy
    exact h.all y b hy fun s hs => ho s (List.mem_append_left _ hs)
theorem Told.step (h : Told e (S ++ [(r, k)]) D) (k' : Nat) : Told e (S ++ [(r, k')]) D := by
  have hm : ∀ (a b : Nat) s, s ∈ S ++ [(r, a)] → ∃ t ∈ S ++ [(r, b)], t.1 = s.1 := fun a b s hs => by
    rcases List.mem_append.1 hs with hs | hs
    · exact ⟨s, List.mem_append_left _ hs, rfl⟩
    · obtain rfl : s = (r, a) := by simpa using hs
      exact ⟨(r, b), by simp, rfl⟩
  refine ⟨fun y b hy => ⟨(h.known y b hy).1, fun s hs => ?_⟩, fun y b hy ho => h.all y b hy fun s hs => ?_⟩
  · obtain ⟨t, ht, he⟩ := hm k' k s hs
    rw [← he]
    exact (h.known y b hy).2 t ht
  · obtain ⟨t, ht, he⟩ := hm k k' s hs
    rw [← he]
    exact ho t ht
theorem Told.pop (h : Told e (S ++ [(r, k)]) D) (hd : Dfs ch e (S ++ [(r, k)])) (b : Bool) : Told (upe e r b) S (D ++ [(r, b)]) := by
  have hnd := hd.nd
  rw [List.map_append, List.nodup_append] at hnd
  have hne : ∀ s ∈ S, s.1 ≠ r := fun s hs => hnd.2.2 s.1 (List.mem_map_of_mem hs) r (by simp)
  refine ⟨fun y c hy => ?_, fun y c hy ho => ?_⟩
  · rcases List.mem_append.1 hy with hy | hy
    · obtain ⟨h1, h2⟩ := h.known y c hy
      have hyr : y ≠ r := fun he => h2 (r, k) (by simp) he.symm
      exact ⟨by unfold upe; rw [if_neg hyr]; exact h1, fun s hs => h2 s (List.mem_append_left _ hs)⟩
    · obtain ⟨rfl, rfl⟩ : y = r ∧ c = b := by simpa using hy
      exact ⟨by simp [upe], hne⟩
  · by_cases hyr : y = r
    · subst hyr
      simp only [upe, if_pos, Option.some.injEq] at hy
      subst hy
      simp
    · unfold upe at hy
      rw [if_neg hyr] at hy
      refine List.mem_append_left _ (h.all y c hy fun s hs => ?_)
      rcases List.mem_append.1 hs with hs | hs
      · exact ho s hs
      · obtain rfl : s = (r, k) := by simpa using hs
        exact fun he => hyr he.symm
theorem told_parts (h : Told e (S ++ [(r, k)]) D) (hd : Dfs ch e (S ++ [(r, k)])) (hk : k = (ch r).length) : ∀ y ∈ ch r, (y, true) ∈ D := fun y hy => by
  obtain ⟨t, ht, rfl⟩ := List.getElem_of_mem hy
  obtain ⟨z, h1, h2⟩ := hd.past (r, k) (by simp) t (by show t < k; omega)
  rw [List.getElem?_eq_getElem ht] at h1
  cases h1
  refine h.all _ _ h2 fun s hs he => ?_
  have := hd.on s hs
  rw [he, h2] at this
  cases this
theorem told_new (h : Told e (S ++ [(r, k)]) D) : ∀ g, (r, g) ∉ D := fun g hg => (h.known r g hg).2 (r, k) (by simp) rfl
end CyCs
theorem nodup_len {n : Nat} : ∀ {L : List Nat}, L.Nodup → (∀ x ∈ L, x < n) → L.length ≤ n := by
  induction n with
  | zero =>
    intro L _ h
    cases L with
    | nil => exact Nat.le_refl _
    | cons a L => exact absurd (h a List.mem_cons_self) (Nat.not_lt_zero _)
  | succ n ih =>
    intro L hn h
    have h1 := ih (L := L.erase n) (hn.sublist List.erase_sublist) fun x hx => by
      have h2 := h x (List.mem_of_mem_erase hx)
      have h3 : x ≠ n := fun e => by
        subst e
        exact (List.Nodup.not_mem_erase hn) hx
      omega
    have h2 : L.length ≤ (L.erase n).length + 1 := by rw [List.length_erase]; split <;> omega
    omega
def open_ (n : Nat) (e : Nat → Option Bool) : Nat := (List.range n).countP fun x => (e x).isNone
theorem open_upe {n : Nat} {e : Nat → Option Bool} {x : Nat} (hx : x < n) (hn : e x = none) (b : Bool) : open_ n (upe e x b) + 1 = open_ n e := by
  unfold open_
  induction n with
  | zero => omega
  | succ n ih =>
    rw [List.range_succ, List.countP_append, List.countP_append, List.countP_singleton, List.countP_singleton]
    by_cases h : x = n
    · subst h
      have e1 : (List.range x).countP (fun y => (upe e x b y).isNone) = (List.range x).countP fun y => (e y).isNone := by
        refine List.countP_congr fun y hy => ?_
        have := List.mem_range.1 hy
        unfold upe
        rw [if_neg (by omega)]
      rw [e1]
      simp [upe, hn]
    · have e1 := ih (by omega)
      have e2 : (upe e x b n).isNone = (e n).isNone := by unfold upe; rw [if_neg (by omega)]
      rw [e2]
      omega
theorem open_known {n : Nat} {e : Nat → Option Bool} {x : Nat} (hn : e x ≠ none) (b : Bool) : open_ n (upe e x b) = open_ n e := by
  unfold open_
  refine List.countP_congr fun y _ => ?_
  unfold upe
  split
  · rename_i h
    subst h
    cases he : e y with
    | none => exact absurd he hn
    | some _ => simp
  · rfl
theorem payD_le {ch : Nat → List Nat} (h8 : ∀ x, (ch x).length ≤ 8) (D : List (Nat × Bool)) : payD ch D ≤ 17 * D.length := by
  induction D with
  | nil => simp [payD]
  | cons x D ih =>
    have := h8 x.1
    have e : payD ch (x :: D) = (2 * (ch x.1).length + 1) + payD ch D := by simp [payD]
    rw [e, List.length_cons]
    omega
theorem payS_le {ch : Nat → List Nat} (h8 : ∀ x, (ch x).length ≤ 8) (S : List (Nat × Nat)) (hS : ∀ s ∈ S, s.2 ≤ (ch s.1).length) : payS S ≤ 17 * S.length := by
  induction S with
  | nil => simp [payS]
  | cons x S ih =>
    have h1 := h8 x.1
    have h2 := hS x List.mem_cons_self
    have h3 := ih fun s hs => hS s (List.mem_cons_of_mem _ hs)
    have e : payS (x :: S) = (2 * x.2 + 1) + payS S := by simp [payS]
    rw [e, List.length_cons]
    omega
theorem chR_le {n : Nat} {G : List Gn} {kn : Kn} {ro : Nat → Nat} (hP : ∀ p ∈ G, p.2.2.2.length ≤ 8 ∧ ∀ u ∈ p.2.2.2, u < n) (x : Nat) : (chR G kn ro x).length ≤ 8 := by
  unfold chR
  rw [List.length_map]
  unfold partsO
  cases h : (kn x).1 with
  | none => simp
  | some k =>
    cases hg : G[k]? with
    | none => simp [hg]
    | some p => simpa [hg] using (hP p (List.mem_of_getElem? hg)).1
theorem chR_lt {n : Nat} {G : List Gn} {kn : Kn} {ro : Nat → Nat} (hP : ∀ p ∈ G, p.2.2.2.length ≤ 8 ∧ ∀ u ∈ p.2.2.2, u < n) (hro : ∀ i, i < n → ro i < n) (x y : Nat) (hy : y ∈ chR G kn ro x) : y < n := by
  unfold chR at hy
  obtain ⟨u, hu, rfl⟩ := List.mem_map.1 hy
  refine hro u ?_
  unfold partsO at hu
  cases h : (kn x).1 with
  | none => rw [h] at hu; simp at hu
  | some k =>
    rw [h] at hu
    cases hg : G[k]? with
    | none => simp [hg] at hu
    | some p => simp [hg] at hu; exact (hP p (List.mem_of_getElem? hg)).2 u hu
structure FrI (O : Nat → Prop) (cb : Nat) (A : Adr) (st : Int) (n : Nat) (G : List Gn) (kn : Kn) (nx col ro : Nat → Nat) (wb mb : Nat) (T : Nat → Prop) (J : List (Nat × Bool) → Bool → World → Prop) (w0 : World) (f0 : Int) (sp0 : Int) (m0 : Nat) (D0 : List (Nat × Bool))
    (S : List Fr) (e : Nat → Option Bool) (D : List (Nat × Bool)) (todo : Value) (wr : World) : Prop where
  cl : ∃ f : Nat, ClM O wr cb A st false n G kn nx col ro (f0 + f) ∧ f + 168 * D0.length ≤ 168 * (D.length + S.length)
  wk : ∃ (q m : Nat), WkM wr wb mb e (sp0 + q) m ∧ q + payD (chR G kn ro) D0 ≤ 1 + payD (chR G kn ro) D + payS (S.map fun x => (x.1, x.2.1)) ∧ m + 2 * D0.length ≤ m0 + 2 * D.length + S.length
  dfs : Dfs (chR G kn ro) e (S.map fun x => (x.1, x.2.1))
  told : Told e (S.map fun x => (x.1, x.2.1)) D
  more : ∃ X, D = D0 ++ X
  nd : (D.map (·.1)).Nodup
  dlt : ∀ x b, (x, b) ∈ D → x < n
  lt : ∀ s ∈ S, s.1 < n
  row : wr.ownsRow w0.heap.size 81 4 todo S.length (frs cb S)
  rows : ∀ s ∈ S, RdD (fun b => w0.heap.size ≤ b ∧ todo.ownBlock ≠ some b) wr 2 (slv s.2.2) (chR G kn ro s.1).length (ptC cb (chR G kn ro s.1))
  tl : J D true wr
  els : Else (fun k => A.S k ∨ k = wb ∨ k = mb ∨ T k) w0 wr
end Go.Proofs.YtojgiienohpaiaaGreat
