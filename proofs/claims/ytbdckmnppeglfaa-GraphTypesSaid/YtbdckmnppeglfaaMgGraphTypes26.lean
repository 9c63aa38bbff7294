/- Texts of one proof, one behind the other. -/
import Derived.Test.YtbdckmnppeglfaaMgGraphTypes6
import Derived.Deep.RegionWith
import Derived.Test.YtbdckmnppeglfaaMgGraphTypes25
import Derived.Test.YtbdckmnppeglfaaMgGraphTypes18
/- The guard of the laws: is there room for a type? -/
namespace Go.Proofs.Ytbdckmnppeglfaa
open Go.RowKit

/-- What room gives. -/
def RoomIs (n deep : Nat) (f : Fo) (r : Int) : Prop :=
  -1 ≤ r ∧ r ≤ n ∧ (0 ≤ r → 1 + (f.size : Int) + r = n ∧ 1 + f.depth ≤ deep) ∧ (1 + f.size ≤ n → 1 + f.depth ≤ deep → r = (n : Int) - (1 + f.size))
theorem RoomIs.zero (n : Nat) (f : Fo) : RoomIs n 0 f (-1) := ⟨by omega, by omega, by omega, by omega⟩
theorem RoomIs.none (deep : Nat) (f : Fo) : RoomIs 0 deep f (-1) := ⟨by omega, by omega, by omega, by omega⟩
set_option maxHeartbeats 1000000 in
set_option maxRecDepth 100000 in
theorem room_any (deep : Nat) : ∀ (f : Fo) (k n0 : Int) (v : Value) (n : Nat) (w : World), deep ≤ 40 → n ≤ 300 → TyV w.heap.size w f v →
    Calls Try.prog 63 #[tyVal k n0 v, .int .i64 n, .int .i64 deep] w fun e w' => ∃ r, e = .returned (.int .i64 r) ∧ Below w.heap.size w w' ∧ RoomIs n deep f r := by
  induction deep with
  | zero =>
    intro f k n0 v n w hd hn h
    obtain ⟨A, c, rfl⟩ := h.slice
    clear h
    unfold tyVal
    go_enter Try.func63, Try.ntmps63
    go_wp2_with fail
    go_ret
    exact ⟨_, rfl, (Below.refl _ _).alloc (Nat.le_refl _) _, RoomIs.zero n f⟩
  | succ deep ih =>
    intro f k n0 v n w hd hn h
    obtain ⟨A, c, rfl⟩ := h.slice
    have H := Lib.hid h
    have IH := Lib.hid ih
    have hml : f.len ≤ maxLen := by
      rcases Nat.eq_zero_or_pos f.len with h0 | h0
      · omega
      · obtain ⟨_, _, cap, _, h1, h2, _⟩ := h.form h0
        exact Nat.le_trans h1 h2
    replace hml : f.len ≤ 9223372036854775807 := by unfold maxLen at hml; omega
    clear h ih
    rw [show (((deep + 1 : Nat)) : Int) = (deep : Int) + 1 from by omega]
    unfold tyVal
    go_enter Try.func63, Try.ntmps63
    have HB0 := Lib.hid (show ∀ (cs : Array Value) (t : TypeId), Below w.heap.size w (w.alloc (Obj.cells cs t)) from fun cs t => (Below.refl _ w).alloc (Nat.le_refl _) _)
    have f1 : ((deep : Int) + 1 == 0) = false := beq_eq_false_iff_ne.2 (by omega)
    go_wp2_with fail
    go_loopw [1, 7] (fun t1 t7 wr => ∃ (j : Nat) (r : Int), j ≤ f.len ∧ t7 = .int .i64 j ∧ t1 = .int .i64 r ∧ RoomIs n (deep + 1) (f.take j) r ∧ wr.cell? ⟨w.heap.size, 2, none⟩ = some (.slice A f.len c) ∧ Below w.heap.size w wr ∧ w.heap.size + 1 ≤ wr.heap.size) (fun _ t _ => f.len - (intOf t).toNat)
    case atStart =>
      refine ⟨0, (n : Int) - 1, Nat.zero_le _, rfl, by go_num, ?_, by go_simp, HB0.out _ _, by simp⟩
      unfold RoomIs
      simp only [Fo.take_zero, Fo.size, Fo.depth]
      omega
    case round =>
      obtain ⟨j, r, hj, rfl, rfl, hr, e2, hb, hz⟩ := hrel
      have HB := Lib.hid hb
      have HR := Lib.hid hr
      have hr0 : -1 ≤ r ∧ r ≤ n := ⟨hr.1, hr.2.1⟩
      clear hb hr
      by_cases hjl : j < f.len
      · by_cases hr1 : 0 ≤ r
        · obtain ⟨rn, rfl⟩ := Int.eq_ofNat_of_zero_le hr1
          obtain ⟨b, off, cap, hv, _, _, hlt, hC⟩ := H.out.form (by omega)
          injection hv with hA _ hcc
          subst hA; subst hcc
          obtain ⟨d0, d1, d2, hch⟩ := tyC_at hC j hjl
          have c0 := (HB.out.cell (p := ⟨b, off + j * 3, none⟩) hlt).trans d0
          have c1 := (HB.out.cell (p := ⟨b, off + j * 3 + 1, none⟩) hlt).trans d1
          have c2 := (HB.out.cell (p := ⟨b, off + j * 3 + 2, none⟩) hlt).trans d2
          have hch' : TyV wr.heap.size wr (f.at_ j).2.2.2 (slv (f.at_ j).2.2.1) := hch.keep HB.out.size fun b off hb' => HB.out.cell (p := ⟨b, off, none⟩) hb'
          have HST := Lib.hid (f.size_take_step j hjl)
          have HDT := Lib.hid (f.depth_take_step j hjl)
          have hrec := IH.out (f.at_ j).2.2.2 (f.at_ j).1 (f.at_ j).2.1 (slv (f.at_ j).2.2.1) rn wr (by omega) (by omega) hch'
          clear d0 d1 d2 hC hch hch'
          unfold tyVal at hrec
          generalize f.at_ j = p at *
          obtain ⟨pk, pn, pv, pf⟩ := p
          dsimp only [slv] at hrec c0 c1 c2
          have HREC := Lib.hid hrec
          clear hrec
          have f2 : decide ((0 : Int) ≤ rn) = true := decide_eq_true hr1
          go_wp2_with fail
          refine HREC.out.mono ?_
          rintro e w2 ⟨r2, rfl, hb3, hr2⟩
          have e2' := (hb3.cell (p := ⟨w.heap.size, 2, none⟩) (by show w.heap.size < wr.heap.size; omega)).trans e2
          have HB3 := Lib.hid hb3
          have HR2 := Lib.hid hr2
          clear hb3 hr2
          go_wp2_with fail
          go_roundw
          case rel =>
            refine ⟨j + 1, r2, by omega, by go_num, rfl, ?_, e2', HB.out.trans (HB3.out.mono (by omega)), Nat.le_trans hz HB3.out.size⟩
            have h1 := HR.out
            have h2 := HR2.out
            have h3 := HST.out
            have h4 := HDT.out
            unfold RoomIs at h1 h2 ⊢
            omega
          case measure => simp [intOf]; omega
        · have f2 : decide ((0 : Int) ≤ r) = false := decide_eq_false hr1
          have HTL := Lib.hid (f.size_take_le j)
          have HDL := Lib.hid (f.depth_take_le j)
          go_wp2_with fail
          go_ret
          refine ⟨_, rfl, HB.out, ?_⟩
          have h1 := HR.out
          have h3 := HTL.out
          have h4 := HDL.out
          unfold RoomIs at h1 ⊢
          omega
      · obtain rfl : j = f.len := by omega
        have HT : Hid (f.take f.len = f) := Lib.hid f.take_len
        go_wp2_with fail
        go_ret
        refine ⟨_, rfl, HB.out, ?_⟩
        have h1 := HR.out
        rwa [HT.out] at h1
set_option maxHeartbeats 1000000 in
/-- Is there more than is asked of? -/
theorem great_any (f : Fo) (k n0 : Int) (v : Value) (w : World) (h : TyV w.heap.size w f v) :
    Calls Try.prog 27 #[tyVal k n0 v] w fun e w' => e = .returned (.bool (!(decide (1 + f.size ≤ 300) && decide (1 + f.depth ≤ 40)))) ∧ Below w.heap.size w w' := by
  obtain ⟨A, c, rfl⟩ := h.slice
  obtain ⟨w1, hw1⟩ : ∃ w1, w.alloc (Obj.cells #[.int .i64 k, .int .i64 n0, .slice A f.len c] 38) = w1 := ⟨_, rfl⟩
  have hb1 : Below w.heap.size w w1 := by rw [← hw1]; exact (Below.refl _ _).alloc (Nat.le_refl _) _
  have hs1 := hb1.size
  have hc := room_any 40 f k n0 (.slice A f.len c) 300 w1 (by omega) (by omega) (h.keep hs1 fun b off hb' => hb1.cell (p := ⟨b, off, none⟩) hb')
  rw [← hw1] at hc
  have HC := Lib.hid hc
  have HB1 := Lib.hid hb1
  have HW1 := Lib.hid hw1
  clear h hc hs1 hb1 hw1
  unfold tyVal at HC ⊢
  go_enter Try.func27, Try.ntmps27
  go_wp2_with fail
  refine HC.out.mono ?_
  rintro e w' ⟨r, rfl, hb, hr⟩
  have hd : decide (r < 0) = !(decide (1 + f.size ≤ 300) && decide (1 + f.depth ≤ 40)) := by
    unfold RoomIs at hr
    by_cases h1 : r < 0
    · have : ¬ (1 + f.size ≤ 300 ∧ 1 + f.depth ≤ 40) := by omega
      rw [decide_eq_true h1]
      simp only [← Bool.decide_and, decide_eq_false this]
      rfl
    · have : 1 + f.size ≤ 300 ∧ 1 + f.depth ≤ 40 := by omega
      rw [decide_eq_false h1]
      simp only [← Bool.decide_and, decide_eq_true this]
      rfl
  have HD := Lib.hid hd
  rw [HW1.out] at hb
  have HB := Lib.hid (show Below w.heap.size w w' from HB1.out.trans (hb.mono HB1.out.size))
  clear hd hr hb
  go_wp2_with fail
  go_ret
  exact ⟨ret_bool HD.out, HB.out⟩
end Go.Proofs.Ytbdckmnppeglfaa
/- The answer's graph in memory: what is built stays. -/
namespace Go.Proofs.Ytbdckmnppeglfaa
open Go.RowKit Go.Shelf
set_option maxRecDepth 100000
theorem radd_app (f g : Fo) : ∀ R, radd R (f.app g) = ((radd (radd R f).1 g).1, (radd R f).2 ++ (radd (radd R f).1 g).2) := by
  induction f with
  | nil => intro R; simp [Fo.app, radd_nil]
  | cons k n u ps r _ ih =>
    intro R
    simp only [Fo.app, radd_cons, ih]
    rfl
theorem radd_step (F : Fo) (j : Nat) (hj : j < F.len) (R : List Rn) : radd R (F.take (j + 1)) =
    ((radd1 (radd R (F.take j)).1 (F.at_ j).1 (F.at_ j).2.1 (F.at_ j).2.2.1 (F.at_ j).2.2.2).1, (radd R (F.take j)).2 ++ [(radd1 (radd R (F.take j)).1 (F.at_ j).1 (F.at_ j).2.1 (F.at_ j).2.2.1 (F.at_ j).2.2.2).2]) := by
  rw [F.take_step j hj, radd_app, radd_cons, radd_nil]
theorem rnode_len (R : List Rn) (k n : Int) (u : Sl) (ps : Fo) (P : List Nat) : (rnode R k n u ps P).1.length ≤ R.length + 1 := by
  unfold rnode
  split <;> simp
theorem radd_len (F : Fo) : ∀ R, (radd R F).1.length ≤ R.length + F.size ∧ (radd R F).2.length = F.len := by
  induction F with
  | nil => intro R; simp [radd_nil, Fo.size, Fo.len]
  | cons k n u ps r i1 i2 =>
    intro R
    have h1 := i1 R
    have h3 := rnode_len (radd R ps).1 k n u ps (radd R ps).2
    rw [← radd1_eq] at h3
    have h2 := i2 (radd1 R k n u ps).1
    rw [radd_cons]
    simp only [List.length_cons, Fo.size, Fo.len]
    omega
/-- A node of the answer's as it lies: its parts' slice, too. -/
abbrev Rm := Rn × Sl
def rmC (x : Rm) : List Value := [.int .i64 x.1.1, .int .i64 x.1.2.1, slv x.1.2.2.1, slv x.2]
theorem rmC_len (M : List Rm) : (M.flatMap rmC).length = M.length * 4 := by
  induction M with
  | nil => rfl
  | cons x M ih => simp only [List.flatMap_cons, List.length_append, ih, List.length_cons, rmC, List.length_nil]; omega
theorem rmC_at (M : List Rm) (i : Nat) (hi : i < M.length) : (M.flatMap rmC)[i * 4]? = some (.int .i64 M[i].1.1) ∧ (M.flatMap rmC)[i * 4 + 1]? = some (.int .i64 M[i].1.2.1) ∧ (M.flatMap rmC)[i * 4 + 2]? = some (slv M[i].1.2.2.1) ∧ (M.flatMap rmC)[i * 4 + 3]? = some (slv M[i].2) := by
  induction M generalizing i with
  | nil => simp at hi
  | cons x M ih =>
    cases i with
    | zero => simp [rmC]
    | succ i =>
      have := ih i (by simpa using hi)
      have e : ∀ j, ((x :: M).flatMap rmC)[(i + 1) * 4 + j]? = (M.flatMap rmC)[i * 4 + j]? := fun j => by
        rw [List.flatMap_cons, List.getElem?_append_right (by simp [rmC]; omega)]
        congr 1
        simp [rmC]; omega
      have e0 := e 0
      simp only [Nat.add_zero] at e0
      rw [e0, e 1, e 2, e 3]
      exact this
theorem rmC_one (M : List Rm) : ∀ u ∈ M.flatMap rmC, u.oneCell' = true := by
  intro u hu
  obtain ⟨x, _, hx⟩ := List.mem_flatMap.1 hu
  simp only [rmC, List.mem_cons, List.not_mem_nil, or_false] at hx
  rcases hx with rfl | rfl | rfl | rfl <;> rfl
/-- It reads so, from a block of which D holds. -/
def RdD (D : Nat → Prop) (w : World) (size : Nat) (v : Value) (n : Nat) (xs : List Value) : Prop :=
  Rd w size v n xs ∧ (0 < n → ∀ b off cap, v = .slice (some ⟨b, off, none⟩) n cap → D b)
theorem RdD.to {D : Nat → Prop} {w w' : World} {size : Nat} {v : Value} {n : Nat} {xs : List Value} (h : RdD D w size v n xs) (hs : w.heap.size ≤ w'.heap.size) (hk : ∀ b, D b → b < w.heap.size → w'.heap[b]? = w.heap[b]?) : RdD D w' size v n xs := by
  refine ⟨⟨h.1.1, ?_⟩, h.2⟩
  rcases Nat.eq_zero_or_pos n with h0 | h0
  · rcases h.1.2 with h1 | ⟨b, off, cap, hv, hnc, hcm, hb, hc⟩
    · exact .inl h1
    · subst h0
      exact .inl ⟨rfl, _, _, hv⟩
  · rcases h.1.2 with ⟨h1, _⟩ | ⟨b, off, cap, hv, hnc, hcm, hb, hc⟩
    · omega
    · exact .inr ⟨b, off, cap, hv, hnc, hcm, by omega, fun j u hu => (World.cell?_of_block (hk b (h.2 h0 b off cap hv) hb)).trans (hc j u hu)⟩
theorem RdD.imp {D D' : Nat → Prop} {w : World} {size : Nat} {v : Value} {n : Nat} {xs : List Value} (h : RdD D w size v n xs) (hD : ∀ b, b < w.heap.size → D b → D' b) : RdD D' w size v n xs :=
  ⟨h.1, fun h0 b off cap hv => by
    rcases h.1.2 with ⟨h1, _⟩ | ⟨b', off', cap', hv', _, _, hb, _⟩
    · omega
    · rw [hv'] at hv
      injection hv with hv
      injection hv with hv
      injection hv with hv
      subst hv
      exact hD _ hb (h.2 h0 b' off' cap' hv')⟩
theorem RdD.of_own {D : Nat → Prop} {w : World} {base : Nat} {e : TypeId} {size : Nat} {v : Value} {n : Nat} {xs : List Value} (h : w.ownsRow base e size v n xs) (hD : ∀ b, base ≤ b → D b) : RdD D w size v n xs :=
  ⟨Rd.of_own h, fun _ b off cap hv => hD b (h.lt b (by rw [hv]; rfl)).1⟩
structure RgM (D : Nat → Prop) (BT : Nat) (w : World) (v : Value) (M : List Rm) : Prop where
  row : RdD D w 4 v M.length (M.flatMap rmC)
  nodes : ∀ x ∈ M, TyV BT w x.1.2.2.2.1 (slv x.1.2.2.1) ∧ RdD D w 1 (slv x.2) x.1.2.2.2.2.length (nums x.1.2.2.2.2)
theorem RgM.to {D : Nat → Prop} {BT : Nat} {w w' : World} {v : Value} {M : List Rm} (h : RgM D BT w v M) (hB : Below BT w w') (hs : w.heap.size ≤ w'.heap.size) (hk : ∀ b, D b → b < w.heap.size → w'.heap[b]? = w.heap[b]?) : RgM D BT w' v M :=
  ⟨h.row.to hs hk, fun x hx => ⟨(h.nodes x hx).1.below hB, (h.nodes x hx).2.to hs hk⟩⟩
theorem RgM.below {D : Nat → Prop} {BT : Nat} {w w' : World} {v : Value} {M : List Rm} (h : RgM D BT w v M) (hT : BT ≤ w.heap.size) (hb : Below w.heap.size w w') : RgM D BT w' v M :=
  h.to (hb.mono hT) hb.size fun b _ hlt => hb.block b hlt
theorem RgM.imp {D D' : Nat → Prop} {BT : Nat} {w : World} {v : Value} {M : List Rm} (h : RgM D BT w v M) (hD : ∀ b, b < w.heap.size → D b → D' b) : RgM D' BT w v M :=
  ⟨h.row.imp hD, fun x hx => ⟨(h.nodes x hx).1, (h.nodes x hx).2.imp hD⟩⟩
/-- A variable's node. -/
def ivar (G : List Gn) (n : Int) : Int := match gvar G n with
  | some i => i
  | none => -1
abbrev gM (M : List Rm) : List Gn := M.map fun x => rG x.1
theorem gvar_drop (G : List Gn) (n : Int) (j : Nat) (hj : j < G.length) (h : gvar G n = (gvar (G.drop j) n).map (· + j)) (hx : ¬ (G[j].1 = 1 ∧ G[j].2.1 = n)) : gvar G n = (gvar (G.drop (j + 1)) n).map (· + (j + 1)) := by
  rw [h, List.drop_eq_getElem_cons hj, gvar, if_neg hx]
  cases gvar (G.drop (j + 1)) n with
  | none => rfl
  | some i => simp only [Option.map_some]; congr 1; omega
theorem ivar_here (G : List Gn) (n : Int) (j : Nat) (hj : j < G.length) (h : gvar G n = (gvar (G.drop j) n).map (· + j)) (hx : G[j].1 = 1 ∧ G[j].2.1 = n) : ivar G n = j := by
  rw [ivar, h, List.drop_eq_getElem_cons hj, gvar, if_pos hx]
  simp
theorem ivar_none (G : List Gn) (n : Int) (h : gvar G n = (gvar (G.drop G.length) n).map (· + G.length)) : ivar G n = -1 := by
  rw [ivar, h, List.drop_length]
  rfl
set_option maxHeartbeats 1000000 in
theorem rvar_graph (w : World) (v : Value) (M : List Rm) (hM : Rd w 4 v M.length (M.flatMap rmC)) (hl : M.length ≤ 1000000) (n : Int) :
    Calls Try.prog 21 #[v, .int .i64 n] w fun e w' => e = .returned (.int .i64 (ivar (gM M) n)) ∧ Below w.heap.size w w' := by
  obtain ⟨A, c, rfl⟩ := hM.form
  obtain ⟨q, hq⟩ : ∃ q, M.length = q := ⟨_, rfl⟩
  rw [hq] at hl ⊢
  have hgl : (gM M).length = q := by simp [gM, hq]
  have HM := Lib.hid hM
  have HQ := Lib.hid (And.intro hq hgl)
  obtain ⟨z, hz⟩ : ∃ z, ivar (gM M) n = z := ⟨_, rfl⟩
  rw [hz]
  have HZ := Lib.hid hz
  clear hM hq hz hgl
  go_enter Try.func21, Try.ntmps21
  go_wp2_with fail
  go_loopw [5] (fun t wr => ∃ j : Nat, j ≤ q ∧ t = .int .i64 j ∧ gvar (gM M) n = (gvar ((gM M).drop j) n).map (· + j) ∧ Below w.heap.size w wr) (fun t _ => q - (intOf t).toNat)
  case atStart => exact ⟨0, Nat.zero_le _, rfl, by simp, Below.refl _ _⟩
  case round =>
    obtain ⟨j, hj, rfl, hja, hb⟩ := hrel
    have HBW := Lib.hid hb
    have HJA := Lib.hid hja
    clear hja hb
    by_cases hjl : j < q
    · have hjM : j < M.length := by rw [HQ.out.1]; exact hjl
      have hjG : j < (gM M).length := by rw [HQ.out.2]; exact hjl
      obtain ⟨b1, o1, cap1, hv1, _, _, hlt1, hc1⟩ := HM.out.2.resolve_left (by rintro ⟨h, _⟩; omega)
      injection hv1 with hA1 _ hcc1
      subst hA1; subst hcc1
      obtain ⟨p0, p1, -, -⟩ := rmC_at M j hjM
      have hgj : (gM M)[j] = rG M[j].1 := by simp [gM]
      obtain ⟨x, hx⟩ : ∃ x, M[j].1.1 = x := ⟨_, rfl⟩
      obtain ⟨y, hy⟩ : ∃ y, M[j].1.2.1 = y := ⟨_, rfl⟩
      rw [hx] at p0
      rw [hy] at p1
      have c0 : wr.cell? ⟨b1, o1 + j * 4, none⟩ = some (.int .i64 x) := (HBW.out.cell (p := ⟨b1, o1 + j * 4, none⟩) hlt1).trans (hc1 _ _ p0)
      have c1 : wr.cell? ⟨b1, o1 + j * 4 + 1, none⟩ = some (.int .i64 y) := (HBW.out.cell (p := ⟨b1, o1 + j * 4 + 1, none⟩) hlt1).trans (hc1 (j * 4 + 1) _ p1)
      have hG1 : (gM M)[j].1 = x := by rw [hgj]; exact hx
      have hG2 : (gM M)[j].2.1 = y := by rw [hgj]; exact hy
      by_cases hxy : x = 1 ∧ y = n
      · have HI := Lib.hid (ivar_here (gM M) n j hjG HJA.out (by rw [hG1, hG2]; exact hxy))
        obtain ⟨rfl, rfl⟩ := hxy
        clear hx hy hc1 hgj p0 p1 hG1 hG2 hjM hjG
        go_wp2_with fail
        go_ret
        refine ⟨?_, HBW.out⟩
        rw [← HZ.out, HI.out]
        rfl
      · have HI := Lib.hid (gvar_drop (gM M) n j hjG HJA.out (by rw [hG1, hG2]; exact hxy))
        have f1 : (x == 1 && y == n) = false := by simpa using hxy
        clear hx hy hc1 hgj p0 p1 hG1 hG2 hjM hjG
        by_cases hx1 : x = 1
        · subst hx1
          have f2 : (y == n) = false := by simpa using hxy
          clear f1 hxy
          go_wp2_with fail
          go_roundw
          case rel => exact ⟨j + 1, by omega, by go_num, HI.out, HBW.out⟩
          case measure => simp [intOf]; omega
        · have f2 : (x == 1) = false := by simpa using hx1
          clear f1 hxy
          go_wp2_with fail
          go_roundw
          case rel => exact ⟨j + 1, by omega, by go_num, HI.out, HBW.out⟩
          case measure => simp [intOf]; omega
    · obtain rfl : j = q := by omega
      have HI := Lib.hid (ivar_none (gM M) n (by rw [HQ.out.2]; exact HJA.out))
      go_wp2_with fail
      go_ret
      exact ⟨by rw [← HZ.out, HI.out]; rfl, HBW.out⟩
end Go.Proofs.Ytbdckmnppeglfaa
