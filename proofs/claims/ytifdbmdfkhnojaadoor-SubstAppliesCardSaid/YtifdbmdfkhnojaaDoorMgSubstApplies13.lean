/- Texts of one proof, one behind the other. -/
import Derived.Test.YtifdbmdfkhnojaaDoorMgSubstApplies12
import Derived.Test.YtifdbmdfkhnojaaDoorMgSubstApplies8
import Derived.Test.YtifdbmdfkhnojaaDoorMgSubstApplies1
/- Binds in memory; an argument that is a slice of binds, opened. -/
namespace Go.Proofs.YtifdbmdfkhnojaaDoor
open Go.RowKit Go.ChangeShapes Go.WideShapes Go.ChangeAt Go.Deep
/-- A bind's cells. -/
def bdC (b : Bnd) : List Value := [.int .i64 b.1, .int .i64 b.2.1, .int .i64 b.2.2.1, slv b.2.2.2.1]
def bdV (b : Bnd) : Value := .agg #[.int .i64 b.1, .int .i64 b.2.1, .int .i64 b.2.2.1, slv b.2.2.2.1]
/-- Its type's value. -/
def bdT (b : Bnd) : Value := tyVal b.2.1 b.2.2.1 (slv b.2.2.2.1)
/-- A slice value that reads as these binds, below block B. -/
def BdV (B : Nat) (w : World) (l : List Bnd) (v : Value) : Prop :=
  ∃ A c, v = .slice A l.length c ∧ (0 < l.length → ∃ b off, A = some ⟨b, off, none⟩ ∧ b < B ∧ l.length ≤ c ∧ c ≤ maxLen ∧
    ∀ i (h : i < l.length), w.cell? ⟨b, off + i * 4, none⟩ = some (.int .i64 l[i].1) ∧ w.cell? ⟨b, off + i * 4 + 1, none⟩ = some (.int .i64 l[i].2.1) ∧ w.cell? ⟨b, off + i * 4 + 2, none⟩ = some (.int .i64 l[i].2.2.1) ∧ w.cell? ⟨b, off + i * 4 + 3, none⟩ = some (slv l[i].2.2.2.1)) ∧
    ∀ x ∈ l, TyV B w x.2.2.2.2 (slv x.2.2.2.1)
/-- Each number is one that an int may be. -/
def BdW (l : List Bnd) : Prop := ∀ x ∈ l, (Lit.int .i64 x.1).wf = true ∧ (Lit.int .i64 x.2.2.1).wf = true ∧ x.2.2.2.2.wf
theorem BdV.keep {B B' : Nat} {w w' : World} {l : List Bnd} {v : Value} (h : BdV B w l v) (hB : B ≤ B') (hk : ∀ b off, b < B → w'.cell? ⟨b, off, none⟩ = w.cell? ⟨b, off, none⟩) : BdV B' w' l v := by
  obtain ⟨A, c, hv, h1, h2⟩ := h
  refine ⟨A, c, hv, fun hn => ?_, fun x hx => (h2 x hx).keep hB hk⟩
  obtain ⟨b, off, hA, hb, hc, hm, hat⟩ := h1 hn
  exact ⟨b, off, hA, by omega, hc, hm, fun i hi => ⟨(hk _ _ hb).trans (hat i hi).1, (hk _ _ hb).trans (hat i hi).2.1, (hk _ _ hb).trans (hat i hi).2.2.1, (hk _ _ hb).trans (hat i hi).2.2.2⟩⟩
theorem BdV.below {B : Nat} {w w' : World} {l : List Bnd} {v : Value} (h : BdV B w l v) (hb : Below B w w') : BdV B w' l v := h.keep (Nat.le_refl _) fun b off hlt => hb.cell (p := ⟨b, off, none⟩) hlt
/-- .. told of a later world's own size. -/
theorem BdV.later {w w' : World} {l : List Bnd} {v : Value} (h : BdV w.heap.size w l v) (hb : Below w.heap.size w w') : BdV w'.heap.size w' l v := h.keep hb.size fun b off hlt => hb.cell (p := ⟨b, off, none⟩) hlt
theorem TyV.later {w w' : World} {f : Fo} {v : Value} (h : TyV w.heap.size w f v) (hb : Below w.heap.size w w') : TyV w'.heap.size w' f v := h.keep hb.size fun b off hlt => hb.cell (p := ⟨b, off, none⟩) hlt
theorem BdV.form {B : Nat} {w : World} {l : List Bnd} {v : Value} (h : BdV B w l v) : ∃ A c, v = .slice A l.length c := by obtain ⟨A, c, hv, _⟩ := h; exact ⟨A, c, hv⟩
/-- A place's cells. -/
theorem BdV.at {B : Nat} {w : World} {l : List Bnd} {A : Option Addr} {n c : Nat} (h : BdV B w l (.slice A n c)) (j : Nat) (hj : j < l.length) : ∃ b off, A = some ⟨b, off, none⟩ ∧ b < B ∧
    w.cell? ⟨b, off + j * 4, none⟩ = some (.int .i64 l[j].1) ∧ w.cell? ⟨b, off + j * 4 + 1, none⟩ = some (.int .i64 l[j].2.1) ∧ w.cell? ⟨b, off + j * 4 + 2, none⟩ = some (.int .i64 l[j].2.2.1) ∧ w.cell? ⟨b, off + j * 4 + 3, none⟩ = some (slv l[j].2.2.2.1) := by
  obtain ⟨A', c', hv, h1, _⟩ := h
  injection hv with e1 e2 e3
  obtain ⟨b, off, hA, hb, _, _, hat⟩ := h1 (by omega)
  exact ⟨b, off, by rw [e1, hA], hb, hat j hj⟩
set_option maxRecDepth 100000 in
theorem binds_read {H : Type} {enc : TypeId × Value → H} {W : World} (fuel : Nat) (v : Value) (x : DataW H × List MemPlace) (h : DataW.trod enc Tryd.prog W 0 (fun _ => true) true fuel 22 [v] = some x) : ∃ (l : List Bnd), BdV W.heap.size W l v ∧ BdW l := by
  rcases DataW.trod_slice Tryd.underlying22 h with ⟨hcs, _⟩ | ⟨a, len, cap, elems, rest, n, hfu, hcs, _, _, hl, hm, hlen, hel, _, _⟩
  · simp at hcs
    subst hcs
    exact ⟨[], ⟨none, 0, rfl, fun h => by simp at h, fun x hx => by cases hx⟩, fun x hx => by cases hx⟩
  · simp at hcs
    subst hcs
    have hC : Tryd.prog.cellsOf 49 = 4 := by kernel_rfl
    have hT : Tryd.prog.cellsOf 25 = 3 := by kernel_rfl
    have hI : Tryd.prog.cellsOf 3 = 1 := by kernel_rfl
    have hS : Tryd.prog.cellsOf 23 = 1 := by kernel_rfl
    rw [hC] at hel
    have key : ∀ i, i < len → ∃ t : Bnd, W.cell? (a.add (i * 4)) = some (.int .i64 t.1) ∧ W.cell? ((a.add (i * 4)).add 1) = some (.int .i64 t.2.1) ∧ W.cell? ((a.add (i * 4)).add 2) = some (.int .i64 t.2.2.1) ∧ W.cell? ((a.add (i * 4)).add 3) = some (slv t.2.2.2.1) ∧ TyV W.heap.size W t.2.2.2.2 (slv t.2.2.2.1) ∧ (Lit.int .i64 t.1).wf = true ∧ (Lit.int .i64 t.2.2.1).wf = true ∧ t.2.2.2.2.wf := by
      intro i hil
      have he := hel i hil
      rw [List.getElem?_eq_getElem (by omega)] at he
      obtain ⟨cs', hc, ht'⟩ := Option.bind_eq_some_iff.1 he
      obtain ⟨ys, n', hn', _, hlen2, hyl, hfld⟩ := DataW.trod_struct Tryd.underlying49 ht'
      rw [hC] at hlen2
      obtain ⟨_, hcl, hat⟩ := World.cells?_some hc
      have q0 : DataW.trod enc Tryd.prog W 0 (fun _ => true) true n' 3 ((cs'.drop 0).take (Tryd.prog.cellsOf 3)) = ys[0]? := hfld 0 _ rfl
      have q1 : DataW.trod enc Tryd.prog W 0 (fun _ => true) true n' 25 ((cs'.drop 1).take (Tryd.prog.cellsOf 25)) = ys[1]? := hfld 1 _ rfl
      have hyl' : ys.length = 2 := hyl
      rw [hI, List.getElem?_eq_getElem (by omega)] at q0
      rw [hT, List.getElem?_eq_getElem (by omega)] at q1
      obtain ⟨k0, hk0, _, hw0⟩ := DataW.trod_int Tryd.underlying3 q0
      match cs', hlen2 with
      | [c0, c1, c2, c3], _ =>
        obtain ⟨zs, n2, hn2, _, hlen3, hzl, hfld2⟩ := DataW.trod_struct Tryd.underlying25 q1
        have p0 : DataW.trod enc Tryd.prog W 0 (fun _ => true) true n2 3 (([c1, c2, c3].drop 0).take (Tryd.prog.cellsOf 3)) = zs[0]? := hfld2 0 _ rfl
        have p1 : DataW.trod enc Tryd.prog W 0 (fun _ => true) true n2 3 (([c1, c2, c3].drop 1).take (Tryd.prog.cellsOf 3)) = zs[1]? := hfld2 1 _ rfl
        have p2 : DataW.trod enc Tryd.prog W 0 (fun _ => true) true n2 23 (([c1, c2, c3].drop 2).take (Tryd.prog.cellsOf 23)) = zs[2]? := hfld2 2 _ rfl
        have hzl' : zs.length = 3 := hzl
        rw [hI, List.getElem?_eq_getElem (by omega)] at p0
        rw [hI, List.getElem?_eq_getElem (by omega)] at p1
        rw [hS, List.getElem?_eq_getElem (by omega)] at p2
        obtain ⟨k1, hk1, _, _⟩ := DataW.trod_int Tryd.underlying3 p0
        obtain ⟨k2, hk2, _, hw2⟩ := DataW.trod_int Tryd.underlying3 p1
        obtain ⟨F, u, hu, hF, hFw⟩ := types_read n2 c3 _ p2
        simp at hk0 hk1 hk2
        subst hk0; subst hk1; subst hk2; subst hu
        refine ⟨(k0, k1, k2, u, F), ?_, ?_, ?_, ?_, hF, hw0, hw2, hFw⟩
        · have := hat 0 (by omega)
          simpa [Addr.add] using this
        · exact hat 1 (by omega)
        · exact hat 2 (by omega)
        · exact hat 3 (by omega)
    by_cases h0 : len = 0
    · subst h0
      exact ⟨[], ⟨_, _, rfl, fun h => by simp at h, fun x hx => by cases hx⟩, fun x hx => by cases hx⟩
    · obtain ⟨b, off, spot⟩ := a
      obtain ⟨t0, hc0, _⟩ := key 0 (by omega)
      have hspot : spot = none := by simpa [Addr.add] using World.cell?_spot hc0
      subst hspot
      have hb : b < W.heap.size := by simpa [Addr.add] using World.block_lt_of_cell? _ _ hc0
      obtain ⟨ts, htl, hP⟩ := listOf _ len key
      subst htl
      simp only [Addr.add_lit] at hP
      refine ⟨ts, ⟨_, _, rfl, fun _ => ⟨b, off, rfl, hb, hl, hm, fun i hi => ⟨(hP i hi).1, (hP i hi).2.1, (hP i hi).2.2.1, (hP i hi).2.2.2.1⟩⟩, fun x hx => ?_⟩, fun x hx => ?_⟩
      · obtain ⟨i, hi, rfl⟩ := List.mem_iff_getElem.1 hx
        exact (hP i hi).2.2.2.2.1
      · obtain ⟨i, hi, rfl⟩ := List.mem_iff_getElem.1 hx
        exact (hP i hi).2.2.2.2.2
theorem ArgB_open {H : Type} {enc : TypeId × Value → H} {W : World} {v : Value} {d : DataW H} {p : List MemPlace}
    (h : DataW.Trod enc Tryd.prog W 0 (fun _ => true) true 22 v d p) (hc : v.cells = #[v]) : ∃ l, BdV W.heap.size W l v ∧ BdW l := by
  obtain ⟨fuel, hf⟩ := h
  rw [hc] at hf
  exact binds_read fuel v _ hf
end Go.Proofs.YtifdbmdfkhnojaaDoor
/- The answer's Right. -/
namespace Go.Proofs.YtifdbmdfkhnojaaDoor
open Go.RowKit

theorem Fo.pre_split (f : Fo) (j : Nat) (hj : j < f.len) : f.pre = (f.take j).pre ++ (((f.at_ j).1, (f.at_ j).2.1, (f.at_ j).2.2.1) :: (f.at_ j).2.2.2.pre) ++ (f.drop (j + 1)).pre := by
  induction f generalizing j with
  | nil => simp [Fo.len] at hj
  | cons k n v ps r _ ih =>
    cases j with
    | zero => simp [Fo.at_, Fo.pre, Fo.take, Fo.drop]
    | succ j =>
      have := ih j (by simp [Fo.len] at hj; omega)
      simp only [Fo.pre, Fo.take, Fo.at_, Fo.drop]
      rw [this]
      simp
theorem Fo.pre_take (f : Fo) (j : Nat) (hj : j < f.len) : (f.take (j + 1)).pre = (f.take j).pre ++ (((f.at_ j).1, (f.at_ j).2.1, (f.at_ j).2.2.1) :: (f.at_ j).2.2.2.pre) := by
  rw [Fo.take_step f j hj, Fo.pre_app]
  simp [Fo.pre]
theorem allAlone_appJ (a b : List Tr) : allAlone (a ++ b) = (allAlone a && allAlone b) := by simp [allAlone]
theorem allAlone_cons (x : Tr) (b : List Tr) : allAlone (x :: b) = (alone x.1 x.2.1 x.2.2.2.1 && allAlone b) := by simp [allAlone]
theorem TyV.len {B : Nat} {w : World} {f : Fo} {u : Sl} (h : TyV B w f (slv u)) : u.2.1 = f.len := by
  obtain ⟨A, c, hv⟩ := h.slice
  unfold slv at hv
  injection hv
set_option maxHeartbeats 2000000 in
set_option maxRecDepth 100000 in
theorem rright_any (m : Nat) : ∀ (f : Fo) (k n : Int) (v : Value) (w : World), f.size < m → f.size ≤ 1000000 → TyV w.heap.size w f v →
    Calls Tryd.prog 39 #[tyVal k n v] w fun e w' => e = .returned (.bool (alone k n f.len && allAlone f.pre)) ∧ Below w.heap.size w w' := by
  induction m with
  | zero => intro f k n v w h; omega
  | succ m ih =>
    intro f k n v w hm hs h
    obtain ⟨A, c, rfl⟩ := h.slice
    have H := Lib.hid h
    have IH := Lib.hid ih
    have hll := f.len_le_size
    clear h ih
    unfold tyVal
    go_enter Tryd.func39, Tryd.ntmps39
    obtain ⟨q, hq⟩ : ∃ q, f.len = q := ⟨_, rfl⟩
    rw [hq] at hll ⊢
    have HB0 := Lib.hid (show ∀ (cs : Array Value) (t : TypeId), Below w.heap.size w (w.alloc (Obj.cells cs t)) from fun cs t => (Below.refl _ w).alloc (Nat.le_refl _) _)
    have HQ := Lib.hid hq
    clear hq
    have done : alone k n q = false → ∀ (cs : Array Value) (t : TypeId), (Ending.returned (.bool false) = .returned (.bool (alone k n q && allAlone f.pre)) ∧ Below w.heap.size w (w.alloc (Obj.cells cs t))) := by
      intro h1 cs t
      rw [h1]
      exact ⟨rfl, HB0.out _ _⟩
    have DONE := Lib.hid done
    clear done
    by_cases h1 : k = 1
    case' pos =>
      subst h1
      by_cases h2 : n < 0
      · have f2 : decide (n < 0) = true := decide_eq_true h2
        go_wp2_with fail
        go_ret
        exact DONE.out (by unfold alone; rw [if_pos rfl, decide_eq_false (by omega : ¬ 0 ≤ n)]; rfl) _ _
      have f2 : decide (n < 0) = false := decide_eq_false h2
      by_cases h3 : 1073741824 ≤ n
      · have f3 : decide (1073741824 ≤ n) = true := decide_eq_true h3
        go_wp2_with fail
        go_ret
        exact DONE.out (by unfold alone; rw [if_pos rfl, decide_eq_false (by omega : ¬ n < 1073741824)]; simp) _ _
      have f3 : decide (1073741824 ≤ n) = false := decide_eq_false h3
      by_cases h4 : 0 < q
      · have f5 : decide (0 < q) = true := decide_eq_true h4
        go_wp2_with fail
        go_ret
        exact DONE.out (by unfold alone; rw [if_pos rfl, beq_eq_false_iff_ne.2 (by omega : (q : Int) ≠ 0)]; simp) _ _
      have hal : alone 1 n q = true := by
        obtain rfl : q = 0 := by omega
        unfold alone
        rw [if_pos rfl, decide_eq_true (by omega : 0 ≤ n), decide_eq_true (by omega : n < 1073741824)]
        rfl
      have HA := Lib.hid hal
      have f5 : decide (0 < q) = false := decide_eq_false h4
      clear hal h2 h3 h4
      go_wp2_with fail
    case' neg =>
      by_cases h2 : n = 0
      case neg =>
        have f1 : (k == 1) = false := beq_eq_false_iff_ne.2 h1
        have f2 : (n != 0) = true := bne_iff_ne.2 h2
        go_wp2_with fail
        go_ret
        refine DONE.out ?_ _ _
        unfold alone
        simp [h1, h2]
      subst h2
      by_cases h2 : k = 2
      case' pos =>
        subst h2
        by_cases h4 : 0 < q
        · have f5 : decide (0 < q) = true := decide_eq_true h4
          go_wp2_with fail
          go_ret
          exact DONE.out (by unfold alone; simp; omega) _ _
        have hal : alone 2 0 q = true := by obtain rfl : q = 0 := by omega
                                            rfl
        have HA := Lib.hid hal
        have f5 : decide (0 < q) = false := decide_eq_false h4
        clear hal h4 h1
        go_wp2_with fail
      case' neg =>
        by_cases h3 : k = 3
        case' pos =>
          subst h3
          by_cases h4 : 0 < q
          · have f5 : decide (0 < q) = true := decide_eq_true h4
            go_wp2_with fail
            go_ret
            exact DONE.out (by unfold alone; simp; omega) _ _
          have hal : alone 3 0 q = true := by obtain rfl : q = 0 := by omega
                                              rfl
          have HA := Lib.hid hal
          have f5 : decide (0 < q) = false := decide_eq_false h4
          clear hal h4 h1 h2
          go_wp2_with fail
        case' neg =>
          by_cases h4 : k = 4
          case' pos =>
            subst h4
            by_cases h5 : q = 2
            case neg =>
              have f5 : ((q : Int) != 2) = true := bne_iff_ne.2 (by omega)
              go_wp2_with fail
              go_ret
              exact DONE.out (by unfold alone; simp; omega) _ _
            have f5 : ((q : Int) != 2) = false := by rw [h5]; rfl
            have hal : alone 4 0 q = true := by rw [h5]; rfl
            have HA := Lib.hid hal
            clear hal h5 h1 h2 h3
            go_wp2_with fail
          case' neg =>
            by_cases h5 : k = 5
            case' pos =>
              subst h5
              by_cases h6 : q < 2
              · have f5 : decide (q < 2) = true := decide_eq_true h6
                go_wp2_with fail
                go_ret
                exact DONE.out (by unfold alone; simp; omega) _ _
              have f5 : decide (q < 2) = false := decide_eq_false h6
              by_cases h7 : 8 < q
              · have f6 : decide (8 < q) = true := decide_eq_true h7
                go_wp2_with fail
                go_ret
                exact DONE.out (by unfold alone; simp; omega) _ _
              have f6 : decide (8 < q) = false := decide_eq_false h7
              have hal : alone 5 0 q = true := by unfold alone; simp; omega
              have HA := Lib.hid hal
              clear hal h1 h2 h3 h4
              go_wp2_with fail
              all_goals try (exfalso; omega)
            case' neg =>
              have f1 : (k == 1) = false := beq_eq_false_iff_ne.2 h1
              have f2 : (k == 2) = false := beq_eq_false_iff_ne.2 h2
              have f3 : (k == 3) = false := beq_eq_false_iff_ne.2 h3
              have f4 : (k == 4) = false := beq_eq_false_iff_ne.2 h4
              have f5 : (k == 5) = false := beq_eq_false_iff_ne.2 h5
              by_cases h6 : k < 1
              · have f6 : decide (k < 1) = true := decide_eq_true h6
                go_wp2_with fail
                go_ret
                exact DONE.out (by unfold alone; simp [h1, h2, h3, h4, h5]) _ _
              · have f6 : decide (k < 1) = false := decide_eq_false h6
                have f7 : decide (5 < k) = true := decide_eq_true (by omega)
                go_wp2_with fail
                go_ret
                exact DONE.out (by unfold alone; simp [h1, h2, h3, h4, h5]) _ _
    all_goals
      go_loopw [4] (fun t4 wr => ∃ j : Nat, j ≤ q ∧ t4 = .int .i64 j ∧ allAlone (f.take j).pre = true ∧ wr.cell? ⟨w.heap.size, 2, none⟩ = some (.slice A q c) ∧ Below w.heap.size w wr ∧ w.heap.size + 1 ≤ wr.heap.size) (fun t _ => q - (intOf t).toNat)
      case atStart => exact ⟨0, Nat.zero_le _, rfl, by simp [Fo.take_zero, Fo.pre, allAlone], by go_simp, HB0.out _ _, by simp⟩
      case round =>
        obtain ⟨j, hj, rfl, hja, e2, hb, hz⟩ := hrel
        have HB := Lib.hid hb
        have HJA := Lib.hid hja
        clear hja hb
        by_cases hjl : j < q
        · have hjf : j < f.len := by rw [HQ.out]; exact hjl
          obtain ⟨b, off, cap, hv, _, _, hlt, hC⟩ := H.out.form (by omega)
          injection hv with hA _ hcc
          subst hA; subst hcc
          obtain ⟨d0, d1, d2, hch⟩ := tyC_at hC j hjf
          have c0 := (HB.out.cell (p := ⟨b, off + j * 3, none⟩) hlt).trans d0
          have c1 := (HB.out.cell (p := ⟨b, off + j * 3 + 1, none⟩) hlt).trans d1
          have c2 := (HB.out.cell (p := ⟨b, off + j * 3 + 2, none⟩) hlt).trans d2
          have hch' : TyV wr.heap.size wr (f.at_ j).2.2.2 (slv (f.at_ j).2.2.1) := (hch.keep HB.out.size fun b off hb' => HB.out.cell (p := ⟨b, off, none⟩) hb')
          have hsz := f.at_size j hjf
          have hsp := f.pre_split j hjf
          have htk := f.pre_take j hjf
          have hpl := hch.len
          have hrec := IH.out (f.at_ j).2.2.2 (f.at_ j).1 (f.at_ j).2.1 (slv (f.at_ j).2.2.1) wr (by omega) (by omega) hch'
          clear d0 d1 d2 hC hch hch' hsz
          unfold tyVal at hrec
          generalize f.at_ j = p at *
          obtain ⟨pk, pn, pv, pf⟩ := p
          dsimp only at hsp htk hpl hrec c0 c1 c2
          obtain ⟨x, hx⟩ : ∃ x, (alone pk pn pf.len && allAlone pf.pre) = x := ⟨_, rfl⟩
          rw [hx] at hrec
          have hxa : allAlone ((pk, pn, pv) :: pf.pre) = x := by rw [allAlone_cons, ← hx, hpl]
          have HREC := Lib.hid hrec
          have HSP := Lib.hid (show allAlone f.pre = (x && allAlone (f.drop (j + 1)).pre) by rw [hsp, allAlone_appJ, allAlone_appJ, HJA.out, hxa]; rfl)
          have HTK := Lib.hid (show allAlone (f.take (j + 1)).pre = x by rw [htk, allAlone_appJ, HJA.out, hxa]; rfl)
          clear hrec hsp htk hpl hx hxa hjf
          go_wp2_with fail
          refine HREC.out.mono ?_
          rintro e w2 ⟨rfl, hb3⟩
          have e2' := (hb3.cell (p := ⟨w.heap.size, 2, none⟩) (by simp only; omega)).trans e2
          have HB3 := Lib.hid hb3
          clear hb3
          cases x
          · go_wp2_with fail
            go_ret
            exact ⟨ret_bool (by rw [HA.out, HSP.out]; rfl), HB.out.trans (HB3.out.mono (by omega))⟩
          · go_wp2_with fail
            go_roundw
            case rel => exact ⟨j + 1, by omega, by go_num, HTK.out, e2', HB.out.trans (HB3.out.mono (by omega)), Nat.le_trans hz HB3.out.size⟩
            case measure => simp [intOf]; omega
        · obtain rfl : j = q := by omega
          have HT : Hid (f.take j = f) := Lib.hid (by rw [← HQ.out]; exact f.take_len)
          go_wp2_with fail
          go_ret
          exact ⟨ret_bool (by rw [HA.out, ← HT.out, HJA.out]; rfl), HB.out⟩
end Go.Proofs.YtifdbmdfkhnojaaDoor
/- The answer's In. -/
namespace Go.Proofs.YtifdbmdfkhnojaaDoor
open Go.RowKit

set_option maxHeartbeats 1000000 in
theorem rin_any (L : List Int) (vl : Value) (v : Int) (w : World) (hR : Rd w 1 vl L.length (L.map (Value.int .i64))) (hl : L.length ≤ 1000000) :
    Calls Tryd.prog 48 #[vl, .int .i64 v] w fun e w' => e = .returned (.bool (decide (v ∈ L))) ∧ Below w.heap.size w w' := by
  obtain ⟨A, c, rfl⟩ : ∃ A c, vl = .slice A L.length c := by
    rcases hR.2 with ⟨h0, A, c, h⟩ | ⟨b, off, cap, h, _⟩
    · exact ⟨A, c, by rw [h, h0]⟩
    · exact ⟨_, cap, h⟩
  obtain ⟨q, hq⟩ : ∃ q, L.length = q := ⟨_, rfl⟩
  have H := Lib.hid hR
  have HQ := Lib.hid hq
  rw [hq] at hl ⊢
  clear hR hq
  go_enter Tryd.func48, Tryd.ntmps48
  go_wp2_with fail
  go_loopw [5] (fun t wr => ∃ j : Nat, j ≤ q ∧ t = .int .i64 j ∧ (L.take j).contains v = false ∧ Below w.heap.size w wr) (fun t _ => q - (intOf t).toNat)
  case atStart => exact ⟨0, Nat.zero_le _, rfl, by simp, Below.refl _ _⟩
  case round =>
    obtain ⟨j, hj, rfl, hja, hb⟩ := hrel
    have HB := Lib.hid hb
    have HJA := Lib.hid hja
    clear hja hb
    by_cases hjl : j < q
    · have hjL : j < L.length := by rw [HQ.out]; exact hjl
      obtain ⟨b, off, cap, hv, _, _, hlt, hc⟩ := H.out.2.resolve_left (by rintro ⟨h, _⟩; omega)
      injection hv with hA _ hcc
      subst hA; subst hcc
      obtain ⟨x, hx⟩ : ∃ x, L[j] = x := ⟨_, rfl⟩
      have c0 : wr.cell? ⟨b, off + j, none⟩ = some (.int .i64 x) := (HB.out.cell (p := ⟨b, off + j, none⟩) hlt).trans (hc j _ (by rw [List.getElem?_map, List.getElem?_eq_getElem hjL, hx]; rfl))
      have htk : L.take (j + 1) = L.take j ++ [x] := by rw [← hx]; exact (List.take_append_getElem hjL).symm
      by_cases hxv : x = v
      · have f1 : (x == v) = true := by simp [hxv]
        have hmem : decide (v ∈ L) = true := by
          refine decide_eq_true ?_
          rw [← hxv, ← hx]
          exact List.getElem_mem hjL
        have HM := Lib.hid hmem
        clear htk hx hc hxv hmem
        go_wp2_with fail
        go_ret
        exact ⟨ret_bool HM.out.symm, HB.out⟩
      · have f1 : (x == v) = false := beq_eq_false_iff_ne.2 hxv
        have hnm : (L.take (j + 1)).contains v = false := by
          rw [htk]
          have h1 := HJA.out
          simp only [List.contains_eq_mem, decide_eq_false_iff_not, List.mem_append, List.mem_singleton, not_or] at h1 ⊢
          exact ⟨h1, fun e => hxv e.symm⟩
        have HM := Lib.hid hnm
        clear htk hx hc hxv hnm
        go_wp2_with fail
        go_roundw
        case rel => exact ⟨j + 1, by omega, by go_num, HM.out, HB.out⟩
        case measure => simp [intOf]; omega
    · obtain rfl : j = q := by omega
      have hT : decide (v ∈ L) = false := by
        have := HJA.out
        rw [← HQ.out, List.take_length] at this
        simpa using this
      have HT := Lib.hid hT
      clear hT
      go_wp2_with fail
      go_ret
      exact ⟨ret_bool HT.out.symm, HB.out⟩
end Go.Proofs.YtifdbmdfkhnojaaDoor
