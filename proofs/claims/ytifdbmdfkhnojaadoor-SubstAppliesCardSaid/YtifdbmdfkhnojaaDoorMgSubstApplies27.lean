/- Texts of one proof, one behind the other. -/
import Derived.Test.YtifdbmdfkhnojaaDoorMgSubstApplies23
import Derived.Test.YtifdbmdfkhnojaaDoorMgSubstApplies26
/- Binds that a call lays one behind the other; subst.Then. -/
namespace Go.Proofs.YtifdbmdfkhnojaaDoor
open Go.RowKit Go.Shelf Go.Maps Go.WideShapes
/-- Two lists, one for one. -/
inductive All2 {α β : Type} (R : α → β → Prop) : List α → List β → Prop
  | nil : All2 R [] []
  | cons {a : α} {b : β} {l : List α} {m : List β} (h : R a b) (t : All2 R l m) : All2 R (a :: l) (b :: m)
theorem All2.imp {α β : Type} {R R' : α → β → Prop} {l : List α} {m : List β} (h : All2 R l m) (k : ∀ a b, R a b → R' a b) : All2 R' l m := by
  induction h with
  | nil => exact .nil
  | cons h _ ih => exact .cons (k _ _ h) ih
theorem All2.len {α β : Type} {R : α → β → Prop} {l : List α} {m : List β} (h : All2 R l m) : l.length = m.length := by
  induction h with
  | nil => rfl
  | cons h _ ih => simp [ih]
theorem All2.app {α β : Type} {R : α → β → Prop} {l l' : List α} {m m' : List β} (h : All2 R l m) (k : All2 R l' m') : All2 R (l ++ l') (m ++ m') := by
  induction h with
  | nil => exact k
  | cons h _ ih => exact .cons h ih
/-- A bind, without places. -/
abbrev Pb := Int × Int × Int × Fo
def pb (x : Bnd) : Pb := (x.1, x.2.1, x.2.2.1, x.2.2.2.2.pure)
/-- A row of binds of one's own, whose types stand. -/
def ThInv (B0 H : Nat) (P : List Pb) (v : Value) (w : World) : Prop :=
  ∃ L : List Bnd, w.ownsRow H 49 4 v L.length (bds L) ∧ All2 (fun (c : Bnd) (p : Pb) => c.1 = p.1 ∧ c.2.1 = p.2.1 ∧ c.2.2.1 = p.2.2.1 ∧ Std (fun b => (b < B0 ∨ H ≤ b) ∧ some b ≠ v.ownBlock) w p.2.2.2 c.2.2.2.1) L P
theorem ThInv.nil (B0 H : Nat) (w : World) : ThInv B0 H [] (.slice none 0 0) w := ⟨[], ⟨rfl, .inl ⟨rfl, rfl⟩⟩, .nil⟩
theorem ThInv.below {B0 H : Nat} {P : List Pb} {v : Value} {w w' : World} (h : ThInv B0 H P v w) (hb : Below w.heap.size w w') : ThInv B0 H P v w' := by
  obtain ⟨L, h1, h2⟩ := h
  refine ⟨L, h1.kept (bel_grown hb) (by cases h : v.ownBlock <;> simp), h2.imp fun _ _ ⟨e1, e2, e3, e4⟩ => ⟨e1, e2, e3, e4.to hb.size fun b hlt hS => ⟨hS, hb.block b hlt⟩⟩⟩
theorem ThInv.app {B0 H : Nat} {P : List Pb} {v : Value} {wr wa w3 : World} {x0 : Int} {K : Int × Int × Fo} {r1 : Option Addr} {r2 r3 : Nat} (h : ThInv B0 H P v wr) (hB0 : B0 ≤ H) (hH : H ≤ wr.heap.size) (hl : P.length ≤ 1000000) (ha : Below wr.heap.size wr wa) (hb : Below wa.heap.size wa w3)
    (hst : Std (fun b => b < B0 ∨ wa.heap.size ≤ b) w3 K.2.2 (r1, r2, r3)) :
    ∃ v' W2, (app_ #[22, 22] 22 #[v, .slice (some ⟨w3.heap.size, 0, none⟩) 1 1]).run Tryd.prog (w3.alloc (.cells #[.int .i64 x0, .int .i64 K.1, .int .i64 K.2.1, .slice r1 r2 r3] 49)) = .ok v' W2 ∧
      ThInv B0 H (P ++ [(x0, K.1, K.2.1, K.2.2)]) v' W2 ∧ Below H w3 W2 ∧ w3.heap.size ≤ W2.heap.size ∧ (∀ b, b < w3.heap.size → some b ≠ v.ownBlock → W2.heap[b]? = w3.heap[b]?) ∧ (∀ b, v'.ownBlock = some b → v.ownBlock = some b ∨ w3.heap.size ≤ b) := by
  obtain ⟨L, h1, h2⟩ := h.below (ha.trans (hb.mono ha.size))
  have hlen : L.length ≤ 1000000 := by rw [h2.len]; exact hl
  obtain ⟨v', W2, hrun, hown, hbel, _, hg, hat⟩ := app_bd (w3.alloc (.cells #[.int .i64 x0, .int .i64 K.1, .int .i64 K.2.1, .slice r1 r2 r3] 49)) H v L (h1.alloc _) (.slice (some ⟨w3.heap.size, 0, none⟩) 1 1) [(x0, K.1, K.2.1, (r1, r2, r3), .nil)] (rd_new w3 [.int .i64 x0, .int .i64 K.1, .int .i64 K.2.1, .slice r1 r2 r3] _ 4 1 rfl (by unfold maxLen; omega)) (by simp; omega) (by have := ha.size; have := hb.size; simp; omega)
  have hgs := hg.size
  rw [World.size_alloc] at hgs hat
  have hv : ∀ b, v.ownBlock = some b → b < wr.heap.size ∨ wr.heap.size ≤ b := fun b _ => by omega
  obtain ⟨L0, h10, _⟩ := h
  have hvw : ∀ b, v.ownBlock = some b → b < wr.heap.size := fun b hb => (h10.lt b hb).2
  have hvH : ∀ b, v.ownBlock = some b → H ≤ b := fun b hb => (h10.lt b hb).1
  have hbk : ∀ b, b < w3.heap.size → some b ≠ v.ownBlock → W2.heap[b]? = w3.heap[b]? := fun b hb1 hb2 => (hg.block b (by rw [World.size_alloc]; omega) hb2).trans (Below.heap_alloc _ _ _ hb1)
  refine ⟨v', W2, hrun, ⟨_, hown, ?_⟩, ?_, by omega, hbk, fun b hb => ?_⟩
  rotate_right
  · rcases hat with h | h
    · exact .inl (h.symm.trans hb)
    · rw [h] at hb; injection hb with hb; exact .inr (by omega)
  · refine All2.app (h2.imp fun _ _ ⟨e1, e2, e3, e4⟩ => ⟨e1, e2, e3, e4.to (by omega) fun b hlt hS => ⟨⟨hS.1, fun e => ?_⟩, hbk b hlt hS.2⟩⟩) (.cons ⟨rfl, rfl, rfl, hst.to (by omega) fun b hlt hS => ⟨⟨by have := ha.size; omega, fun e => ?_⟩, hbk b hlt fun e => ?_⟩⟩ .nil)
    · rcases hat with h | h
      · exact hS.2 (e.trans h)
      · rw [h] at e; injection e with e; omega
    · rcases hat with h | h
      · rw [h] at e
        have := hvw b e.symm
        have := hvH b e.symm
        have := ha.size; omega
      · rw [h] at e; injection e with e; omega
    · have := hvw b e.symm
      have := hvH b e.symm
      have := ha.size; omega
  · exact ((Below.refl H w3).alloc (by have := ha.size; have := hb.size; omega) _).trans hbel
/-- What was laid, as binds. -/
theorem ThInv.done {B0 H : Nat} {P : List Pb} {v : Value} {w : World} (h : ThInv B0 H P v w) : ∃ L : List Bnd, BdV w.heap.size w L v ∧ L.map pb = P.map (fun p => (p.1, p.2.1, p.2.2.1, p.2.2.2)) := by
  obtain ⟨L, h1, h2⟩ := h
  have key : ∃ L' : List Bnd, bds L' = bds L ∧ L'.length = L.length ∧ L'.map pb = P ∧ ∀ x ∈ L', TyV w.heap.size w x.2.2.2.2 (slv x.2.2.2.1) := by
    clear h1
    induction h2 with
    | nil => exact ⟨[], rfl, rfl, rfl, fun x hx => by cases hx⟩
    | @cons c p L P h h2 ih =>
      obtain ⟨L', e1, e2, e3, e4⟩ := ih
      obtain ⟨h1, h2, h3, h4⟩ := h
      obtain ⟨g, hg, ht⟩ := h4.now
      refine ⟨(c.1, c.2.1, c.2.2.1, c.2.2.2.1, g) :: L', ?_, by simp [e2], ?_, fun x hx => ?_⟩
      · simp only [bds, List.flatMap_cons] at e1 ⊢
        rw [e1]; rfl
      · simp only [List.map_cons, e3, pb, h1, h2, h3, hg]
      · rcases List.mem_cons.1 hx with rfl | hx
        · exact ht
        · exact e4 x hx
  obtain ⟨L', e1, e2, e3, e4⟩ := key
  refine ⟨L', own_bdV (base := H) (by rw [e1, e2]; exact h1) e4, ?_⟩
  rw [e3]; simp
/-- What comes of one behind the other. -/
def thenP (a b : List Bnd) : List Pb :=
  (cnt a).map (fun x => (x.1, (Fo.sub1 (sg b) x.2.1 x.2.2.1 x.2.2.2.2).1, (Fo.sub1 (sg b) x.2.1 x.2.2.1 x.2.2.2.2).2.1, (Fo.sub1 (sg b) x.2.1 x.2.2.1 x.2.2.2.2).2.2)) ++ ((cnt b).filter fun x => (fnd a x.1).isNone).map pb
set_option maxHeartbeats 4000000 in
set_option maxRecDepth 100000 in
theorem then_bind (w : World) (a b : List Bnd) (va vb : Value) (ha : BdG w a va 1000000) (hb : BdG w b vb 1000000) :
    Calls Tryd.prog 21 #[va, vb] w fun e w' => ∃ (v' : Value) (L : List Bnd), e = .returned v' ∧ BdV w'.heap.size w' L v' ∧ L.map pb = thenP a b ∧ Below w.heap.size w w' := by
  obtain ⟨A, c, rfl⟩ := ha.at_.form
  obtain ⟨B, d, rfl⟩ := hb.at_.form
  have hla := ha.len
  have hlb := hb.len
  have hba := byvar_any w w.heap.size a _ (Nat.le_refl _) ha.at_ ha.wf ha.len
  have HA := Lib.hid ha
  have HB := Lib.hid hb
  have HBA := Lib.hid hba
  clear ha hb hba
  go_enter Tryd.func21, Tryd.ntmps21
  go_wp2_with fail
  refine HBA.out.mono ?_
  clear HBA
  rintro e w1 ⟨ma, rfl, _, hma, hb1⟩
  have hbb := byvar_any w1 w1.heap.size b _ (Nat.le_refl _) (HB.out.later hb1).at_ HB.out.wf HB.out.len
  have HMA := Lib.hid hma
  have HB1 := Lib.hid hb1
  clear hma hb1
  go_wp2_with fail
  refine hbb.mono ?_
  clear hbb
  rintro e w2 ⟨mb, rfl, _, hmb, hb2⟩
  have hb02 := HB1.out.trans (hb2.mono HB1.out.size)
  have hca := counting_any w2 a _ (HA.out.later hb02).at_ HA.out.wf (by omega)
  have HMA2 := Lib.hid (HMA.out.below hb2)
  have HMB := Lib.hid hmb
  have HB2 := Lib.hid hb02
  clear HMA hmb hb2 hb02 HB1
  go_wp2_with fail
  refine hca.mono ?_
  clear hca
  rintro e w3 ⟨v3, rfl, hC, hb3, _⟩
  obtain ⟨A3, c3, rfl⟩ := hC.form
  have hcla := cnt_len a
  have HMA3 := Lib.hid (HMA2.out.below hb3)
  have HMB3 := Lib.hid (HMB.out.below hb3)
  have HB3 := Lib.hid (HB2.out.trans (hb3.mono HB2.out.size))
  clear HMA2 HMB hb3 HB2
  obtain ⟨CA, hCA⟩ : ∃ CA, cnt a = CA := ⟨_, rfl⟩
  have HCA := Lib.hid hCA
  rw [hCA] at hC hcla ⊢
  clear hCA
  go_wp2_with fail
  go_loopw [7, 21] (fun s7 s21 wr => ∃ j : Nat, s21 = .int .i64 j ∧ j ≤ CA.length ∧ ThInv 0 w3.heap.size ((CA.take j).map (fun x => (x.1, (Fo.sub1 (sg b) x.2.1 x.2.2.1 x.2.2.2.2).1, (Fo.sub1 (sg b) x.2.1 x.2.2.1 x.2.2.2.2).2.1, (Fo.sub1 (sg b) x.2.1 x.2.2.1 x.2.2.2.2).2.2))) s7 wr ∧ Below w3.heap.size w3 wr) (fun _ s _ => CA.length - (intOf s).toNat)
  case atStart => exact ⟨0, rfl, Nat.zero_le _, ThInv.nil _ _ _, Below.refl _ _⟩
  case round =>
    obtain ⟨j, rfl, hj, hth, hb⟩ := hrel
    by_cases hjl : j < CA.length
    · obtain ⟨bb, off, rfl, hlt, c0, c1, c2, c3'⟩ := (hC.below hb).at j hjl
      have htk : CA.take (j + 1) = CA.take j ++ [CA[j]] := by rw [List.take_succ_eq_append_getElem hjl]
      have hmem : CA[j] ∈ a := cnt_sub (by rw [HCA.out]; exact List.getElem_mem hjl)
      have hbw := HB3.out.trans (hb.mono HB3.out.size)
      have hty := (HA.out.later hbw).types (Nat.le_refl _) _ hmem
      have hwf := HA.out.wf _ hmem
      obtain ⟨x, hx⟩ : ∃ x, CA[j] = x := ⟨_, rfl⟩
      rw [hx] at c0 c1 c2 c3' htk hty hwf
      obtain ⟨x0, x1, x2, ⟨A4, n4, c4⟩, x4⟩ := x
      dsimp only [slv] at c0 c1 c2 c3' hty hwf
      obtain ⟨K, hK⟩ : ∃ K, Fo.sub1 (sg b) x1 x2 x4 = K := ⟨_, rfl⟩
      obtain ⟨w4, hw4⟩ : ∃ w4, wr.alloc (.cells #[.int .i64 x0, .int .i64 x1, .int .i64 x2, .slice A4 n4 c4] 49) = w4 := ⟨_, rfl⟩
      have hb4 : Below wr.heap.size wr w4 := by rw [← hw4]; exact (Below.refl _ _).alloc (Nat.le_refl _) _
      have hsz4 : w4.heap.size = wr.heap.size + 1 := by rw [← hw4]; simp
      have hB4 : w4.heap[wr.heap.size]? = some (.cells #[.int .i64 x0, .int .i64 x1, .int .i64 x2, .slice A4 n4 c4] 49) := by rw [← hw4]; exact heap_alloc_new _ _
      have d0 : w4.cell? ⟨wr.heap.size, 0, none⟩ = some (.int .i64 x0) := cell_of_row w4 _ 0 _ _ (0, 0) hB4
      have d1 : w4.cell? ⟨wr.heap.size, 1, none⟩ = some (.int .i64 x1) := cell_of_row w4 _ 1 _ _ (0, 0) hB4
      have d2 : w4.cell? ⟨wr.heap.size, 2, none⟩ = some (.int .i64 x2) := cell_of_row w4 _ 2 _ _ (0, 0) hB4
      have d3 : w4.cell? ⟨wr.heap.size, 3, none⟩ = some (.slice A4 n4 c4) := cell_of_row w4 _ 3 _ _ (0, 0) hB4
      have hbw4 := hbw.trans (hb4.mono hbw.size)
      have h34 : Below w3.heap.size w3 w4 := hb.trans (hb4.mono hb.size)
      have hap := apply_bind w4.drew b (.map (some mb)) (.inr ⟨mb, _, _, rfl, (HMB3.out.below h34).below (Below.refl _ _).drew⟩) ((HB.out.later (hbw4.trans (Below.refl _ _).drew)).types (Nat.le_refl _)) x1 x2 (A4, n4, c4) x4 (hty.1.later (hb4.trans (Below.refl _ _).drew)) hty.2 hwf.2.1 hwf.2.2
      rw [hK] at hap
      have happ : ∀ (w5 : World) (r1 : Option Addr) (r2 r3 : Nat), Below w4.drew.heap.size w4.drew w5 → FreshP 25 w4.drew.heap.size w5 K.2.2 (r1, r2, r3) →
          ∃ v' W2, (app_ #[22, 22] 22 #[u7, .slice (some ⟨w5.heap.size, 0, none⟩) 1 1]).run Tryd.prog (w5.alloc (.cells #[.int .i64 x0, .int .i64 K.1, .int .i64 K.2.1, .slice r1 r2 r3] 49)) = .ok v' W2 ∧ w5.cell? ⟨wr.heap.size, 0, none⟩ = some (.int .i64 x0) ∧
            Hid (ThInv 0 w3.heap.size ((CA.take (j + 1)).map (fun x => (x.1, (Fo.sub1 (sg b) x.2.1 x.2.2.1 x.2.2.2.2).1, (Fo.sub1 (sg b) x.2.1 x.2.2.1 x.2.2.2.2).2.1, (Fo.sub1 (sg b) x.2.1 x.2.2.1 x.2.2.2.2).2.2))) v' W2 ∧ Below w3.heap.size w3 W2) := by
        intro w5 r1 r2 r3 hb5 hF
        obtain ⟨v', W2, hrun, h1, h2, h3, _⟩ := ThInv.app (x0 := x0) (K := K) (r1 := r1) (r2 := r2) (r3 := r3) hth (Nat.zero_le _) hb.size (by simp; omega) (hb4.trans (Below.refl _ _).drew) hb5 (hF.std.to (Nat.le_refl _) fun b _ h => ⟨.inr h, rfl⟩)
        refine ⟨v', W2, hrun, (hb5.cell (p := ⟨wr.heap.size, 0, none⟩) (by simp; omega)).trans d0, Lib.hid ⟨?_, (h34.trans ((Below.refl _ w4).drew.trans (hb5.mono (by have := h34.size; simp; omega)))).trans h2⟩⟩
        rw [htk, List.map_append]
        simpa [hK] using h1
      have HAP := Lib.hid hap
      have HAPP := Lib.hid happ
      have HX := Lib.hid hx
      clear hap happ hx hty hwf hB4 hsz4 hb4 hbw hbw4 h34 hth htk hmem hK hb
      dsimp only [tyVal, slv] at HAP
      go_wp2_with fail
      go_region_law (first | (refine step_app (by rfl) (.tmp 25) (.tmp 33) 22 (by rfl) hrun (by rfl) (by rfl) ?_) | (go_simp; go_at_call 36; refine HAP.out.mono ?_; rintro e w5 ⟨⟨r1, r2, r3⟩, rfl, hb5, hF⟩; obtain ⟨v', W2, hrun, z0, hfin⟩ := HAPP.out w5 r1 r2 r3 hb5 hF; clear hb5 hF))
      all_goals
        go_wp2_with fail
        go_roundw
        case rel => exact ⟨j + 1, by go_num, by omega, hfin.out.1, hfin.out.2⟩
        case measure => simp [intOf]; omega
    · obtain rfl : j = CA.length := by omega
      rw [List.take_length] at hth
      obtain ⟨P1, hP1⟩ : ∃ P1 : List Pb, CA.map (fun x => (x.1, (Fo.sub1 (sg b) x.2.1 x.2.2.1 x.2.2.2.2).1, (Fo.sub1 (sg b) x.2.1 x.2.2.1 x.2.2.2.2).2.1, (Fo.sub1 (sg b) x.2.1 x.2.2.1 x.2.2.2.2).2.2)) = P1 := ⟨_, rfl⟩
      have hthe : thenP a b = P1 ++ ((cnt b).filter fun x => (fnd a x.1).isNone).map pb := by unfold thenP; rw [HCA.out, hP1]
      have hPl : P1.length ≤ 100000 := by rw [← hP1]; simp; omega
      rw [hP1] at hth
      have hbr := HB3.out.trans (hb.mono HB3.out.size)
      have hcb := counting_any wr b _ (HB.out.later hbr).at_ HB.out.wf (by omega)
      have hrow : ∀ g, u7.ownBlock = some g → g < wr.heap.size := fun g hg => by
        obtain ⟨_, h1, _⟩ := hth
        exact (h1.lt g hg).2
      have HTHE := Lib.hid hthe
      have HTH := Lib.hid hth
      have HCB := Lib.hid hcb
      have HROW := Lib.hid hrow
      have HBR := Lib.hid hb
      clear hthe hth hcb hrow hbr hb hP1 hC
      generalize wr = wA at *
      go_wp2_with fail
      refine HCB.out.mono ?_
      clear HCB
      rintro e w5 ⟨v5, rfl, hC, hb5, hv5⟩
      obtain ⟨A5, c5, rfl⟩ := hC.form
      have hclb := cnt_len b
      have HB5 := Lib.hid hb5
      have HTH5 := Lib.hid (HTH.out.below hb5)
      have HB35 := Lib.hid (HBR.out.trans (hb5.mono HBR.out.size))
      have HV5 := Lib.hid hv5
      obtain ⟨CB, hCB⟩ : ∃ CB, cnt b = CB := ⟨_, rfl⟩
      have HCBB := Lib.hid hCB
      rw [hCB] at hC hclb HTHE ⊢
      have HC := Lib.hid hC
      clear hCB hb5 hv5 hC HTH HMB3
      go_wp2_with fail
      go_loopw [7, 39] (fun s7 s39 wr => ∃ j : Nat, s39 = .int .i64 j ∧ j ≤ CB.length ∧ ThInv 0 w3.heap.size (P1 ++ ((CB.take j).filter fun x => (fnd a x.1).isNone).map pb) s7 wr ∧ Below w3.heap.size w3 wr ∧ w5.heap.size ≤ wr.heap.size ∧
          (∀ g, s7.ownBlock = some g → g < wA.heap.size ∨ w5.heap.size ≤ g) ∧ (∀ g, wA.heap.size ≤ g → g < w5.heap.size → wr.heap[g]? = w5.heap[g]?)) (fun _ s _ => CB.length - (intOf s).toNat)
      case atStart => exact ⟨0, rfl, Nat.zero_le _, by simpa using HTH5.out, HB35.out, Nat.le_refl _, fun g hg => .inl (HROW.out g hg), fun _ _ _ => rfl⟩
      case round =>
        obtain ⟨j, rfl, hj, hth, hb, hs5, hrw, hkp⟩ := hrel
        by_cases hjl : j < CB.length
        · obtain ⟨bb, off, rfl, hlt, c0, c1, c2, c3'⟩ := HC.out.at j hjl
          have hge : wA.heap.size ≤ bb := HV5.out bb rfl
          have hblk := hkp bb hge hlt
          have k0 := (World.cell?_of_block (a := ⟨bb, off + j * 4, none⟩) hblk).trans c0
          have k1 := (World.cell?_of_block (a := ⟨bb, off + j * 4 + 1, none⟩) hblk).trans c1
          have k2 := (World.cell?_of_block (a := ⟨bb, off + j * 4 + 2, none⟩) hblk).trans c2
          have k3 := (World.cell?_of_block (a := ⟨bb, off + j * 4 + 3, none⟩) hblk).trans c3'
          have htk : CB.take (j + 1) = CB.take j ++ [CB[j]] := by rw [List.take_succ_eq_append_getElem hjl]
          have hmem : CB[j] ∈ b := cnt_sub (by rw [HCBB.out]; exact List.getElem_mem hjl)
          have hbw := HB3.out.trans (hb.mono HB3.out.size)
          have hty := (HB.out.later hbw).types (Nat.le_refl _) _ hmem
          have hwf := HB.out.wf _ hmem
          obtain ⟨x, hx⟩ : ∃ x, CB[j] = x := ⟨_, rfl⟩
          rw [hx] at k0 k1 k2 k3 htk hty hwf
          obtain ⟨x0, x1, x2, ⟨A4, n4, c4⟩, x4⟩ := x
          dsimp only [slv] at k0 k1 k2 k3 hty hwf
          obtain ⟨w4, hw4⟩ : ∃ w4, wr.alloc (.cells #[.int .i64 x0, .int .i64 x1, .int .i64 x2, .slice A4 n4 c4] 49) = w4 := ⟨_, rfl⟩
          have hb4 : Below wr.heap.size wr w4 := by rw [← hw4]; exact (Below.refl _ _).alloc (Nat.le_refl _) _
          have hsz4 : w4.heap.size = wr.heap.size + 1 := by rw [← hw4]; simp
          have hB4 : w4.heap[wr.heap.size]? = some (.cells #[.int .i64 x0, .int .i64 x1, .int .i64 x2, .slice A4 n4 c4] 49) := by rw [← hw4]; exact heap_alloc_new _ _
          have d0 : w4.cell? ⟨wr.heap.size, 0, none⟩ = some (.int .i64 x0) := cell_of_row w4 _ 0 _ _ (0, 0) hB4
          have h34 : Below w3.heap.size w3 w4 := hb.trans (hb4.mono hb.size)
          have hlk := (HMA3.out.below h34).look_ok bindsTy x0 hwf.1
          obtain ⟨y2, i2, A6, c6, d6, hsh⟩ := mv_shape a x0
          rw [hsh, mvl_look] at hlk
          dsimp only [tyVal] at hlk
          obtain ⟨w6, hw6⟩ : ∃ w6, w4.alloc (.cells #[.int .i64 y2, .int .i64 i2, .slice A6 c6 d6] 25) = w6 := ⟨_, rfl⟩
          have hb6 : Below wr.heap.size wr w6 := by rw [← hw6]; exact hb4.alloc hb4.size _
          have hs6 : w6.heap.size = wr.heap.size + 2 := by rw [← hw6]; simp [hsz4]
          have hB6 : w6.heap[wr.heap.size]? = some (.cells #[.int .i64 x0, .int .i64 x1, .int .i64 x2, .slice A4 n4 c4] 49) := by rw [← hw6]; exact (Below.heap_alloc _ _ _ (by omega)).trans hB4
          have e0 : w6.cell? ⟨wr.heap.size, 0, none⟩ = some (.int .i64 x0) := cell_of_row w6 _ 0 _ _ (0, 0) hB6
          have e1 : w6.cell? ⟨wr.heap.size, 1, none⟩ = some (.int .i64 x1) := cell_of_row w6 _ 1 _ _ (0, 0) hB6
          have e2 : w6.cell? ⟨wr.heap.size, 2, none⟩ = some (.int .i64 x2) := cell_of_row w6 _ 2 _ _ (0, 0) hB6
          have e3 : w6.cell? ⟨wr.heap.size, 3, none⟩ = some (.slice A4 n4 c4) := cell_of_row w6 _ 3 _ _ (0, 0) hB6
          have h36 : Below w3.heap.size w3 w6 := hb.trans (hb6.mono hb.size)
          have hx0 : fnd a x0 = fnd a ((x0, x1, x2, (A4, n4, c4), x4) : Bnd).1 := rfl
          have HX := Lib.hid hx
          cases hse : (fnd a x0).isSome
          · rw [hse] at hlk
            have hfl : ((CB.take (j + 1)).filter fun x => (fnd a x.1).isNone).map pb = ((CB.take j).filter fun x => (fnd a x.1).isNone).map pb ++ [(x0, x1, x2, x4.pure)] := by
              have : (fnd a x0).isNone = true := by cases hf : fnd a x0 <;> simp_all
              rw [htk, List.filter_append, List.map_append]
              congr 1
              simp [this, pb]
            have hcp := copy_any w6.drew x1 x2 (A4, n4, c4) x4 (hty.1.later (hb6.trans (Below.refl _ _).drew)) hty.2
            have happ : ∀ (w7 : World) (r1 : Option Addr) (r2 r3 : Nat), Below w6.drew.heap.size w6.drew w7 → FreshT 25 w6.drew.heap.size w7 idn x4 (r1, r2, r3) →
                ∃ v' W2, (app_ #[22, 22] 22 #[u7, .slice (some ⟨w7.heap.size, 0, none⟩) 1 1]).run Tryd.prog (w7.alloc (.cells #[.int .i64 x0, .int .i64 x1, .int .i64 x2, .slice r1 r2 r3] 49)) = .ok v' W2 ∧ w7.cell? ⟨wr.heap.size, 0, none⟩ = some (.int .i64 x0) ∧
                  Hid (ThInv 0 w3.heap.size (P1 ++ ((CB.take (j + 1)).filter fun x => (fnd a x.1).isNone).map pb) v' W2 ∧ Below w3.heap.size w3 W2 ∧ w5.heap.size ≤ W2.heap.size ∧
                    (∀ g, v'.ownBlock = some g → g < wA.heap.size ∨ w5.heap.size ≤ g) ∧ (∀ g, wA.heap.size ≤ g → g < w5.heap.size → W2.heap[g]? = w5.heap[g]?)) := by
              intro w7 r1 r2 r3 hb7 hF
              have hPl2 : (P1 ++ ((CB.take j).filter fun x => (fnd a x.1).isNone).map pb).length ≤ 1000000 := by
                have := List.length_filter_le (fun x : Bnd => (fnd a x.1).isNone) (CB.take j)
                simp only [List.length_append, List.length_map, List.length_take] at this ⊢
                omega
              obtain ⟨v', W2, hrun, h1, h2, h3, h4, h5⟩ := ThInv.app (x0 := x0) (K := (x1, x2, x4.pure)) (r1 := r1) (r2 := r2) (r3 := r3) hth (Nat.zero_le _) hb.size hPl2 (hb6.trans (Below.refl _ _).drew) hb7 (hF.p.std.to (Nat.le_refl _) fun b _ h => ⟨.inr h, rfl⟩)
              have hs7 := hb7.size
              simp only [World.size_drew] at hs7
              have hb67 : Below wr.heap.size wr w7 := hb6.trans (((Below.refl _ w6).drew).trans (hb7.mono (by simp; omega)))
              refine ⟨v', W2, hrun, (hb7.cell (p := ⟨wr.heap.size, 0, none⟩) (by simp; omega)).trans e0, Lib.hid ⟨?_, (hb.trans (hb67.mono hb.size)).trans h2, by omega, fun g hg => ?_, fun g hg1 hg2 => ?_⟩⟩
              · rw [hfl, ← List.append_assoc]; exact h1
              · rcases h5 g hg with h | h
                · exact hrw g h
                · exact .inr (by omega)
              · refine (h4 g (by omega) fun e => ?_).trans ((hb67.block g (by omega)).trans (hkp g hg1 hg2))
                rcases hrw g e.symm with h | h <;> omega
            have HCP := Lib.hid hcp
            have HAPP := Lib.hid happ
            clear hcp happ hty hwf hB4 hB6 hsz4 hb4 hbw hb6 hs6 h34 h36 hth htk hmem hfl hb hkp hrw hx hx0 hsh hblk hs5
            dsimp only [tyVal, slv] at HCP
            go_wp2_with fail
            go_region_law (first | (refine step_app (by rfl) (.tmp 52) (.tmp 59) 22 (by rfl) hrun (by rfl) (by rfl) ?_) | (go_simp; go_at_call 47; refine HCP.out.mono ?_; rintro e w7 ⟨⟨r1, r2, r3⟩, rfl, hb7, hF⟩; obtain ⟨v', W2, hrun, z0, hfin⟩ := HAPP.out w7 r1 r2 r3 hb7 hF; clear hb7 hF))
            all_goals
              go_wp2_with fail
              go_roundw
              case rel => exact ⟨j + 1, by go_num, by omega, hfin.out.1, hfin.out.2.1, hfin.out.2.2.1, hfin.out.2.2.2.1, hfin.out.2.2.2.2⟩
              case measure => simp [intOf]; omega
          · rw [hse] at hlk
            have hfl : ((CB.take (j + 1)).filter fun x => (fnd a x.1).isNone).map pb = ((CB.take j).filter fun x => (fnd a x.1).isNone).map pb := by
              have : (fnd a x0).isNone = false := by cases hf : fnd a x0 <;> simp_all
              rw [htk, List.filter_append, List.map_append]
              simp [this]
            have hfin : ThInv 0 w3.heap.size (P1 ++ ((CB.take (j + 1)).filter fun x => (fnd a x.1).isNone).map pb) u7 w6 ∧ Below w3.heap.size w3 w6 ∧ w5.heap.size ≤ w6.heap.size ∧
                    (∀ g, u7.ownBlock = some g → g < wA.heap.size ∨ w5.heap.size ≤ g) ∧ (∀ g, wA.heap.size ≤ g → g < w5.heap.size → w6.heap[g]? = w5.heap[g]?) := by
              rw [hfl]
              exact ⟨hth.below hb6, h36, by omega, hrw, fun g h1 h2 => (hb6.block g (by omega)).trans (hkp g h1 h2)⟩
            have HF := Lib.hid hfin
            clear hfin hty hwf hB4 hB6 hsz4 hb4 hbw hb6 hs6 h34 h36 hth htk hmem hfl hb hkp hrw hx hx0 hsh hblk hs5 e0 e1 e2 e3
            go_wp2_with fail
            go_roundw
            case rel => exact ⟨j + 1, by go_num, by omega, HF.out.1, HF.out.2.1, HF.out.2.2.1, HF.out.2.2.2.1, HF.out.2.2.2.2⟩
            case measure => simp [intOf]; omega
        · obtain rfl : j = CB.length := by omega
          rw [List.take_length] at hth
          obtain ⟨L, hL1, hL2⟩ := hth.done
          have hfin : L.map pb = thenP a b := by rw [hL2, HTHE.out]; simp
          have HF := Lib.hid (And.intro hL1 (And.intro hfin (HB3.out.trans (hb.mono HB3.out.size))))
          clear hL1 hL2 hfin hb hth hkp hrw hs5
          go_wp2_with fail
          go_ret
          exact ⟨_, L, rfl, HF.out.1, HF.out.2.1, HF.out.2.2⟩
end Go.Proofs.YtifdbmdfkhnojaaDoor
