/- Texts of one proof, one behind the other. -/
import Derived.Test.YtojgiienohpaiaaGreatMgCycleTells25
import Derived.Deep.LoopGhost
namespace Go.Proofs.YtojgiienohpaiaaGreat
open Go.RowKit
open Un (Else StM rowI UFo own_else dg swp wp_world paint cnt Rings)
attribute [local go_sem] Oper.semAt_some
set_option maxRecDepth 100000
abbrev mst : Int := 1099511627776
theorem min_run (w : World) (x y : Int) : (Builtin.min_ #[3, 3] 3 #[.int .i64 x, .int .i64 y]).run Tryz.prog w = .ok (.int .i64 (if y < x then y else x)) w := by
  have e : (Builtin.min_ #[3, 3] 3 #[.int .i64 x, .int .i64 y]) = (do pure (← Builtin.min2 (.int .i64 x) (.int .i64 y))) := rfl
  rw [e]
  rfl
theorem exec_min {P : Program} {o : Oper} {a : Act} {w : World} (s x : Operand) (t : TypeId) (ho : o.op = .call { callee := .builtin .min, args := #[s, x], argTypes := #[t, t] }) {vs vx v' : Value} {w' : World}
    (hrun : (Builtin.min_ #[t, t] o.type #[vs, vx]).run P w = .ok v' w') (hs : a.eval s = vs) (hx : a.eval x = vx) : (execOp a.eval o).run P w = .ok (.value v') w' := by
  simp [execOp, ho, resolve, invoke, builtin, hs, hx, hrun, Result.andThen]
def capm (v : Int) : Int := if mst < v + 1 then mst else v + 1
structure BothF (f : Int → Int → Int) (bf : FuncId) : Prop where
  eg : ∀ args w, (callFunc bf args).run Tryz.prog w = .ok (.enter bf args) w
  is : ∀ a b W, 0 ≤ a ∧ a ≤ 8 * mst → 0 ≤ b ∧ b ≤ mst → Calls Tryz.prog bf #[.int .i64 a, .int .i64 b] W fun x W' => x = .returned (.int .i64 (f a b)) ∧ W' = W
  le : ∀ a b, 0 ≤ a → 0 ≤ b → 0 ≤ f a b ∧ f a b ≤ a + b
def maxI (a b : Int) : Int := if a < b then b else a
theorem both_depth : BothF maxI 45 := by
  refine ⟨enters_of Tryz.func45 (by kernel_rfl) rfl, fun a b W ha hb => ?_, fun a b ha hb => by unfold maxI; split <;> omega⟩
  have hm : (Builtin.max_ #[3, 3] 3 #[.int .i64 a, .int .i64 b]).run Tryz.prog W = .ok (.int .i64 (maxI a b)) W := max_run W a b
  obtain ⟨c, hc⟩ : ∃ c, maxI a b = c := ⟨_, rfl⟩
  rw [hc] at hm ⊢
  clear hc ha hb
  go_enter Tryz.func45, Tryz.ntmps45
  go_wp2_with fail
  exact bodyPost_ret (results_tmp rfl _ _ _) rfl ⟨rfl, rfl⟩
theorem both_size : BothF (fun a b => a + b) 46 := by
  refine ⟨enters_of Tryz.func46 (by kernel_rfl) rfl, fun a b W ha hb => ?_, fun a b ha hb => by omega⟩
  have h1 : 0 ≤ a + b := by omega
  have h2 : a + b ≤ 9 * mst := by have := ha.2; have := hb.2; unfold mst at *; omega
  have h3 : IntKind.i64.wrap (a + b) = a + b := IntWalk.i64_in _ (by unfold mst at h2; omega)
  have hk : wrap64 (a + b) = a + b := IntWalk.wrap64_in _ (by unfold mst at h2; omega)
  clear ha hb h1 h2
  go_enter Tryz.func46, Tryz.ntmps46
  go_wp2_with fail
  exact bodyPost_ret (results_tmp rfl _ _ _) rfl ⟨rfl, rfl⟩
def kvF (kv : Nat → Option Int) (n : Int) : Option Value := if 0 ≤ n then (kv n.toNat).map (Value.int .i64) else none
theorem kvF_at (kv : Nat → Option Int) (r : Nat) : kvF kv (r : Int) = (kv r).map (Value.int .i64) := by
  unfold kvF
  rw [if_pos (by omega)]
  simp
def upk (kv : Nat → Option Int) (x : Nat) (v : Int) : Nat → Option Int := fun y => if y = x then some v else kv y
theorem kvF_upd (kv : Nat → Option Int) (r : Nat) (v : Int) : upd (kvF kv) (r : Int) (.int .i64 v) = kvF (upk kv r v) := by
  funext m
  unfold upd kvF upk
  by_cases h : 0 ≤ m
  · rw [if_pos h, if_pos h]
    by_cases hm : m = r
    · subst hm
      simp
    · rw [if_neg hm, if_neg (by omega)]
  · rw [if_neg h, if_neg h, if_neg (by omega)]
theorem zeroKm (w : World) : (zeroValue 3).run Tryz.prog w = .ok (.int .i64 0) w := by kernel_rfl
theorem knownTy : MapTy 92 3 (.int .i64 0) := ⟨Tryz.underlying92, zeroKm⟩
def msf (f : Int → Int → Int) (l : List Int) : Int := capm (l.foldl f 0)
def vlv (kv : Nat → Option Int) (x : Nat) : Int := (kv x).getD 0
def KvOk (f : Int → Int → Int) (ch : Nat → List Nat) (kv : Nat → Option Int) (D : List (Nat × Bool)) : Prop :=
  (∀ x, (x, true) ∈ D → (kv x).isSome = true ∧ 0 ≤ vlv kv x ∧ vlv kv x ≤ mst ∧ vlv kv x = msf f ((ch x).map (vlv kv)) ∧ ∀ y ∈ ch x, (y, true) ∈ D)
def MsJ (fb bb kb km : Nat) (bf : FuncId) (f : Int → Int → Int) (ch : Nat → List Nat) (D : List (Nat × Bool)) (g : Bool) (W : World) : Prop :=
  W.heap[fb]? = some (Obj.cells #[.bool g] 4) ∧ (g = true → ∀ x b, (x, b) ∈ D → b = true) ∧ (g = false → ∃ x, (x, false) ∈ D) ∧ W.heap[bb]? = some (Obj.cells #[.func (.func bf) #[] #[]] 88) ∧ W.heap[kb]? = some (Obj.cells #[.map (some km)] 92) ∧
  ∃ (kv : Nat → Option Int) (S k : Nat), k ≤ D.length ∧ MapF (kvF kv) S k km W ∧ KvOk f ch kv D
theorem foldl_le {f : Int → Int → Int} {bf : FuncId} (h : BothF f bf) (l : List Int) (hl : ∀ x ∈ l, 0 ≤ x ∧ x ≤ mst) : ∀ a, 0 ≤ a → 0 ≤ l.foldl f a ∧ l.foldl f a ≤ a + mst * l.length := by
  induction l with
  | nil => intro a ha; simp; omega
  | cons x l ih =>
    intro a ha
    have hx := hl x List.mem_cons_self
    have h1 := h.le a x ha hx.1
    have h2 := ih (fun y hy => hl y (List.mem_cons_of_mem _ hy)) (f a x) h1.1
    rw [List.foldl_cons, List.length_cons]
    unfold mst at *
    push_cast
    omega
theorem KvOk.put {f : Int → Int → Int} {bf : FuncId} {ch : Nat → List Nat} {kv : Nat → Option Int} {D : List (Nat × Bool)} {r : Nat} {v : Int} (hB : BothF f bf) (h : KvOk f ch kv D) (hn : ∀ g, (r, g) ∉ D) (hc : ∀ y ∈ ch r, (y, true) ∈ D) (h8 : (ch r).length ≤ 8) (hv : v = msf f ((ch r).map (vlv kv))) : KvOk f ch (upk kv r v) (D ++ [(r, true)]) := by
  have hs : ∀ y, (y, true) ∈ D → vlv (upk kv r v) y = vlv kv y := fun y hy => by
    have : y ≠ r := fun e => hn true (by rw [← e]; exact hy)
    unfold vlv upk
    rw [if_neg this]
  have hm : ∀ l : List Nat, (∀ y ∈ l, (y, true) ∈ D) → l.map (vlv (upk kv r v)) = l.map (vlv kv) := fun l hl => List.map_congr_left fun y hy => hs y (hl y hy)
  have hr : vlv (upk kv r v) r = v := by simp [vlv, upk]
  intro x hx
  rcases List.mem_append.1 hx with hx | hx
  · obtain ⟨h1, h2, h3, h4, h5⟩ := h x hx
    have hxr : x ≠ r := fun e => hn true (by rw [← e]; exact hx)
    rw [hs x hx, hm _ h5]
    refine ⟨?_, h2, h3, h4, fun y hy => List.mem_append_left _ (h5 y hy)⟩
    unfold upk
    rw [if_neg hxr]
    exact h1
  · obtain rfl : x = r := by simpa using hx
    rw [hr, hm _ hc]
    have hl := foldl_le hB ((ch x).map (vlv kv)) (fun z hz => by
      obtain ⟨y, hy, rfl⟩ := List.mem_map.1 hz
      have := h y (hc y hy)
      exact ⟨this.2.1, this.2.2.1⟩) 0 (by omega)
    have hcap : 0 ≤ v ∧ v ≤ mst := by
      rw [hv]
      unfold msf capm
      have := hl.1
      unfold mst at *
      split <;> omega
    exact ⟨by simp [upk], hcap.1, hcap.2, hv, fun y hy => List.mem_append_left _ (hc y hy)⟩
def TlPost (D : List (Nat × Bool)) (r : Nat) (b : Bool) (T : Nat → Prop) (J : List (Nat × Bool) → Bool → World → Prop) (W : World) (x : Ending) (w' : World) : Prop := ∃ g : Bool, x = .returned (.bool g) ∧ J (D ++ [(r, b)]) g w' ∧ Else T W w'
section CyNs
variable {O : Nat → Prop} {w : World} {cb m : Nat} {G : List Gn} {E : List (Nat × Nat)} {st fs : Int} {A : Adr} {kn : Kn} {nx col ro : Nat → Nat} {n : Nat} {f : Int → Int → Int} {bf : FuncId}
set_option maxHeartbeats 4000000 in
theorem measure1_any (fb bb kb km : Nat) (hfk : fb ≠ km ∧ bb ≠ km ∧ kb ≠ km ∧ bb ≠ fb ∧ kb ≠ fb) (hB : BothF f bf) (ch : Nat → List Nat) (hn : n ≤ 500000) (h8 : ∀ x, (ch x).length ≤ 8) (hlt : ∀ x y, y ∈ ch x → y < n) : TellOk 62 #[.pointer (some ⟨fb, 0, none⟩), .pointer (some ⟨bb, 0, none⟩), .pointer (some ⟨kb, 0, none⟩)] cb n ch (fun k => k = fb ∨ k = km) (MsJ fb bb kb km bf f ch) fun W => ∃ f, ClM O W cb A st false n G kn nx col ro f := by
  intro D W r b P k hQ hJ hrd hall hnew hrn hDl
  obtain ⟨fq, hC⟩ := hQ
  obtain ⟨P1, P2, P3⟩ := P
  show Calls _ _ #[.agg #[.pointer (some ⟨cb, 0, none⟩), .int .i64 (r : Nat), .slice P1 P2 P3, .int .i64 (k : Nat)], .bool b, .pointer (some ⟨fb, 0, none⟩), .pointer (some ⟨bb, 0, none⟩), .pointer (some ⟨kb, 0, none⟩)] W (TlPost D r b (fun k => k = fb ∨ k = km) (MsJ fb bb kb km bf f ch) W)
  obtain ⟨hcf, hg1, hg2, hcb, hck, kv, S, kk, hkk, hmap, hkv⟩ := hJ
  have hlf := (Array.getElem?_eq_some_iff.1 hcf).1
  have hlb := (Array.getElem?_eq_some_iff.1 hcb).1
  have hlk := (Array.getElem?_eq_some_iff.1 hck).1
  have hlm := hmap.lt
  obtain ⟨Z, hZe⟩ : ∃ Z, W.alloc (.cells #[.pointer (some ⟨cb, 0, none⟩), .int .i64 (r : Nat), .slice P1 P2 P3, .int .i64 (k : Nat)] 81) = Z := ⟨_, rfl⟩
  have hbZ : Below W.heap.size W Z := by rw [← hZe]; exact (Below.refl _ _).alloc (Nat.le_refl _) _
  have hbx : Z.heap[W.heap.size]? = some (.cells #[.pointer (some ⟨cb, 0, none⟩), .int .i64 (r : Nat), .slice P1 P2 P3, .int .i64 (k : Nat)] 81) := by rw [← hZe]; exact heap_alloc_new _ _
  have hfZ := (hbZ.block _ hlf).trans hcf
  have hbbZ := (hbZ.block _ hlb).trans hcb
  have hkbZ := (hbZ.block _ hlk).trans hck
  have hmZ := hmap.below hbZ
  have hCZ := hC.below hbZ
  have hrdZ : Rd Z 2 (slv (P1, P2, P3)) (ch r).length (ptC cb (ch r)) := hrd.below hbZ
  have HBF := Lib.hid hB
  have H := Lib.hid (And.intro hbZ (And.intro hbx (And.intro hfZ (And.intro hbbZ (And.intro hkbZ (And.intro hmZ (And.intro hCZ hrdZ)))))))
  have HJ := Lib.hid (And.intro hg1 (And.intro hg2 (And.intro hkk hkv)))
  have HT := Lib.hid (And.intro hall (And.intro hnew (And.intro hrn (And.intro hDl (And.intro hn (And.intro (h8 r) (fun y hy => hlt r y hy)))))))
  have HF := Lib.hid (And.intro hfk (And.intro hlf (And.intro hlb (And.intro hlk hlm))))
  have HZe := Lib.hid hZe
  have z0 : Z.cell? ⟨fb, 0, none⟩ = some (.bool true) := cell_of_row Z _ 0 _ _ (0, 0) hfZ
  have zf : Z.frozen? ⟨fb, 0, none⟩ = false := by simp [World.frozen?, hfZ]
  have y2 : Z.cell? ⟨W.heap.size, 2, none⟩ = some (.slice P1 P2 P3) := cell_of_row Z _ 2 _ _ (0, 0) hbx
  clear hC hcf hcb hck hmap hkv hlf hlb hlk hlm hbZ hbx hfZ hbbZ hkbZ hmZ hCZ hrdZ hrd hg1 hg2 hkk hall hnew hrn hDl hn h8 hlt hZe hB hfk
  go_enter Tryz.func62, Tryz.ntmps62
  go_upto_region 1 with fail
  rw [HZe.out]
  cases b with
  | false =>
    go_wp2_with fail
    refine bodyPost_ret (results_tmp rfl _ _ _) rfl ⟨false, rfl, ⟨heap_setCell_same Z fb 0 _ _ _ H.out.2.2.1, (fun h => by cases h), (fun _ => ⟨r, by simp⟩), ?_, ?_, kv, S, kk, by rw [List.length_append]; have := HJ.out.2.2.1; omega, ?_, ?_⟩, (Else.of_below H.out.1).trans (Un.Else.set (S := fun k => k = fb ∨ k = km) Z (p := ⟨fb, 0, none⟩) (.inl rfl) _)⟩
    · exact (Below.heap_setCell _ _ _ _ HF.out.1.2.2.2.1).trans H.out.2.2.2.1
    · exact (Below.heap_setCell _ _ _ _ HF.out.1.2.2.2.2).trans H.out.2.2.2.2.1
    · exact H.out.2.2.2.2.2.1.block (Below.heap_setCell _ _ _ _ HF.out.1.1.symm)
    · intro x hx
      have hx : (x, true) ∈ D := by
        rcases List.mem_append.1 hx with hx | hx
        · exact hx
        · simp at hx
      obtain ⟨a1, a2, a3, a4, a5⟩ := HJ.out.2.2.2 x hx
      exact ⟨a1, a2, a3, a4, fun y hy => List.mem_append_left _ (a5 y hy)⟩
  | true =>
    have hP2 : P2 = (ch r).length := part_len (Dp := fun _ => True) (P := (P1, P2, P3)) ⟨H.out.2.2.2.2.2.2.2, fun _ _ _ _ _ => trivial⟩
    have HP2 := Lib.hid hP2
    have hP28 : P2 ≤ 8 := by rw [hP2]; exact HT.out.2.2.2.2.2.1
    clear hP2
    go_wp2_with fail
    go_loopg [8, 10, 16] P2 (fun nn s8 _ s16 wr => ∃ j : Nat, s16 = .int .i64 (j : Nat) ∧ j ≤ P2 ∧ P2 ≤ j + nn ∧ s8 = .int .i64 (((ch r).take j |>.map (vlv kv)).foldl f 0) ∧ Below Z.heap.size Z wr)
    case atStart => exact ⟨0, rfl, Nat.zero_le _, by omega, by simp, Below.refl _ _⟩
    case round =>
      obtain ⟨j, rfl, hj, hjn, hs8, hb⟩ := hrel
      have HJN := Lib.hid hjn
      clear hjn
      have hla := foldl_le HBF.out (((ch r).take j).map (vlv kv)) (fun z hz => by
        obtain ⟨y, hy, rfl⟩ := List.mem_map.1 hz
        have h1 := HJ.out.2.2.2 y (HT.out.1 (by trivial) y (List.mem_of_mem_take hy))
        exact ⟨h1.2.1, h1.2.2.1⟩) 0 (by omega)
      have hll : (((ch r).take j).map (vlv kv)).length = j := by rw [List.length_map, List.length_take, ← HP2.out, Nat.min_eq_left hj]
      rw [hll] at hla
      obtain ⟨a, ha⟩ : ∃ a, (((ch r).take j).map (vlv kv)).foldl f 0 = a := ⟨_, rfl⟩
      rw [ha] at hs8 hla
      subst hs8
      have HR := Lib.hid (And.intro hb (And.intro ha hla))
      clear hb ha hla hll
      by_cases hjl : j < P2
      · have f1 : decide ((j : Int) < (P2 : Int)) = true := decide_eq_true (by omega)
        have f2 : decide (j < P2) = true := decide_eq_true hjl
        obtain ⟨bp, offp, x, hP1, hPL, _, hxk, hbp, e0, e1⟩ := part_cells (Dp := fun _ => True) (P := (P1, P2, P3)) (L := ch r) (k := j) ⟨H.out.2.2.2.2.2.2.2, fun _ _ _ _ _ => trivial⟩ (by rw [← HP2.out]; exact hjl)
        have hP1 : P1 = some ⟨bp, offp, none⟩ := hP1
        clear hPL
        subst hP1
        have hbp := hbp
        have e0 : wr.cell? ⟨bp, offp + j * 2, none⟩ = some (.pointer (some ⟨cb, 0, none⟩)) := (HR.out.1.cell (p := ⟨bp, offp + j * 2, none⟩) hbp).trans e0
        have e1 : wr.cell? ⟨bp, offp + j * 2 + 1, none⟩ = some (.int .i64 (x : Nat)) := (HR.out.1.cell (p := ⟨bp, offp + j * 2 + 1, none⟩) hbp).trans e1
        obtain ⟨Y, hYe⟩ : ∃ Y, wr.alloc (.cells #[.pointer (some ⟨cb, 0, none⟩), .int .i64 (x : Nat)] 78) = Y := ⟨_, rfl⟩
        have hbwY : Below wr.heap.size wr Y := by rw [← hYe]; exact (Below.refl _ _).alloc (Nat.le_refl _) _
        have hbY : Below Z.heap.size Z Y := HR.out.1.trans (hbwY.mono HR.out.1.size)
        have hxY : Y.heap[wr.heap.size]? = some (.cells #[.pointer (some ⟨cb, 0, none⟩), .int .i64 (x : Nat)] 78) := by rw [← hYe]; exact heap_alloc_new _ _
        have hxm : x ∈ ch r := List.mem_of_getElem? hxk
        have hxn := HT.out.2.2.2.2.2.2 x hxm
        have hkx := HJ.out.2.2.2 x (HT.out.1 (by trivial) x hxm)
        obtain ⟨v, hv⟩ := Option.isSome_iff_exists.1 hkx.1
        have hvl : vlv kv x = v := by simp [vlv, hv]
        have hvb : 0 ≤ v ∧ v ≤ mst := by rw [← hvl]; exact ⟨hkx.2.1, hkx.2.2.1⟩
        have hrw : (Lit.int .i64 (x : Nat)).wf = true := by have h := wrap64_wf (x : Nat); rwa [IntWalk.wrap64_in _ (by have := HT.out.2.2.2.2.1; omega)] at h
        have EX : Hid (∀ V, Below Y.heap.size Y V → V.cell? ⟨bb, 0, none⟩ = some (.func (.func bf) #[] #[]) ∧ V.cell? ⟨kb, 0, none⟩ = some (.map (some km)) ∧ V.cell? ⟨wr.heap.size, 0, none⟩ = some (.pointer (some ⟨cb, 0, none⟩)) ∧ V.cell? ⟨wr.heap.size, 1, none⟩ = some (.int .i64 (x : Nat)) ∧ (Instr.lookup 92 (.map (some km)) (.int .i64 (x : Nat)) false).run Tryz.prog V = .ok (.int .i64 v) V) := Lib.hid fun V hV => by
          have hZV : Below Z.heap.size Z V := hbY.trans (hV.mono hbY.size)
          have h1 := (hZV.block _ (Array.getElem?_eq_some_iff.1 H.out.2.2.2.1).1).trans H.out.2.2.2.1
          have h2 := (hZV.block _ (Array.getElem?_eq_some_iff.1 H.out.2.2.2.2.1).1).trans H.out.2.2.2.2.1
          have h3 := (hV.block _ (Array.getElem?_eq_some_iff.1 hxY).1).trans hxY
          have hl := (H.out.2.2.2.2.2.1.below hZV).look knownTy (x : Nat) hrw
          rw [kvF_at, hv] at hl
          exact ⟨cell_of_row V _ 0 _ _ (0, 0) h1, cell_of_row V _ 0 _ _ (0, 0) h2, cell_of_row V _ 0 _ _ (0, 0) h3, cell_of_row V _ 1 _ _ (0, 0) h3, hl⟩
        have HID : Hid (∀ V, Below Y.heap.size Y V → Calls Tryz.prog 40 #[.agg #[.pointer (some ⟨cb, 0, none⟩), .int .i64 (x : Nat)]] V fun e w' => e = .returned (.int .i64 (x : Nat)) ∧ Below V.heap.size V w') := Lib.hid fun V hV => pid_cl (H.out.2.2.2.2.2.2.1.below (hbY.trans (hV.mono hbY.size))) x
        have hafm : 0 ≤ f a v ∧ f a v ≤ a + v := HBF.out.le a v HR.out.2.2.1 hvb.1
        have HBI : Hid (∀ V, Calls Tryz.prog bf #[.int .i64 a, .int .i64 v] V fun x W' => x = .returned (.int .i64 (f a v)) ∧ W' = V) := Lib.hid fun V => HBF.out.is a v V ⟨HR.out.2.2.1, by have h1 := HR.out.2.2.2; have h2 := hP28; unfold mst at *; omega⟩ hvb
        have HYY := Lib.hid (And.intro hbY (And.intro hxk hvl))
        have HYe := Lib.hid hYe
        have HJL := Lib.hid hjl
        have eg := HBF.out.eg
        clear hbwY hbY hxY hxm hxn hkx hv hvl hvb hrw hafm hYe hxk
        go_wp2_with fail
        rw [HYe.out]
        have hS : Below Y.heap.size Y Y.drew := (Below.refl _ _).drew
        clear e0 e1 f1 f2
        refine wp_region_held (S := (fun W => Below Y.heap.size Y W)) (by kernel_rfl) ?_
        change wpAnyH _ _ _ _ _ 8 (List.replicate 8 false).toArray _ Y.drew
        simp only [List.replicate_succ, List.replicate_zero]
        refine any_take (i := 0) (some 20) (.func (.func bf) #[] #[]) rfl (by rfl) (by kernel_rfl) (by kernel_rfl) (by kernel_rfl) (fun _ _ _ h => h) (Or.inl ⟨by kernel_rfl, (fun W hw => by obtain ⟨n0_, n1_, n2_, n3_, n4_⟩ := EX.out W hw; clear hw; go_simp)⟩) hS ?_
        simp only [Act.put, List.setIfInBounds_toArray, List.set_cons_zero, List.set_cons_succ]
        refine any_take (i := 1) (some 21) (.int .i64 a) rfl (by rfl) (by kernel_rfl) (by kernel_rfl) (by kernel_rfl) (fun _ _ _ h => h) (Or.inl ⟨by kernel_rfl, (fun W hw => by clear hw; go_simp)⟩) hS ?_
        simp only [Act.put, List.setIfInBounds_toArray, List.set_cons_zero, List.set_cons_succ]
        refine any_take (i := 2) (some 22) (.map (some km)) rfl (by rfl) (by kernel_rfl) (by kernel_rfl) (by kernel_rfl) (fun _ _ _ h => h) (Or.inl ⟨by kernel_rfl, (fun W hw => by obtain ⟨n0_, n1_, n2_, n3_, n4_⟩ := EX.out W hw; clear hw; go_simp)⟩) hS ?_
        simp only [Act.put, List.setIfInBounds_toArray, List.set_cons_zero, List.set_cons_succ]
        refine any_take (i := 3) (some 23) (.agg #[.pointer (some ⟨cb, 0, none⟩), .int .i64 (x : Nat)]) rfl (by rfl) (by kernel_rfl) (by kernel_rfl) (by kernel_rfl) (fun _ _ _ h => h) (Or.inl ⟨by kernel_rfl, (fun W hw => by obtain ⟨n0_, n1_, n2_, n3_, n4_⟩ := EX.out W hw; clear hw; go_simp)⟩) hS ?_
        simp only [Act.put, List.setIfInBounds_toArray, List.set_cons_zero, List.set_cons_succ]
        refine wpAnyH_all (rs := [4]) (by kernel_rfl) (by simp) fun q' hq' => ?_
        obtain rfl : q' = 4 := by simpa using hq'
        refine ops_call (d := some 24) rfl (by rfl) (by kernel_rfl) (by go_simp) ((HID.out _ hS).mono ?_)
        rintro y w6 ⟨rfl, hb6⟩
        have hS6 : Below Y.heap.size Y w6 := hS.trans (hb6.mono hS.size)
        refine ⟨_, rfl, hS6, ?_⟩
        simp only [Act.put, List.setIfInBounds_toArray, List.set_cons_zero, List.set_cons_succ]
        refine any_take (i := 5) (some 25) (.int .i64 v) rfl (by rfl) (by kernel_rfl) (by kernel_rfl) (by kernel_rfl) (fun _ _ _ h => h) (Or.inl ⟨by kernel_rfl, (fun W hw => by obtain ⟨n0_, n1_, n2_, n3_, n4_⟩ := EX.out W hw; clear hw; go_simp)⟩) hS6 ?_
        simp only [Act.put, List.setIfInBounds_toArray, List.set_cons_zero, List.set_cons_succ]
        refine wpAnyH_all (rs := [6]) (by kernel_rfl) (by simp) fun q' hq' => ?_
        obtain rfl : q' = 6 := by simpa using hq'
        refine ops_call (d := some 26) (f := bf) (args := #[.int .i64 a, .int .i64 v]) rfl (by rfl) (by kernel_rfl) (by clear hS hS6 hb6; go_simp) ((HBI.out _).mono ?_)
        rintro y w7 ⟨rfl, rfl⟩
        refine ⟨_, rfl, hS6, ?_⟩
        simp only [Act.put, List.setIfInBounds_toArray, List.set_cons_zero, List.set_cons_succ]
        refine any_take (i := 7) (some 8) (.int .i64 (f a v)) rfl (by rfl) (by kernel_rfl) (by kernel_rfl) (by kernel_rfl) (fun _ _ _ h => h) (Or.inl ⟨by kernel_rfl, (fun W hw => by clear hw; go_simp)⟩) hS6 ?_
        simp only [Act.put, List.setIfInBounds_toArray, List.set_cons_zero, List.set_cons_succ]
        refine wpAnyH_done (by kernel_rfl) ?_ _
        have H7 := Lib.hid hS6
        clear hS hS6 hb6 EX HID HBI eg
        go_wp2_with fail
        go_roundg (P2 - (j + 1))
        case rel =>
          refine ⟨j + 1, by go_num, HJL.out, by omega, ?_, HYY.out.1.trans (H7.out.mono HYY.out.1.size)⟩
          rw [List.take_add_one, HYY.out.2.1, List.map_append, List.foldl_append, HR.out.2.1]
          simp [HYY.out.2.2]
        case measure => have := HJL.out; have := HJN.out; omega
      · have f1 : decide ((j : Int) < (P2 : Int)) = false := decide_eq_false (by omega)
        have f2 : decide (j < P2) = false := decide_eq_false hjl
        have hje : j = P2 := by omega
        have hfa : a = ((ch r).map (vlv kv)).foldl f 0 := by
          rw [← HR.out.2.1, hje, HP2.out, List.take_length]
        have hbr := HR.out.1
        have hab := HR.out.2.2
        have hmr := H.out.2.2.2.2.2.1.below hbr
        have hxr := (hbr.block _ (Array.getElem?_eq_some_iff.1 H.out.2.1).1).trans H.out.2.1
        have hkr := (hbr.block _ (Array.getElem?_eq_some_iff.1 H.out.2.2.2.2.1).1).trans H.out.2.2.2.2.1
        have hrn := HT.out.2.2.1
        have hn5 := HT.out.2.2.2.2.1
        have hrw : (Lit.int .i64 (r : Nat)).wf = true := by have h := wrap64_wf (r : Nat); rwa [IntWalk.wrap64_in _ (by omega)] at h
        have hf6 := HF.out
        have hb1 : Below W.heap.size W Z := H.out.1
        have hmz : km < Z.heap.size := Nat.lt_of_lt_of_le hf6.2.2.2.2 hb1.size
        have EX : Hid (∀ V, Else (fun k => k = km) wr V → V.cell? ⟨kb, 0, none⟩ = some (.map (some km)) ∧ V.cell? ⟨W.heap.size, 0, none⟩ = some (.pointer (some ⟨cb, 0, none⟩)) ∧ V.cell? ⟨W.heap.size, 1, none⟩ = some (.int .i64 (r : Nat))) := Lib.hid fun V hV => by
          have h1 := (hV.block _ (Array.getElem?_eq_some_iff.1 hkr).1 (fun h => hf6.1.2.2.1 h)).trans hkr
          have h2 := (hV.block _ (Array.getElem?_eq_some_iff.1 hxr).1 (fun h => by have := hf6.2.2.2.2; omega)).trans hxr
          exact ⟨cell_of_row V _ 0 _ _ (0, 0) h1, cell_of_row V _ 0 _ _ (0, 0) h2, cell_of_row V _ 1 _ _ (0, 0) h2⟩
        have HID : Hid (∀ V, Below wr.heap.size wr V → Calls Tryz.prog 40 #[.agg #[.pointer (some ⟨cb, 0, none⟩), .int .i64 (r : Nat)]] V fun e w' => e = .returned (.int .i64 (r : Nat)) ∧ Below V.heap.size V w') := Lib.hid fun V hV => pid_cl (H.out.2.2.2.2.2.2.1.below (hbr.trans (hV.mono hbr.size))) r
        have HE := Lib.hid (And.intro hfa (And.intro hbr (And.intro hmr (And.intro hkr (And.intro hrw hmz)))))
        have hwr : IntKind.i64.wrap (a + 1) = a + 1 := IntWalk.i64_in _ (by unfold mst at hab; omega)
        have hwk : wrap64 (a + 1) = a + 1 := IntWalk.wrap64_in _ (by unfold mst at hab; omega)
        have hab0 : 0 ≤ a + 1 := by omega
        have HWR := Lib.hid (And.intro hwr hwk)
        clear hfa hbr hab hmr hxr hkr hrn hn5 hrw hf6 hb1 hmz hje hwr hwk
        go_wp2_with fail
        have hB : Below wr.heap.size wr wr.drew := (Below.refl _ _).drew
        have hS : Else (fun k => k = km) wr wr.drew := Else.of_below hB
        refine wp_region_held (S := (fun W => Else (fun k => k = km) wr W)) (by kernel_rfl) ?_
        change wpAnyH _ _ _ _ _ 8 (List.replicate 8 false).toArray _ wr.drew
        simp only [List.replicate_succ, List.replicate_zero]
        refine any_take (i := 0) (some 28) (.map (some km)) rfl (by rfl) (by kernel_rfl) (by kernel_rfl) (by kernel_rfl) (fun _ _ _ h => h) (Or.inl ⟨by kernel_rfl, (fun W hw => by obtain ⟨n0_, n1_, n2_⟩ := EX.out W hw; clear hw; go_simp)⟩) hS ?_
        simp only [Act.put, List.setIfInBounds_toArray, List.set_cons_zero, List.set_cons_succ]
        refine any_take (i := 1) (some 29) (.pointer (some ⟨W.heap.size, 0, none⟩)) rfl (by rfl) (by kernel_rfl) (by kernel_rfl) (by kernel_rfl) (fun _ _ _ h => h) (Or.inl ⟨by kernel_rfl, (fun W hw => by clear hw; go_simp)⟩) hS ?_
        simp only [Act.put, List.setIfInBounds_toArray, List.set_cons_zero, List.set_cons_succ]
        refine any_take (i := 2) (some 30) (.agg #[.pointer (some ⟨cb, 0, none⟩), .int .i64 (r : Nat)]) rfl (by rfl) (by kernel_rfl) (by kernel_rfl) (by kernel_rfl) (fun _ _ _ h => h) (Or.inl ⟨by kernel_rfl, (fun W hw => by obtain ⟨n0_, n1_, n2_⟩ := EX.out W hw; clear hw; go_simp)⟩) hS ?_
        simp only [Act.put, List.setIfInBounds_toArray, List.set_cons_zero, List.set_cons_succ]
        refine any_take (i := 4) (some 32) (.int .i64 a) rfl (by rfl) (by kernel_rfl) (by kernel_rfl) (by kernel_rfl) (fun _ _ _ h => h) (Or.inl ⟨by kernel_rfl, (fun W hw => by clear hw; go_simp)⟩) hS ?_
        simp only [Act.put, List.setIfInBounds_toArray, List.set_cons_zero, List.set_cons_succ]
        refine any_take (i := 5) (some 33) (.int .i64 (a + 1)) rfl (by rfl) (by kernel_rfl) (by kernel_rfl) (by kernel_rfl) (fun _ _ _ h => h) (Or.inl ⟨by kernel_rfl, (fun W hw => by clear hw; have hwr := HWR.out.1; have hwk := HWR.out.2; go_simp)⟩) hS ?_
        simp only [Act.put, List.setIfInBounds_toArray, List.set_cons_zero, List.set_cons_succ]
        refine any_take (i := 6) (some 34) (.int .i64 (capm a)) rfl (by rfl) (by kernel_rfl) (by kernel_rfl) (by kernel_rfl) (fun _ _ _ h => h) (Or.inl ⟨by kernel_rfl, (fun W hw => exec_min (.tmp 33) (.const (.int .i64 1099511627776)) 3 rfl (min_run W (a + 1) 1099511627776) (by rfl) (by rfl))⟩) hS ?_
        simp only [Act.put, List.setIfInBounds_toArray, List.set_cons_zero, List.set_cons_succ]
        refine wpAnyH_all (rs := [3]) (by kernel_rfl) (by simp) fun q' hq' => ?_
        obtain rfl : q' = 3 := by simpa using hq'
        refine ops_call (d := some 31) rfl (by rfl) (by kernel_rfl) (by go_simp) ((HID.out _ hB).mono ?_)
        rintro y w5 ⟨rfl, hb5⟩
        have hB5 : Below wr.heap.size wr w5 := hB.trans (hb5.mono hB.size)
        have hS5 : Else (fun k => k = km) wr w5 := Else.of_below hB5
        refine ⟨_, rfl, hS5, ?_⟩
        simp only [Act.put, List.setIfInBounds_toArray, List.set_cons_zero, List.set_cons_succ]
        obtain ⟨w8, hrun, hm8, hg8, _, _⟩ := (HE.out.2.2.1.below hB5).put knownTy (by have := HJ.out.2.2.1; have := HT.out.2.2.2.1; have := HT.out.2.2.2.2.1; omega) (r : Nat) HE.out.2.2.2.2.1 (.int .i64 (capm a))
        rw [kvF_upd] at hm8
        have hE8 : Else (fun k => k = km) w5 w8 := Else.grown hg8 fun k hk => by cases hk; rfl
        have hS8 : Else (fun k => k = km) wr w8 := hS5.trans hE8
        have hm8' : ∃ S, MapF (kvF (upk kv r (capm a))) S (kk + 1) km w8 := ⟨_, hm8⟩
        have HM8 := Lib.hid (And.intro hm8' hS8)
        clear hm8 hm8' hg8 hE8
        refine wpAnyH_all (rs := [7]) (by kernel_rfl) (by simp) fun q' hq' => ?_
        obtain rfl : q' = 7 := by simpa using hq'
        refine ops_skip (w' := w8) rfl (by kernel_rfl) (by clear hS hS5 hB hB5 hb5; go_simp) hS8 rfl ?_
        refine wpAnyH_done (by kernel_rfl) ?_ _
        clear hrun hS hS5 hS8 hB hB5 hb5 EX HID
        go_wp2_with fail
        obtain ⟨hfa, hbr, hmr, hkr, hrw, hmz⟩ := HE.out
        have hZ8 : Else (fun k => k = km) Z w8 := (Else.of_below hbr).trans HM8.out.2
        have hf6 := HF.out
        have hblk : ∀ k, k < W.heap.size → k ≠ km → w8.heap[k]? = Z.heap[k]? := fun k hk hne => hZ8.block k (Nat.lt_of_lt_of_le hk H.out.1.size) fun h => hne h
        refine bodyPost_ret (results_tmp rfl _ _ _) rfl ⟨true, rfl, ⟨(hblk fb hf6.2.1 hf6.1.1).trans H.out.2.2.1, (fun _ x c hm => ?_), (fun h => by cases h), (hblk bb hf6.2.2.1 hf6.1.2.1).trans H.out.2.2.2.1, (hblk kb hf6.2.2.2.1 hf6.1.2.2.1).trans H.out.2.2.2.2.1, ?_⟩, (Else.of_below H.out.1).trans (hZ8.mono fun k hk => .inr hk)⟩
        · rcases List.mem_append.1 hm with hm | hm
          · exact HJ.out.1 (by trivial) x c hm
          · obtain ⟨rfl, rfl⟩ : x = r ∧ c = true := by simpa using hm
            rfl
        · obtain ⟨z, hz⟩ := HM8.out.1
          refine ⟨_, z, kk + 1, by rw [List.length_append, List.length_singleton]; have := HJ.out.2.2.1; omega, hz, KvOk.put HBF.out HJ.out.2.2.2 HT.out.2.1 (HT.out.1 (by trivial)) HT.out.2.2.2.2.2.1 ?_⟩
          rw [hfa]
          rfl
theorem ch_of (h : Js G n col ro kn E []) (hP : Gp G) {i z : Nat} {p : Gn} (hi : i < n) (hc : Cl G E i z) (hp : G[z]? = some p) (p1 : p.1 ≠ 1) : chR G kn ro (ro i) = p.2.2.2.map ro := by
  have hlen := h.len
  obtain ⟨k, q, hk, hq, q1, hf, hck⟩ := h.known hi hc hp p1
  unfold chR
  rw [hk]
  have e : partsO G (some k) = q.2.2.2 := by simp [partsO, hq]
  rw [e]
  have hl : q.2.2.2.length = p.2.2.2.length := hf.2
  refine List.ext_getElem (by rw [List.length_map, List.length_map]; exact hl) fun t ht1 ht2 => ?_
  rw [List.length_map] at ht1 ht2
  rw [List.getElem_map, List.getElem_map]
  have ha := (hP q (List.mem_of_getElem? hq)).2 _ (List.getElem_mem ht1)
  have hb := (hP p (List.mem_of_getElem? hp)).2 _ (List.getElem_mem ht2)
  rw [h.same (by omega) (by omega)]
  exact .part (hck.symm.trans hc) hq hp q1 p1 hf.1 hf.2 (List.getElem?_eq_getElem ht1) (List.getElem?_eq_getElem ht2)
theorem ch_bare (h : Js G n col ro kn E []) {i : Nat} (hi : i < n) (hb : ∀ (z : Nat) (p : Gn), Cl G E i z → G[z]? = some p → p.1 = 1) : chR G kn ro (ro i) = [] := by
  have hlen := h.len
  unfold chR
  cases hk : (kn (ro i)).1 with
  | none => rfl
  | some z =>
    obtain ⟨p, hp, p1, hc⟩ := h.md.some i z (by omega) hk
    exact absurd (hb z p (h.jn.done.2 (.inr ⟨by omega, lt_of_get hp, hc.symm⟩)) hp) p1
structure MsN (G : List Gn) (E : List (Nat × Nat)) (f : Int → Int → Int) (R : Nat → Prop) (val : Nat → Int) : Prop where
  whole : ∀ i, R i → i < G.length → ∀ (z : Nat) (p : Gn), Cl G E i z → G[z]? = some p → p.1 ≠ 1 → val i = msf f (p.2.2.2.map val) ∧ ∀ u ∈ p.2.2.2, R u
  bare : ∀ i, R i → i < G.length → (∀ (z : Nat) (p : Gn), Cl G E i z → G[z]? = some p → p.1 = 1) → val i = msf f []
  vars : ∀ v i, gvar G v = some i → R i
def MePost (O : Nat → Prop) (w : World) (cb : Nat) (G : List Gn) (E : List (Nat × Nat)) (st fs : Int) (m : Nat) (f : Int → Int → Int) (i : Nat) (x : Ending) (w' : World) : Prop :=
  ∃ (ok : Bool) (q : Int) (k : Nat), x = .returned (.tuple #[.int .i64 q, .bool ok]) ∧ (ok = true ↔ FinC G E) ∧ (ok = false → q = 0) ∧ (ok = true → ∃ R val, MsN G E f R val ∧ q = val i) ∧ k ≤ 500 * G.length + 100 ∧ CsM O w' cb G E st (fs + k) m ∧ Else O w w'
set_option maxHeartbeats 4000000 in
theorem measure_cs (h : CsM O w cb G E st fs m) (hfs : 0 ≤ fs ∧ fs ≤ 18000000000) (hG : G.length ≤ 400000) (hgn : GN G) (hgl : GL G) (hB : BothF f bf) (v : Int) (i : Nat) (hv : gvar G v = some i) :
    Calls Tryz.prog 44 #[.pointer (some ⟨cb, 0, none⟩), .int .i64 v, .func (.func bf) #[] #[]] w (MePost O w cb G E st fs m f i) := by
  obtain ⟨⟨A, kn, nx, col, ro, hC, hJ, hR, hBr, hm⟩, h2, h3⟩ := h
  have hmm := @run_makeMap Tryz.prog
  have hil := gvar_lt hv
  have hwv : (Lit.int .i64 v).wf = true := hgn.2 v ((gvar_names G v).1 (by rw [hv]; rfl))
  obtain ⟨w1, hw1⟩ : ∃ w1, w.alloc (.cells #[.func (.func bf) #[] #[]] 88) = w1 := ⟨_, rfl⟩
  have hb1 : Below w.heap.size w w1 := by rw [← hw1]; exact (Below.refl _ _).alloc (Nat.le_refl _) _
  have hx1 : w1.heap[w.heap.size]? = some (.cells #[.func (.func bf) #[] #[]] 88) := by rw [← hw1]; exact heap_alloc_new _ _
  have HPT := cpart_cl (hC.below hb1) (by omega) v hwv (fun z hz => gvar_lt hz)
  rw [hv] at HPT
  have HPT := Lib.hid HPT
  have hdg : dg G.length ≤ 21 := Un.dg_le (by omega)
  have H := Lib.hid (And.intro hC (And.intro hJ (And.intro hR (And.intro hBr (And.intro hm (And.intro h2 (And.intro h3 (And.intro hb1 (And.intro hx1 (And.intro hgn (And.intro hgl (And.intro hfs (And.intro hG (And.intro hil (And.intro hv hdg)))))))))))))))
  have HBF := Lib.hid hB
  have HW1 := Lib.hid hw1
  clear hC hJ hR hBr hm h2 h3 hb1 hx1 hgn hgl hfs hG hil hv hdg hwv hB hw1
  go_enter Tryz.func44, Tryz.ntmps44
  go_wp2_with fail
  rw [HW1.out]
  refine HPT.out.mono ?_
  clear HPT
  rintro x w2 ⟨k2, rfl, hk2, hC2, hE2⟩
  obtain ⟨r, hr⟩ : ∃ r, ro i = r := ⟨_, rfl⟩
  rw [hr]
  unfold ptV
  dsimp only [Option.map_some]
  obtain ⟨w3, hw3⟩ : ∃ w3, (((w2.alloc (.cells #[.pointer (some ⟨cb, 0, none⟩), .int .i64 (r : Nat)] 78)).alloc (.cells #[.bool true] 4)).alloc (Obj.map #[] 0)).alloc (.cells #[.map (some (w2.heap.size + 1 + 1))] 92) = w3 := ⟨_, rfl⟩
  have hs2 : w1.heap.size ≤ w2.heap.size := hE2.size
  have hs3 : w3.heap.size = w2.heap.size + 4 := by rw [← hw3]; simp
  have hb3 : Below w2.heap.size w2 w3 := by rw [← hw3]; exact ((((Below.refl _ _).alloc (Nat.le_refl _) _).alloc (by simp) _).alloc (by simp; omega) _).alloc (by simp; omega) _
  have hp3 : w3.heap[w2.heap.size]? = some (.cells #[.pointer (some ⟨cb, 0, none⟩), .int .i64 (r : Nat)] 78) := by
    rw [← hw3]
    exact (Below.heap_alloc _ _ _ (by simp; omega)).trans ((Below.heap_alloc _ _ _ (by simp; omega)).trans ((Below.heap_alloc _ _ _ (by simp)).trans (heap_alloc_new _ _)))
  have hf3 : w3.heap[w2.heap.size + 1]? = some (.cells #[.bool true] 4) := by
    rw [← hw3]
    have h := heap_alloc_new (w2.alloc (.cells #[.pointer (some ⟨cb, 0, none⟩), .int .i64 (r : Nat)] 78)) (.cells #[.bool true] 4)
    rw [World.size_alloc] at h
    exact (Below.heap_alloc _ _ _ (by simp)).trans ((Below.heap_alloc _ _ _ (by simp)).trans h)
  have hm3 : MapF (kvF fun _ => none) 0 0 (w2.heap.size + 2) w3 := by
    have h := (MapF.made ((w2.alloc (.cells #[.pointer (some ⟨cb, 0, none⟩), .int .i64 (r : Nat)] 78)).alloc (.cells #[.bool true] 4))).kept (World.grownBy_alloc _ (.cells #[.map (some (w2.heap.size + 1 + 1))] 92) none) (by simp)
    rw [hw3, World.size_alloc, World.size_alloc] at h
    refine h.ext fun n _ => ?_
    unfold kvF
    split <;> rfl
  have hk3 : w3.heap[w2.heap.size + 3]? = some (.cells #[.map (some (w2.heap.size + 2))] 92) := by
    rw [← hw3]
    have h := heap_alloc_new (((w2.alloc (.cells #[.pointer (some ⟨cb, 0, none⟩), .int .i64 (r : Nat)] 78)).alloc (.cells #[.bool true] 4)).alloc (Obj.map #[] 0)) (.cells #[.map (some (w2.heap.size + 1 + 1))] 92)
    rw [World.size_alloc, World.size_alloc, World.size_alloc] at h
    exact h
  have hlow : ∀ k, A.D k ∨ A.F cb k → k < w.heap.size := fun k hk => H.out.1.lt hk
  have hb13 : Else A.S w1 w3 := hE2.trans (Else.of_below hb3)
  have hw1s : w.heap.size < w1.heap.size := (Array.getElem?_eq_some_iff.1 H.out.2.2.2.2.2.2.2.2.1).1
  have hbb3 := (hb13.block _ hw1s (fun h => by have := hlow _ (.inr (.inl h)); omega)).trans H.out.2.2.2.2.2.2.2.2.1
  have hJ3 : MsJ (w2.heap.size + 1) w.heap.size (w2.heap.size + 3) (w2.heap.size + 2) bf f (chR G kn ro) [] true w3 := ⟨hf3, (fun _ x b hm => by cases hm), (fun h => by cases h), hbb3, hk3, fun _ => none, 0, 0, Nat.le_refl _, hm3, fun x hx => by cases hx⟩
  have HWK := walk_any (gf := 62) (lb := #[.pointer (some ⟨w2.heap.size + 1, 0, none⟩), .pointer (some ⟨w.heap.size, 0, none⟩), .pointer (some ⟨w2.heap.size + 3, 0, none⟩)]) (T := fun k => (k = w2.heap.size + 1 ∨ k = w2.heap.size + 2) ∨ k = w.heap.size ∨ k = w2.heap.size + 3) (J := MsJ (w2.heap.size + 1) w.heap.size (w2.heap.size + 3) (w2.heap.size + 2) bf f (chR G kn ro)) (enters_of Tryz.func62 (by kernel_rfl) rfl) (hC2.below hb3) (by have h1 := H.out.2.2.2.2.2.2.2.2.2.2.2.1; have h2 := H.out.2.2.2.2.2.2.2.2.2.2.2.2.2.2.2; omega) (by have h1 := H.out.2.2.2.2.2.2.2.2.2.2.2.2.1; omega) H.out.2.2.2.2.2.2.2.2.2.1 H.out.2.2.2.2.2.2.1 (fun i hi => (H.out.2.1.rt i hi).1) (fun D W r b P k a1 a2 a3 a4 a5 a6 a7 => (measure1_any (w2.heap.size + 1) w.heap.size (w2.heap.size + 3) (w2.heap.size + 2) (by omega) HBF.out (chR G kn ro) (by have h1 := H.out.2.2.2.2.2.2.2.2.2.2.2.2.1; omega) (chR_le H.out.2.2.2.2.2.2.1) (chR_lt H.out.2.2.2.2.2.2.1 fun i hi => (H.out.2.1.rt i hi).1) D W r b P k a1 a2 a3 a4 a5 a6 a7).mono fun x w' ⟨g, b1, b2, b3⟩ => ⟨g, b1, b2, b3.mono fun k hk => .inl hk⟩) (fun k hk => ⟨by omega, fun hk2 => by have := hlow k hk2; omega⟩) (fun D g S W W' hj he hs => by
    obtain ⟨j1, j2, j3, j4, j5, kv, S', kk, j6, j7, j8⟩ := hj
    exact ⟨(he.block _ (Array.getElem?_eq_some_iff.1 j1).1 (fun hS => hs _ hS (.inl (.inl rfl)))).trans j1, j2, j3, (he.block _ (Array.getElem?_eq_some_iff.1 j4).1 (fun hS => hs _ hS (.inr (.inl rfl)))).trans j4, (he.block _ (Array.getElem?_eq_some_iff.1 j5).1 (fun hS => hs _ hS (.inr (.inr rfl)))).trans j5, kv, S', kk, j6, j7.block (he.block _ j7.lt fun hS => hs _ hS (.inl (.inr rfl))), j8⟩) hJ3
  have HWK := Lib.hid HWK
  have H3 := Lib.hid (And.intro hk2 (And.intro hb13 (And.intro hs3 (And.intro hp3 (And.intro hs2 (And.intro hw1s (And.intro hlow hr)))))))
  have HW3 := Lib.hid hw3
  clear hk2 hC2 hE2 hr hw3 hs2 hs3 hb3 hp3 hf3 hm3 hk3 hlow hb13 hw1s hbb3 hJ3
  go_wp2_with fail
  rw [HW3.out]
  refine HWK.out.mono ?_
  clear HWK
  rintro x w4 ⟨g, e, S, D, f4, q4, rfl, hC4, hf4, hq4, hJ4, hE4, hdf4, htd4, hnd4, hdl4, hg4⟩
  obtain ⟨j1, j2, j3, j4, j5, kv, S', kk, j6, j7, j8⟩ := hJ4
  have y0 : w4.cell? ⟨w2.heap.size + 1, 0, none⟩ = some (.bool g) := cell_of_row w4 _ 0 _ _ (0, 0) j1
  have hEw : Else A.S w w4 := ((((Else.of_below H.out.2.2.2.2.2.2.2.1).trans H3.out.2.1).mono fun k hk => (.inl hk : A.S k ∨ _)).trans hE4).old fun k hk => hk.imp id fun hk => by
    have h1 := H3.out.2.2.2.2.1
    have h2 := H3.out.2.2.2.2.2.1
    omega
  have hp4 := (hE4.block _ (Array.getElem?_eq_some_iff.1 H3.out.2.2.2.1).1 (fun h => by
    have h1 := H3.out.2.2.2.2.1
    have h2 := H3.out.2.2.2.2.2.1
    rcases h with h | h
    · have := H3.out.2.2.2.2.2.2.1 _ (.inr (.inl h)); omega
    · omega)).trans H3.out.2.2.2.1
  have hkf : ∀ k2 f4 : Nat, k2 ≤ dg G.length → f4 ≤ 400 * G.length → k2 + f4 ≤ 500 * G.length + 100 := fun a b h1 h2 => by have := H.out.2.2.2.2.2.2.2.2.2.2.2.2.2.2.2; omega
  have e2 : fs + ((k2 + f4 : Nat) : Int) = fs + (k2 : Nat) + (f4 : Nat) := by push_cast; omega
  have H4 := Lib.hid (And.intro hC4 (And.intro hf4 (And.intro hEw (And.intro hdf4 (And.intro htd4 (And.intro hg4 (And.intro j2 (And.intro j3 (And.intro j5 (And.intro j7 (And.intro j8 (And.intro hp4 (And.intro hdl4 (And.intro hkf e2))))))))))))))
  clear hC4 hf4 hq4 hE4 hdf4 htd4 hnd4 hdl4 hg4 j1 j2 j3 j4 j5 j6 j7 j8 hEw hp4 hkf e2
  cases g with
  | false =>
    go_wp2_with fail
    obtain ⟨hC, hJ, hR, hBr, hm, h2, h3, _, _, hgn, hgl, _, _, _, _, _⟩ := H.out
    refine bodyPost_ret (results_tmp2 rfl _ _ _) rfl ⟨false, 0, k2 + f4, rfl, ⟨(fun h => by cases h), (fun hfin => ?_)⟩, (fun _ => rfl), (fun h => by cases h), H4.out.2.2.2.2.2.2.2.2.2.2.2.2.2.1 _ _ H3.out.1 H4.out.2.1, CsM.turned (by rw [H4.out.2.2.2.2.2.2.2.2.2.2.2.2.2.2]; exact H4.out.1) H4.out.2.2.1 hJ hR hBr hm h2 h3, H4.out.2.2.1.mono fun k hk => hC.own k (.inr (.inl hk))⟩
    obtain ⟨x, hx⟩ := H4.out.2.2.2.2.2.2.2.1 (by trivial)
    obtain ⟨k1, k2'⟩ := H4.out.2.2.2.2.1.known _ _ hx
    have hnr : ¬ Acc (Chl (chR G kn ro)) x := H4.out.2.2.2.1.ff _ k1 k2'
    refine absurd ⟨x, fun y hy => ?_⟩ hnr
    obtain ⟨u, hu, rfl⟩ := chR_ro (n := G.length) h3 x y hy
    exact (nx_roots hJ h3 hu).1 (acc_all hJ.jn.noClash hgn hgl hfin u hu)
  | true =>
    obtain ⟨rfl, hall⟩ := H4.out.2.2.2.2.2.1 (by trivial)
    have hdt : ∀ x b, (x, b) ∈ D → b = true := H4.out.2.2.2.2.2.2.1 (by trivial)
    have hri : (r, true) ∈ D := by
      obtain ⟨b, hb⟩ := hall v i H.out.2.2.2.2.2.2.2.2.2.2.2.2.2.2.1
      rw [H3.out.2.2.2.2.2.2.2] at hb
      have := hdt _ _ hb
      rw [this] at hb
      exact hb
    have hkr := H4.out.2.2.2.2.2.2.2.2.2.2.1 r hri
    obtain ⟨q, hq⟩ := Option.isSome_iff_exists.1 hkr.1
    have hrn : r < G.length := H4.out.2.2.2.2.2.2.2.2.2.2.2.2.1 _ _ hri
    have hrw : (Lit.int .i64 (r : Nat)).wf = true := by have h := wrap64_wf (r : Nat); rwa [IntWalk.wrap64_in _ (by have := H.out.2.2.2.2.2.2.2.2.2.2.2.2.1; omega)] at h
    have EX : Hid (∀ V, Below w4.heap.size w4 V → V.cell? ⟨w2.heap.size + 3, 0, none⟩ = some (.map (some (w2.heap.size + 2))) ∧ V.cell? ⟨w2.heap.size, 0, none⟩ = some (.pointer (some ⟨cb, 0, none⟩)) ∧ V.cell? ⟨w2.heap.size, 1, none⟩ = some (.int .i64 (r : Nat)) ∧ (Instr.lookup 92 (.map (some (w2.heap.size + 2))) (.int .i64 (r : Nat)) false).run Tryz.prog V = .ok (.int .i64 q) V) := Lib.hid fun V hV => by
      have h1 := (hV.block _ (Array.getElem?_eq_some_iff.1 H4.out.2.2.2.2.2.2.2.2.1).1).trans H4.out.2.2.2.2.2.2.2.2.1
      have h2 := (hV.block _ (Array.getElem?_eq_some_iff.1 H4.out.2.2.2.2.2.2.2.2.2.2.2.1).1).trans H4.out.2.2.2.2.2.2.2.2.2.2.2.1
      have hl := (H4.out.2.2.2.2.2.2.2.2.2.1.below hV).look knownTy (r : Nat) hrw
      rw [kvF_at, hq] at hl
      exact ⟨cell_of_row V _ 0 _ _ (0, 0) h1, cell_of_row V _ 0 _ _ (0, 0) h2, cell_of_row V _ 1 _ _ (0, 0) h2, hl⟩
    have hC4 := H4.out.1
    have HID : Hid (∀ V, Below w4.heap.size w4 V → Calls Tryz.prog 40 #[.agg #[.pointer (some ⟨cb, 0, none⟩), .int .i64 (r : Nat)]] V fun e w' => e = .returned (.int .i64 (r : Nat)) ∧ Below V.heap.size V w') := Lib.hid fun V hV => pid_cl (hC4.below hV) r
    have HQ := Lib.hid (And.intro hall (And.intro hdt hq))
    clear hall hdt hri hkr hq hrn hrw hC4
    go_wp2_with fail
    have hS : Below w4.heap.size w4 w4.drew := (Below.refl _ _).drew
    refine wp_region_held (S := (fun W => Below w4.heap.size w4 W)) (by kernel_rfl) ?_
    change wpAnyH _ _ _ _ _ 6 (List.replicate 6 false).toArray _ w4.drew
    simp only [List.replicate_succ, List.replicate_zero]
    refine any_take (i := 0) (some 26) (.map (some (w2.heap.size + 2))) rfl (by rfl) (by kernel_rfl) (by kernel_rfl) (by kernel_rfl) (fun _ _ _ h => h) (Or.inl ⟨by kernel_rfl, (fun W hw => by obtain ⟨n0_, n1_, n2_, n3_⟩ := EX.out W hw; clear hw; go_simp)⟩) hS ?_
    simp only [Act.put, List.setIfInBounds_toArray, List.set_cons_zero, List.set_cons_succ]
    refine any_take (i := 1) (some 27) (.agg #[.pointer (some ⟨cb, 0, none⟩), .int .i64 (r : Nat)]) rfl (by rfl) (by kernel_rfl) (by kernel_rfl) (by kernel_rfl) (fun _ _ _ h => h) (Or.inl ⟨by kernel_rfl, (fun W hw => by obtain ⟨n0_, n1_, n2_, n3_⟩ := EX.out W hw; clear hw; go_simp)⟩) hS ?_
    simp only [Act.put, List.setIfInBounds_toArray, List.set_cons_zero, List.set_cons_succ]
    refine wpAnyH_all (rs := [2]) (by kernel_rfl) (by simp) fun q' hq' => ?_
    obtain rfl : q' = 2 := by simpa using hq'
    refine ops_call (d := some 28) rfl (by rfl) (by kernel_rfl) (by go_simp) ((HID.out _ hS).mono ?_)
    rintro y w6 ⟨rfl, hb6⟩
    have hS6 : Below w4.heap.size w4 w6 := hS.trans (hb6.mono hS.size)
    refine ⟨_, rfl, hS6, ?_⟩
    simp only [Act.put, List.setIfInBounds_toArray, List.set_cons_zero, List.set_cons_succ]
    refine any_take (i := 3) (some 29) (.int .i64 q) rfl (by rfl) (by kernel_rfl) (by kernel_rfl) (by kernel_rfl) (fun _ _ _ h => h) (Or.inl ⟨by kernel_rfl, (fun W hw => by obtain ⟨n0_, n1_, n2_, n3_⟩ := EX.out W hw; clear hw; go_simp)⟩) hS6 ?_
    simp only [Act.put, List.setIfInBounds_toArray, List.set_cons_zero, List.set_cons_succ]
    refine any_take (i := 4) (some 6) (.int .i64 q) rfl (by rfl) (by kernel_rfl) (by kernel_rfl) (by kernel_rfl) (fun _ _ _ h => h) (Or.inl ⟨by kernel_rfl, (fun W hw => by clear hw; go_simp)⟩) hS6 ?_
    simp only [Act.put, List.setIfInBounds_toArray, List.set_cons_zero, List.set_cons_succ]
    refine any_take (i := 5) (some 7) (.bool true) rfl (by rfl) (by kernel_rfl) (by kernel_rfl) (by kernel_rfl) (fun _ _ _ h => h) (Or.inl ⟨by kernel_rfl, (fun W hw => by clear hw; go_simp)⟩) hS6 ?_
    simp only [Act.put, List.setIfInBounds_toArray, List.set_cons_zero, List.set_cons_succ]
    refine wpAnyH_done (by kernel_rfl) ?_ _
    have H6 := Lib.hid hS6
    clear hS hS6 hb6 EX HID
    go_wp2_with fail
    obtain ⟨hC, hJ, hR, hBr, hm, h2, h3, _, _, hgn, hgl, _, _, _, _, _⟩ := H.out
    have hE6 : Else A.S w w6 := H4.out.2.2.1.trans (Else.of_below H6.out)
    have hfin : FinC G E := fun v i hvi => by
      obtain ⟨b, hb⟩ := HQ.out.1 v i hvi
      have hbt := HQ.out.2.1 _ _ hb
      subst hbt
      exact (nx_roots hJ h3 (gvar_lt hvi)).2 (H4.out.2.2.2.1.tt _ (H4.out.2.2.2.2.1.known _ _ hb).1)
    refine bodyPost_ret (results_tmp2 rfl _ _ _) rfl ⟨true, q, k2 + f4, rfl, ⟨(fun _ => hfin), (fun _ => rfl)⟩, (fun h => by cases h), (fun _ => ⟨(fun j => (ro j, true) ∈ D), (fun j => vlv kv (ro j)), ⟨?_, ?_, ?_⟩, ?_⟩), H4.out.2.2.2.2.2.2.2.2.2.2.2.2.2.1 _ _ H3.out.1 H4.out.2.1, CsM.turned (by rw [H4.out.2.2.2.2.2.2.2.2.2.2.2.2.2.2]; exact H4.out.1.below H6.out) hE6 hJ hR hBr hm h2 h3, hE6.mono fun k hk => hC.own k (.inr (.inl hk))⟩
    · intro j hj hjl z p hc hp p1
      obtain ⟨_, _, _, h5, h6⟩ := H4.out.2.2.2.2.2.2.2.2.2.2.1 _ hj
      rw [ch_of hJ h3 hjl hc hp p1] at h5 h6
      refine ⟨?_, fun u hu => h6 _ (List.mem_map_of_mem hu)⟩
      rw [List.map_map] at h5
      exact h5
    · intro j hj hjl hb
      obtain ⟨_, _, _, h5, _⟩ := H4.out.2.2.2.2.2.2.2.2.2.2.1 _ hj
      rw [ch_bare hJ hjl hb] at h5
      exact h5
    · intro v i hvi
      obtain ⟨b, hb⟩ := HQ.out.1 v i hvi
      have hbt := HQ.out.2.1 _ _ hb
      subst hbt
      exact hb
    · show q = vlv kv (ro i)
      rw [H3.out.2.2.2.2.2.2.2]
      simp [vlv, HQ.out.2.2]
end CyNs
end Go.Proofs.YtojgiienohpaiaaGreat
