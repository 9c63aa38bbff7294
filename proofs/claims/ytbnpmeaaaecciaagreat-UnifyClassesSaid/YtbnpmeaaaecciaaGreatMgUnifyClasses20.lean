/- Texts of one proof, one behind the other. -/
import Derived.Test.YtbnpmeaaaecciaaGreatMgUnifyClasses8
import Derived.Test.YtbnpmeaaaecciaaGreatMgUnifyClasses11
import Derived.Test.YtbnpmeaaaecciaaGreatMgUnifyClasses5
import Derived.Test.YtbnpmeaaaecciaaGreatMgUnifyClasses19
import Derived.Test.YtbnpmeaaaecciaaGreatMgUnifyClasses16
/- The answer's Ints. -/
namespace Go.Proofs.YtbnpmeaaaecciaaGreat
open Go.RowKit Go.Shelf

theorem eq_of_takes (a b : List Int) (h : a.length = b.length) (j : Nat) (hj : j < a.length) (hne : a[j] ≠ b[j]) : (a == b) = false := by
  refine beq_eq_false_iff_ne.2 fun e => hne ?_
  subst e
  rfl
set_option maxHeartbeats 1000000 in
set_option maxRecDepth 100000 in
theorem rints_any (a b : List Int) (va vb : Value) (w : World) (hA : Rd w 1 va a.length (ints a)) (hB : Rd w 1 vb b.length (ints b)) (la : a.length ≤ 1000000) (lb : b.length ≤ 1000000) :
    Calls Tryz.prog 22 #[va, vb] w fun e w' => e = .returned (.bool (a == b)) ∧ Below w.heap.size w w' := by
  obtain ⟨A, c, rfl⟩ := hA.form
  obtain ⟨A', c', rfl⟩ := hB.form
  obtain ⟨q, hq⟩ : ∃ q, a.length = q := ⟨_, rfl⟩
  obtain ⟨q', hq'⟩ : ∃ q', b.length = q' := ⟨_, rfl⟩
  rw [hq] at la ⊢
  rw [hq'] at lb ⊢
  have HA := Lib.hid hA
  have HB := Lib.hid hB
  have HQ := Lib.hid hq
  have HQ' := Lib.hid hq'
  clear hA hB hq hq'
  by_cases hl : q = q'
  · subst hl
    go_enter Tryz.func22, Tryz.ntmps22
    go_wp2_with fail
    go_loopw [5] (fun t wr => ∃ j : Nat, j ≤ q ∧ t = .int .i64 j ∧ a.take j = b.take j ∧ Below w.heap.size w wr) (fun t _ => q - (intOf t).toNat)
    case atStart => exact ⟨0, Nat.zero_le _, rfl, by simp, Below.refl _ _⟩
    case round =>
      obtain ⟨j, hj, rfl, hja, hb⟩ := hrel
      have HBW := Lib.hid hb
      have HJA := Lib.hid hja
      clear hja hb
      by_cases hjl : j < q
      · have hjA : j < a.length := by rw [HQ.out]; exact hjl
        have hjB : j < b.length := by rw [HQ'.out]; exact hjl
        obtain ⟨b1, o1, cap1, hv1, _, _, hlt1, hc1⟩ := HA.out.2.resolve_left (by rintro ⟨h, _⟩; omega)
        obtain ⟨b2, o2, cap2, hv2, _, _, hlt2, hc2⟩ := HB.out.2.resolve_left (by rintro ⟨h, _⟩; omega)
        injection hv1 with hA1 _ hcc1
        injection hv2 with hA2 _ hcc2
        subst hA1; subst hcc1; subst hA2; subst hcc2
        obtain ⟨x, hx⟩ : ∃ x, a[j] = x := ⟨_, rfl⟩
        obtain ⟨y, hy⟩ : ∃ y, b[j] = y := ⟨_, rfl⟩
        have c1 : wr.cell? ⟨b1, o1 + j, none⟩ = some (.int .i64 x) := (HBW.out.cell (p := ⟨b1, o1 + j, none⟩) hlt1).trans (hc1 j _ (by rw [ints, List.getElem?_map, List.getElem?_eq_getElem hjA, hx]; rfl))
        have c2 : wr.cell? ⟨b2, o2 + j, none⟩ = some (.int .i64 y) := (HBW.out.cell (p := ⟨b2, o2 + j, none⟩) hlt2).trans (hc2 j _ (by rw [ints, List.getElem?_map, List.getElem?_eq_getElem hjB, hy]; rfl))
        by_cases hxy : x = y
        · have htk : a.take (j + 1) = b.take (j + 1) := by
            rw [← List.take_append_getElem hjA, ← List.take_append_getElem hjB, HJA.out, hx, hy, hxy]
          have HTK := Lib.hid htk
          have f1 : (x != y) = false := by simp [hxy]
          clear htk hx hy hc1 hc2 hxy
          go_wp2_with fail
          go_quiet (fail)
          go_wp2_with fail
          go_roundw
          case rel => exact ⟨j + 1, by omega, by go_num, HTK.out, below_drewN HBW.out _⟩
          case measure => simp [intOf]; omega
        · have f1 : (x != y) = true := bne_iff_ne.2 hxy
          have HE := Lib.hid (eq_of_takes a b (HQ.out.trans HQ'.out.symm) j hjA (by rw [hx, hy]; exact hxy))
          clear hx hy hc1 hc2 hxy
          go_wp2_with fail
          go_quiet (fail)
          go_wp2_with fail
          go_ret
          exact ⟨ret_bool HE.out.symm, below_drewN HBW.out _⟩
      · obtain rfl : j = q := by omega
        have hE : (a == b) = true := by
          have h := HJA.out
          have h1 := HQ.out
          have h2 := HQ'.out
          rw [List.take_of_length_le (by omega), List.take_of_length_le (by omega)] at h
          simp [h]
        have HE := Lib.hid hE
        clear hE
        go_wp2_with fail
        go_ret
        exact ⟨ret_bool HE.out.symm, HBW.out⟩
  · have f1 : ((q : Int) != (q' : Int)) = true := bne_iff_ne.2 (by omega)
    have hE : (a == b) = false := beq_eq_false_iff_ne.2 fun e => hl (by rw [← HQ.out, ← HQ'.out, e])
    have HE := Lib.hid hE
    clear hE hl
    go_enter Tryz.func22, Tryz.ntmps22
    go_wp2_with fail
    go_ret
    exact ⟨ret_bool HE.out.symm, Below.refl _ _⟩
end Go.Proofs.YtbnpmeaaaecciaaGreat
/- graph's example. -/
namespace Go.Proofs.YtbnpmeaaaecciaaGreat
open Go.RowKit Go.Shelf
set_option maxRecDepth 100000
theorem arrow_pair (X : World) (g cp : Nat) (k0 n0 k1 n1 : Int) (u0 u1 : Sl) (f0 f1 : Fo) (hg : g < X.heap.size) (hcp : 2 ≤ cp) (hcm : cp ≤ maxLen) (c0 : X.cell? ⟨g, 0, none⟩ = some (.int .i64 k0)) (c1 : X.cell? ⟨g, 1, none⟩ = some (.int .i64 n0)) (c2 : X.cell? ⟨g, 2, none⟩ = some (slv u0)) (c3 : X.cell? ⟨g, 3, none⟩ = some (.int .i64 k1)) (c4 : X.cell? ⟨g, 4, none⟩ = some (.int .i64 n1)) (c5 : X.cell? ⟨g, 5, none⟩ = some (slv u1)) (h0 : TyV X.heap.size X f0 (slv u0)) (h1 : TyV X.heap.size X f1 (slv u1)) (hs : f0.size + f1.size < 1000) :
    Calls Tryz.prog 28 #[.slice (some ⟨g, 0, none⟩) 2 cp] X fun e w' => ∃ u' : Sl, e = .returned (tyVal 4 0 (slv u')) ∧ Below X.heap.size X w' ∧ FreshT 30 X.heap.size w' idn (.cons k0 n0 u0 f0 (.cons k1 n1 (none, 0, 0) f1 .nil)) u' := by
  have h := arrow_any X _ _ (two_cells g cp k0 n0 k1 n1 u0 u1 f0 f1 hg hcp hcm c0 c1 c2 c3 c4 c5 h0 h1) (by simp only [Fo.size]; omega)
  simpa [Fo.arrF, Fo.len] using h
/-- What the example adds. -/
def VV (a b : Sl) : Fo := .cons 1 0 a .nil (.cons 1 0 b .nil .nil)
theorem img_vv {G : Fo} (h : Img idn (VV (none, 0, 0) (none, 0, 0)) G) : ∃ a b, G = VV a b := by
  cases G with
  | nil => exact h.elim
  | cons k n a ps r =>
    obtain ⟨rfl, rfl, h1, h2⟩ := h
    cases ps with
    | cons => exact h1.elim
    | nil =>
      cases r with
      | nil => exact h2.elim
      | cons k n b ps r =>
        obtain ⟨rfl, rfl, h3, h4⟩ := h2
        cases ps with
        | cons => exact h3.elim
        | nil => cases r with
          | cons => exact h4.elim
          | nil => exact ⟨a, b, rfl⟩
theorem vv_add (a b : Sl) : gadd1 [] 4 0 (VV a b) = ([(1, 0, 1, []), (4, 0, 3, [0, 0])], 1) := by
  simp only [VV, gadd1_eq, gadd_cons, gadd_nil]
  rfl
end Go.Proofs.YtbnpmeaaaecciaaGreat
/- unify/sets: a forest that a closure holds: root, join, steps. -/
namespace Go.Proofs.YtbnpmeaaaecciaaGreat.Un
open Go.RowKit
set_option maxRecDepth 100000
/-- The sets of a closure, as they lie: one forest, no way from one to the other. -/
structure StM (S : Nat → Prop) (w : World) (cb : Nat) (x0 x1 x2 : Value) (f0 c fo ob : Nat) (x6 x7 : Value) (n : Nat) (col ro : Nat → Nat) (steps : Int) : Prop where
  blk : w.heap[cb]? = some (Obj.cells #[x0, x1, x2, .slice (some ⟨f0, 0, none⟩) 1 c, .int .i64 n, .map (some ob), x6, x7] 69)
  map : MapF (fun _ => none) 0 0 ob w
  ncb : ¬ S cb
  nob : ¬ S ob
  nf0 : ¬ S f0
  row : w.ownsRow 0 122 1 (.slice (some ⟨f0, 0, none⟩) 1 c) 1 [.pointer (some ⟨fo, 0, none⟩)]
  uf : UFo S w fo n col ro steps
theorem own_else {S : Nat → Prop} {w w' : World} {base : Nat} {e : TypeId} {size : Nat} {v : Value} {n : Nat} {xs : List Value} (h : w.ownsRow base e size v n xs) (he : Else S w w') (hs : ∀ k, v.ownBlock = some k → ¬ S k) : w'.ownsRow base e size v n xs := by
  refine ⟨h.1, ?_⟩
  rcases h.2 with h2 | ⟨g, cap, cur, hv, hg, hh, r⟩
  · exact .inl h2
  · exact .inr ⟨g, cap, cur, hv, hg, (he.block g (Array.getElem?_eq_some_iff.1 hh).1 (hs g (by rw [hv]; rfl))).trans hh, r⟩
section
variable {S : Nat → Prop} {w w' : World} {cb : Nat} {x0 x1 x2 : Value} {f0 c fo ob : Nat} {x6 x7 : Value} {n : Nat} {col ro col' ro' : Nat → Nat} {steps steps' : Int}
/-- What the forest alone turns. -/
theorem StM.turn (h : StM S w cb x0 x1 x2 f0 c fo ob x6 x7 n col ro steps) (he : Else S w w') (hu : UFo S w' fo n col' ro' steps') : StM S w' cb x0 x1 x2 f0 c fo ob x6 x7 n col' ro' steps' :=
  ⟨(he.block cb (Array.getElem?_eq_some_iff.1 h.blk).1 h.ncb).trans h.blk, h.map.block (he.block ob h.map.lt h.nob), h.ncb, h.nob, h.nf0, own_else h.row he (fun k hk => by cases hk; exact h.nf0), hu⟩
theorem StM.cells (h : StM S w cb x0 x1 x2 f0 c fo ob x6 x7 n col ro steps) : cb < w.heap.size ∧ w.cell? ⟨cb, 3, none⟩ = some (.slice (some ⟨f0, 0, none⟩) 1 c) ∧ w.cell? ⟨cb, 4, none⟩ = some (.int .i64 n) ∧ w.cell? ⟨cb, 5, none⟩ = some (.map (some ob)) ∧ w.cell? ⟨f0, 0, none⟩ = some (.pointer (some ⟨fo, 0, none⟩)) :=
  ⟨(Array.getElem?_eq_some_iff.1 h.blk).1, cell_of_row w cb 3 _ _ _ h.blk, cell_of_row w cb 4 _ _ _ h.blk, cell_of_row w cb 5 _ _ _ h.blk, by have := h.row.cellAt 0 (by omega); simpa using this⟩
theorem UFo.roots (h : UFo S w fo n col ro steps) {i : Nat} (hi : i < n) : ro i < n ∧ col (ro i) = col i := by
  obtain ⟨_, _, _, _, _, _, _, _, _, _, _, h5⟩ := h
  exact ⟨(h5 i hi).1, (h5 i hi).2.2⟩
theorem quo0 {i n : Nat} (hi : i < n) (hn : n ≤ 1048576) : Int.tdiv (i : Int) 1048576 = 0 ∧ Int.tmod (i : Int) 1048576 = i :=
  ⟨Int.tdiv_eq_zero_of_lt (by omega) (by omega), Int.tmod_eq_of_lt (by omega) (by omega)⟩
theorem wf_small {i : Nat} (h : i < 9223372036854775808) : (Lit.int .i64 (i : Int)).wf = true := by
  simp [Lit.wf, IntKind.min, IntKind.max, IntKind.bits, IntKind.signed]; omega
theorem inner_st (h : StM S w cb x0 x1 x2 f0 c fo ob x6 x7 n col ro steps) (hst : 0 ≤ steps ∧ steps ≤ 100000000000000) (i : Nat) (hi : i < n) :
    Calls Tryz.prog 81 #[.pointer (some ⟨cb, 3, none⟩), .int .i64 i] w fun e w' => ∃ k : Nat, e = .returned (.int .i64 (ro i : Nat)) ∧ k ≤ dg n ∧ StM S w' cb x0 x1 x2 f0 c fo ob x6 x7 n col ro (steps + k) ∧ Else S w w' := by
  have hn : n ≤ 1048576 := h.uf.few
  obtain ⟨q1, q2⟩ := quo0 hi hn
  have HR := root_in h.uf hst i hi
  obtain ⟨hl, c3, _, _, r0⟩ := h.cells
  have hro := (h.uf.roots hi).1
  have HH := Lib.hid h
  clear h
  go_enter Tryz.func81, Tryz.ntmps81
  go_wp2_with fail
  refine HR.mono ?_
  rintro e w2 ⟨k, rfl, hk, hu, he⟩
  have HF := Lib.hid (And.intro hk (And.intro hu he))
  clear hk hu he HR
  go_wp2_with fail
  go_ret
  obtain ⟨hk, hu, he⟩ := HF.out
  exact ⟨k, rfl, hk, HH.out.turn he hu, he⟩
theorem root_st (h : StM S w cb x0 x1 x2 f0 c fo ob x6 x7 n col ro steps) (hst : 0 ≤ steps ∧ steps ≤ 100000000000000) (i : Nat) (hi : i < n) :
    Calls Tryz.prog 58 #[.pointer (some ⟨cb, 3, none⟩), .int .i64 i] w fun e w' => ∃ k : Nat, e = .returned (.int .i64 (ro i : Nat)) ∧ k ≤ dg n ∧ StM S w' cb x0 x1 x2 f0 c fo ob x6 x7 n col ro (steps + k) ∧ Else S w w' := by
  have hn : n ≤ 1048576 := h.uf.few
  have hro := (h.uf.roots hi).1
  have HR := inner_st h hst i hi
  clear h
  go_enter Tryz.func58, Tryz.ntmps58
  go_wp2_with fail
  refine HR.mono ?_
  rintro e w2 ⟨k, rfl, hk, hs, he⟩
  obtain ⟨hl, _, _, c5, _⟩ := hs.cells
  have hlook := hs.map.look_ok intsTy (ro i : Nat) (wf_small (by omega))
  have HF := Lib.hid (And.intro hk (And.intro hs he))
  clear hk hs he HR
  go_wp2_with fail
  go_loopw [6] (fun s wr => s = .int .i64 (ro i : Nat) ∧ wr = w2) (fun _ _ => 0)
  case atStart => exact ⟨rfl, rfl⟩
  case round =>
    obtain ⟨rfl, rfl⟩ := hrel
    go_wp2_with fail
    go_ret
    obtain ⟨hk, hs, he⟩ := HF.out
    exact ⟨k, rfl, hk, hs, he⟩
/-- What a join of two roots comes to. -/
def SJoin (S : Nat → Prop) (w : World) (cb : Nat) (x0 x1 x2 : Value) (f0 c fo ob : Nat) (x6 x7 : Value) (n : Nat) (col ro : Nat → Nat) (steps : Int) (x y : Nat) (e : Ending) (w' : World) : Prop :=
  ∃ (r k : Nat) (ro' : Nat → Nat), e = .returned (.int .i64 r) ∧ r < n ∧ (∀ i, i < n → ro' i = if paint col x y i = paint col x y r then r else ro i) ∧ (col r = col x ∨ col r = col y) ∧ k ≤ 2 * dg n ∧ StM S w' cb x0 x1 x2 f0 c fo ob x6 x7 n (paint col x y) ro' (steps + k) ∧ Else S w w'
theorem join_st (h : StM S w cb x0 x1 x2 f0 c fo ob x6 x7 n col ro steps) (hst : 0 ≤ steps ∧ steps ≤ 10000000000000) (x y : Nat) (hx : x < n) (hy : y < n) :
    Calls Tryz.prog 83 #[.pointer (some ⟨cb, 3, none⟩), .int .i64 x, .int .i64 y] w (SJoin S w cb x0 x1 x2 f0 c fo ob x6 x7 n col ro steps x y) := by
  have hn : n ≤ 1048576 := h.uf.few
  obtain ⟨q1, q2⟩ := quo0 hx hn
  obtain ⟨q3, q4⟩ := quo0 hy hn
  have HR := join_in2 h.uf hst x y hx hy
  obtain ⟨hl, c3, _, _, r0⟩ := h.cells
  have HH := Lib.hid h
  clear h
  go_enter Tryz.func83, Tryz.ntmps83
  go_wp2_with fail
  refine HR.mono ?_
  rintro e w2 ⟨r, k, ro', rfl, hr, hrr, hc, hk, hu, he⟩
  have HF := Lib.hid (And.intro hc (And.intro hk (And.intro hu he)))
  clear hc hk hu he HR
  go_wp2_with fail
  go_ret
  obtain ⟨hc, hk, hu, he⟩ := HF.out
  exact ⟨r, k, ro', rfl, hr, hrr, hc, hk, HH.out.turn he hu, he⟩
theorem steps_st (h : StM S w cb x0 x1 x2 f0 c fo ob x6 x7 n col ro steps) (hst : 0 ≤ steps ∧ steps ≤ 100000000000000) :
    Calls Tryz.prog 57 #[.pointer (some ⟨cb, 3, none⟩)] w fun e w' => e = .returned (.int .i64 steps) ∧ w' = w := by
  have HR := steps_uf h.uf
  obtain ⟨hl, c3, _, _, r0⟩ := h.cells
  clear h
  go_enter Tryz.func57, Tryz.ntmps57
  go_wp2_with fail
  go_loopw [3, 11] (fun s i wr => wr = w ∧ ((i = .int .i64 0 ∧ s = .int .i64 0) ∨ (i = .int .i64 1 ∧ s = .int .i64 steps))) (fun _ i _ => (2 - intAt i).toNat)
  case atStart => exact ⟨rfl, .inl ⟨rfl, rfl⟩⟩
  case round =>
    obtain ⟨rfl, hrel | hrel⟩ := hrel
    · obtain ⟨rfl, rfl⟩ := hrel
      go_wp2_with fail
      refine HR.mono ?_
      rintro e w2 ⟨rfl, rfl⟩
      go_wp2_with fail
      exact ⟨⟨trivial, .inr ⟨rfl, rfl⟩⟩, by show (2 - (1 : Int)).toNat < (2 - (0 : Int)).toNat; decide⟩
    · obtain ⟨rfl, rfl⟩ := hrel
      go_wp2_with fail
      go_ret
      exact ⟨rfl, rfl⟩
end
end Go.Proofs.YtbnpmeaaaecciaaGreat.Un
/- unify/sets: add. -/
namespace Go.Proofs.YtbnpmeaaaecciaaGreat.Un
open Go.RowKit
set_option maxRecDepth 100000
attribute [local go_sem] Oper.semAt_some
attribute [local go_sem ↓] builtin_app
theorem forInfo : (Tryz.prog.info? 122).map (fun i => (i.zero, i.size, i.bytes)) = some (some (.pointer none), 1, 8) := by kernel_rfl
theorem app_for (w : World) (fo : Nat) :
    ∃ cp w1, (app_ #[62, 62] 62 #[.slice none 0 0, .slice (some ⟨w.heap.size, 0, none⟩) 1 1]).run Tryz.prog (w.alloc (.cells #[.pointer (some ⟨fo, 0, none⟩)] 122)) = .ok (.slice (some ⟨w.heap.size + 1, 0, none⟩) 1 cp) w1 ∧
      w1.ownsRow 0 122 1 (.slice (some ⟨w.heap.size + 1, 0, none⟩) 1 cp) 1 [.pointer (some ⟨fo, 0, none⟩)] ∧ (w.alloc (.cells #[.pointer (some ⟨fo, 0, none⟩)] 122)).grownBy w1 none := by
  obtain ⟨i0, hi0, hz0, hz1, hz2⟩ := info_parts forInfo
  have rd1 : Rd (w.alloc (.cells #[.pointer (some ⟨fo, 0, none⟩)] 122)) 1 (.slice (some ⟨w.heap.size, 0, none⟩) 1 1) 1 [.pointer (some ⟨fo, 0, none⟩)] := rd_new w [.pointer (some ⟨fo, 0, none⟩)] 122 1 1 rfl (by unfold maxLen; omega)
  obtain ⟨v', w1, hrun, hown1, hg1, hat⟩ := run_append_rd (P := Tryz.prog) _ 0 62 62 122 i0 _ 1 8 Tryz.underlying62 hi0 hz0 hz1 hz2 rfl (by omega) (.slice none 0 0) 0 [] (World.ownsRow_nil _ _ _ _) _ 1 _ rd1 (by simp [Value.oneCell']) (by unfold maxLen; omega) (by omega) (by omega)
  obtain ⟨g, cp, rfl, _, _⟩ := own_shape hown1 (by omega)
  have hgg : g = w.heap.size + 1 := by
    rcases hat with e | e
    · exact absurd e (by simp [Value.ownBlock])
    · have e : some g = some (w.heap.size + 1) := by rw [← World.size_alloc w (.cells #[.pointer (some ⟨fo, 0, none⟩)] 122)]; exact e
      injection e
  subst hgg
  exact ⟨cp, w1, by unfold app_; simpa using hrun, by simpa using hown1, hg1⟩
section
variable {S : Nat → Prop} {w w' : World} {cb : Nat} {x0 x1 x2 : Value} {f0 c fo ob : Nat} {x6 x7 : Value} {n : Nat} {col ro col' ro' : Nat → Nat} {steps steps' : Int}
theorem Else.cell {S : Nat → Prop} {w w2 : World} {cb : Nat} (he : Else S w w2) (k : Nat) (v : Value) : Else (fun k => S k ∨ k = cb) w (w2.setCell ⟨cb, k, none⟩ v) :=
  (he.mono fun _ h => .inl h).trans (Else.set w2 (p := ⟨cb, k, none⟩) (.inr rfl) v)
theorem StM.more (h : StM S w cb x0 x1 x2 f0 c fo ob x6 x7 n col ro steps) (hu : UFo (fun k => S k ∨ w.heap.size ≤ k) w' fo (n + 1) col' ro' steps) (he : Else S w w') :
    StM (fun k => S k ∨ w.heap.size ≤ k) (w'.setCell ⟨cb, 4, none⟩ (.int .i64 ((n : Int) + 1))) cb x0 x1 x2 f0 c fo ob x6 x7 (n + 1) col' ro' steps := by
  have hl := (Array.getElem?_eq_some_iff.1 h.blk).1
  have hb2 := (he.block cb hl h.ncb).trans h.blk
  have hf0 : f0 < w.heap.size := (h.row.lt f0 rfl).2
  have hne : f0 ≠ cb := fun e => row_ne h.row h.blk (by decide) (by rw [e]; rfl)
  have hob := h.map.lt
  have hoc : ob ≠ cb := fun e => by
    obtain ⟨_, _, ⟨_, _, hm, _⟩, _⟩ := h.map
    rw [e, h.blk] at hm
    cases hm
  have hE := he.cell (cb := cb) 4 (.int .i64 ((n : Int) + 1))
  refine ⟨heap_setCell_same w' cb 4 _ _ _ hb2, h.map.block (hE.block ob hob fun hx => hx.elim h.nob hoc), fun hx => hx.elim h.ncb (by omega), fun hx => hx.elim h.nob (by omega), fun hx => hx.elim h.nf0 (by omega), own_else h.row hE (fun k hk => by cases hk; exact fun hx => hx.elim h.nf0 hne), ?_⟩
  exact hu.keep (Else.set (S := fun k => k = cb) w' (p := ⟨cb, 4, none⟩) rfl _) fun k hk e => by subst e; exact hk.elim h.ncb (by omega)
/-- One number more, alone. -/
theorem add_st (h : StM S w cb x0 x1 x2 f0 c fo ob x6 x7 n col ro steps) (hn0 : 0 < n) (hn : n < 1048576) (d : Nat) (hc : ∀ k, k < n → col k ≠ d) :
    Calls Tryz.prog 56 #[.pointer (some ⟨cb, 3, none⟩)] w fun e w' => e = .returned (.tuple #[]) ∧ StM (fun k => S k ∨ w.heap.size ≤ k) w' cb x0 x1 x2 f0 c fo ob x6 x7 (n + 1) (upd col n d) (upd ro n n) steps ∧ Else (fun k => S k ∨ k = cb) w w' := by
  have HR := add_uf (w := w.drew) (h.uf.below (Below.refl _ w).drew) hn d hc
  obtain ⟨q1, q2⟩ := quo0 (Nat.lt_succ_self n) (by omega)
  obtain ⟨hl, c3, c4, _, r0⟩ := h.cells
  have f1 : ((n : Int) == 0) = false := by simp; omega
  have hz : w.frozen? ⟨cb, 4, none⟩ = false := by simp [World.frozen?, h.blk]
  have HH := Lib.hid h
  clear h
  go_enter Tryz.func56, Tryz.ntmps56
  go_wp2_with fail
  go_region_with (go_at_call 79; refine HR.mono ?_; rintro e w2 ⟨rfl, hu, he⟩)
  all_goals
    have he : Else S w w2 := ⟨he.os, he.tape, he.output, he.size, he.block⟩
    have hb2 := (he.block cb hl HH.out.ncb).trans HH.out.blk
    have hl2 := (Array.getElem?_eq_some_iff.1 hb2).1
    have d4 : w2.cell? ⟨cb, 4, none⟩ = some (.int .i64 n) := cell_of_row w2 cb 4 _ _ _ hb2
    have hz2 : w2.frozen? ⟨cb, 4, none⟩ = false := by simp [World.frozen?, hb2]
    have HF := Lib.hid (And.intro hb2 (And.intro hu he))
    clear hb2 hu he HR
    go_wp2_with fail
    obtain ⟨hb2, hu, he⟩ := HF.out
    exact bodyPost_end (results_none rfl _ _ _) rfl ⟨rfl, HH.out.more hu he, he.cell _ _⟩
theorem StM.tight (h : StM S w cb x0 x1 x2 f0 c fo ob x6 x7 n col ro steps) : StM (fun k => S k ∧ k < w.heap.size) w cb x0 x1 x2 f0 c fo ob x6 x7 n col ro steps :=
  ⟨h.blk, h.map, fun hx => h.ncb hx.1, fun hx => h.nob hx.1, fun hx => h.nf0 hx.1, h.row, h.uf.tight⟩
theorem StM.grow {T : Nat → Prop} (h : StM S w cb x0 x1 x2 f0 c fo ob x6 x7 n col ro steps) (hst : ∀ k, S k → T k) (h1 : ¬ T cb) (h2 : ¬ T ob) (h3 : ¬ T f0) : StM T w cb x0 x1 x2 f0 c fo ob x6 x7 n col ro steps :=
  ⟨h.blk, h.map, h1, h2, h3, h.row, h.uf.more hst⟩
theorem Else.old {T : Nat → Prop} (h : Else T w w') (ht : ∀ k, T k → S k ∨ w.heap.size ≤ k) : Else S w w' :=
  ⟨h.os, h.tape, h.output, h.size, fun k hk hs => h.block k hk fun hx => (ht k hx).elim hs (by omega)⟩
/-- The first number. -/
theorem add_new (blk : w.heap[cb]? = some (Obj.cells #[x0, x1, x2, .slice none 0 0, .int .i64 0, .map (some ob), x6, x7] 69)) (map : MapF (fun _ => none) 0 0 ob w) :
    Calls Tryz.prog 56 #[.pointer (some ⟨cb, 3, none⟩)] w fun e w' => e = .returned (.tuple #[]) ∧ (∃ f0 c fo, w.heap.size ≤ f0 ∧ StM (fun k => w.heap.size ≤ k ∧ k ≠ f0) w' cb x0 x1 x2 f0 c fo ob x6 x7 1 (fun j => j) (fun j => j) 0) ∧ Else (fun k => k = cb) w w' := by
  have HR := new_in w 0 (by omega)
  have hl := (Array.getElem?_eq_some_iff.1 blk).1
  have c4 : w.cell? ⟨cb, 4, none⟩ = some (.int .i64 0) := cell_of_row w cb 4 _ _ _ blk
  have hol := map.lt
  have hoc : ob ≠ cb := fun e => by
    obtain ⟨_, _, ⟨_, _, hm, _⟩, _⟩ := map
    rw [e, blk] at hm
    cases hm
  have HM := Lib.hid (And.intro blk map)
  clear blk map
  go_enter Tryz.func56, Tryz.ntmps56
  go_wp2_with fail
  refine HR.mono ?_
  rintro e w1 ⟨rfl, hu, hB⟩
  have hb1 := (hB.block cb hl).trans HM.out.1
  have c3 : w1.cell? ⟨cb, 3, none⟩ = some (.slice none 0 0) := cell_of_row w1 cb 3 _ _ _ hb1
  obtain ⟨cp, w2, hrun, hown, hgr⟩ := app_for w1 w.heap.size
  have hl1 : cb < w1.heap.size := Nat.lt_of_lt_of_le hl hB.size
  have hE2 : Else (fun _ => False) w1 w2 := (Else.alloc _ w1 _).trans (Else.grown hgr fun k hk => by cases hk)
  have hb2 := (hE2.block cb hl1 id).trans hb1
  have hl2 := (Array.getElem?_eq_some_iff.1 hb2).1
  have hz2 : w2.frozen? ⟨cb, 3, none⟩ = false := by simp [World.frozen?, hb2]
  have e3 : w2.cell? ⟨cb, 3, none⟩ = some (.slice none 0 0) := cell_of_row w2 cb 3 _ _ _ hb2
  have HN := Lib.hid (And.intro hu (And.intro hB (And.intro hown (And.intro hE2 hb2))))
  clear hu hB hb1 hown hgr hE2 hb2 HR
  go_upto_region 3 with fail
  refine wp_world (fun V => StM (fun k => w.heap.size ≤ k ∧ k < w1.heap.size) V cb x0 x1 x2 (w1.heap.size + 1) cp w.heap.size ob x6 x7 0 (fun j => j) (fun j => j) 0 ∧ Else (fun k => k = cb) w V) ?_ ?_
  · obtain ⟨hu, hB, hown, hE2, hb2⟩ := HN.out
    have hE3 := hE2.cell (cb := cb) 3 (.slice (some ⟨w1.heap.size + 1, 0, none⟩) 1 cp)
    have hE1 : Else (fun k => k = cb) w w1 := Else.of_below hB
    have hfc : w1.heap.size + 1 ≠ cb := by omega
    refine ⟨⟨heap_setCell_same w2 cb 3 _ _ _ hb2, (HM.out.2.block (hE1.block ob hol hoc)).block (hE3.block ob (Nat.lt_of_lt_of_le hol hB.size) (by rintro (h | h); exact h; exact hoc h)), by omega, by omega, by omega, ?_, ?_⟩, hE1.trans (hE3.mono fun k hk => hk.elim False.elim id)⟩
    · exact own_else hown (Else.set (S := fun k => k = cb) w2 (p := ⟨cb, 3, none⟩) rfl _) (fun k hk => by cases hk; exact hfc)
    · exact hu.keep hE3 fun k hk e => e.elim id (by omega)
  rintro V ⟨hs, hE⟩
  have hw1 := HN.out.2.1.size
  clear c4 c3 hrun hl1 hl2 hz2 e3 HN HM hoc
  obtain ⟨hlV, c3, c4, _, r0⟩ := hs.cells
  have hf0 : w1.heap.size + 1 < V.heap.size := (hs.row.lt _ rfl).2
  have HR := add_uf (w := V.drew) (hs.uf.below (Below.refl _ V).drew) (by omega) 0 (fun k hk => by omega)
  have HS := Lib.hid (And.intro hs (And.intro hE (And.intro hf0 (And.intro hw1 (And.intro hol hl)))))
  clear hl hol hw1
  have q1 : Int.tdiv 0 1048576 = 0 := by decide
  clear hs hE hf0
  go_region_with (go_at_call 79; refine HR.mono ?_; rintro e w3 ⟨rfl, hu, he⟩)
  all_goals
    obtain ⟨hs, hE, hf0, hw1, hol, hl⟩ := HS.out
    have he : Else (fun k => w.heap.size ≤ k ∧ k < w1.heap.size) V w3 := ⟨he.os, he.tape, he.output, he.size, he.block⟩
    have hb2 := (he.block cb hlV hs.ncb).trans hs.blk
    have hl2 := (Array.getElem?_eq_some_iff.1 hb2).1
    have d4 : w3.cell? ⟨cb, 4, none⟩ = some (.int .i64 0) := cell_of_row w3 cb 4 _ _ _ hb2
    have hz2 : w3.frozen? ⟨cb, 4, none⟩ = false := by simp [World.frozen?, hb2]
    have HF := Lib.hid (And.intro hb2 (And.intro hu he))
    clear hb2 hu he HR hs hE hf0 hw1 hol hl
    go_wp2_with fail
    obtain ⟨hs, hE, hf0, hw1, hol, hl⟩ := HS.out
    obtain ⟨_, hu, he⟩ := HF.out
    rw [upd_id] at hu
    exact bodyPost_end (results_none rfl _ _ _) rfl ⟨rfl, ⟨_, _, _, Nat.le_trans hw1 (Nat.le_succ _), (hs.more hu he).grow (fun k hk => by omega) (by omega) (by omega) (by simp)⟩, (((hE.mono fun k hk => .inr hk).trans (he.cell 4 _)).old fun k hk => by omega)⟩
end
end Go.Proofs.YtbnpmeaaaecciaaGreat.Un
