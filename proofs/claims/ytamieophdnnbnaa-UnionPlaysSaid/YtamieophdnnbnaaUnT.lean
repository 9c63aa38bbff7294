/- union: Copy. -/
import Derived.Test.YtamieophdnnbnaaUnS
import Derived.Deep.RegionHeld3
namespace Go.Proofs.Ytamieophdnnbnaa.Un
open Go.RowKit

theorem clone_row (W : World) (g c n : Nat) (f : Nat → Nat) (hn : n ≤ 1048576) (hc : ∀ j, j < n → W.cell? ⟨g, j, none⟩ = some (.int .i64 (f j : Nat))) :
    Calls Try.prog 32 #[.slice (some ⟨g, 0, none⟩) n c] W fun e w' => ∃ v', e = .returned v' ∧ w'.ownsRow W.heap.size 3 1 v' n (rowI n f) ∧ Below W.heap.size W w' := by
  have h := Try.slices_Clone_int g 0 n c ((List.range n).map fun k => (f k : Int)) W (by simp) (by omega) (fun j hj => by
    have hj : j < n := by simpa using hj
    rw [Nat.zero_add, hc j hj]
    simp [hj])
  refine h.mono ?_
  rintro e w' ⟨v', rfl, ho, _, hb⟩
  refine ⟨v', rfl, ?_, hb⟩
  have e1 : ((List.range n).map fun k => (f k : Int)).take n = (List.range n).map fun k => (f k : Int) := List.take_of_length_le (by simp)
  rw [e1, List.map_map] at ho
  exact ho
theorem row_later {w w' : World} {base : Nat} {v : Value} {n : Nat} {xs : List Value} (h : w.ownsRow base 3 1 v n xs) (hb : Below w.heap.size w w') : w'.ownsRow base 3 1 v n xs := by
  refine ⟨h.1, ?_⟩
  rcases h.2 with h2 | ⟨g, cap, cur, hv, hg, hh, r⟩
  · exact .inl h2
  · exact .inr ⟨g, cap, cur, hv, hg, (hb.block g (Array.getElem?_eq_some_iff.1 hh).1).trans hh, r⟩
set_option maxRecDepth 100000 in
set_option maxHeartbeats 2000000 in
theorem copy_in {S : Nat → Prop} {w : World} {b n : Nat} {col ro : Nat → Nat} {steps : Int} (h : UFo S w b n col ro steps) (hn0 : 0 < n) :
    Calls Try.prog 26 #[.pointer (some ⟨b, 0, none⟩)] w fun e w' => ∃ b', e = .returned (.pointer (some ⟨b', 0, none⟩)) ∧ UFo (fun k => w.heap.size ≤ k) w' b' n col ro steps ∧ Below w.heap.size w w' := by
  obtain ⟨A, Z, X, par, sz, nx, rk, h1, h2, h3, h4, h5⟩ := h
  obtain ⟨c0, c1, c2, c3, c4⟩ := h1.cells
  have hl := h1.lt
  obtain ⟨ga, ca, rfl, _, hal⟩ := own_shape h1.ra (by omega)
  obtain ⟨gz, cz, rfl, _, hzl⟩ := own_shape h1.rz (by omega)
  obtain ⟨gx, cx, rfl, _, hxl⟩ := own_shape h1.rx (by omega)
  have kk : ∀ (g c : Nat) (f : Nat → Nat), g < w.heap.size → (∀ j, j < n → w.cell? ⟨g, j, none⟩ = some (.int .i64 (f j : Nat))) → ∀ (W : World), Below w.heap.size w W → Calls Try.prog 32 #[.slice (some ⟨g, 0, none⟩) n c] W fun e w' => ∃ gv cv, e = .returned (.slice (some ⟨gv, 0, none⟩) n cv) ∧ w'.ownsRow W.heap.size 3 1 (.slice (some ⟨gv, 0, none⟩) n cv) n (rowI n f) ∧ Below W.heap.size W w' ∧ Below w.heap.size w w' ∧
      w'.cell? ⟨b, 0, none⟩ = some (.slice (some ⟨ga, 0, none⟩) n ca) ∧ w'.cell? ⟨b, 1, none⟩ = some (.slice (some ⟨gz, 0, none⟩) n cz) ∧ w'.cell? ⟨b, 2, none⟩ = some (.slice (some ⟨gx, 0, none⟩) n cx) ∧ w'.cell? ⟨b, 3, none⟩ = some (.int .i64 (cnt n col : Nat)) ∧ w'.cell? ⟨b, 4, none⟩ = some (.int .i64 steps) := by
    intro g c f hg hc W hb
    refine (clone_row W g c n f h4 fun j hj => (hb.cell (p := ⟨g, j, none⟩) hg).trans (hc j hj)).mono ?_
    rintro e w' ⟨v', rfl, ho, hb2⟩
    have hb3 : Below w.heap.size w w' := hb.trans (hb2.mono hb.size)
    obtain ⟨gv, cv, rfl, _, _⟩ := own_shape ho hn0
    exact ⟨gv, cv, rfl, ho, hb2, hb3, (hb3.cell (p := ⟨b, 0, none⟩) hl).trans c0, (hb3.cell (p := ⟨b, 1, none⟩) hl).trans c1, (hb3.cell (p := ⟨b, 2, none⟩) hl).trans c2, (hb3.cell (p := ⟨b, 3, none⟩) hl).trans c3, (hb3.cell (p := ⟨b, 4, none⟩) hl).trans c4⟩
  have KA := Lib.hid (kk ga ca par hal fun j hj => (h1.ra.cellAt j (by omega)).trans (rowI_get hj))
  have KZ := Lib.hid (kk gz cz sz hzl fun j hj => (h1.rz.cellAt j (by omega)).trans (rowI_get hj))
  have KX := Lib.hid (kk gx cx nx hxl fun j hj => (h1.rx.cellAt j (by omega)).trans (rowI_get hj))
  have HU := Lib.hid (And.intro h2 (And.intro h3 (And.intro h4 h5)))
  have e0 : w.drew.cell? ⟨b, 0, none⟩ = some (.slice (some ⟨ga, 0, none⟩) n ca) := c0
  have e1 : w.drew.cell? ⟨b, 1, none⟩ = some (.slice (some ⟨gz, 0, none⟩) n cz) := c1
  have e2 : w.drew.cell? ⟨b, 2, none⟩ = some (.slice (some ⟨gx, 0, none⟩) n cx) := c2
  have e3 : w.drew.cell? ⟨b, 3, none⟩ = some (.int .i64 (cnt n col : Nat)) := c3
  have e4 : w.drew.cell? ⟨b, 4, none⟩ = some (.int .i64 steps) := c4
  clear kk h1 h2 h3 h4 h5 hal hzl hxl
  go_enter Try.func26, Try.ntmps26
  go_wp2_with fail
  go_region_held3 (fun w' => Below w.heap.size w w' ∧ w'.cell? ⟨b, 0, none⟩ = some (.slice (some ⟨ga, 0, none⟩) n ca) ∧ w'.cell? ⟨b, 1, none⟩ = some (.slice (some ⟨gz, 0, none⟩) n cz) ∧ w'.cell? ⟨b, 2, none⟩ = some (.slice (some ⟨gx, 0, none⟩) n cx) ∧ w'.cell? ⟨b, 3, none⟩ = some (.int .i64 (cnt n col : Nat)) ∧ w'.cell? ⟨b, 4, none⟩ = some (.int .i64 steps))
    (first
      | exact ⟨(Below.refl _ _).drew, e0, e1, e2, e3, e4⟩
      | (go_split_ands; refine ⟨?_, ?_, ?_, ?_, ?_, ?_⟩ <;> assumption)
      | exact Below.alloc (by assumption) (Below.size (B := w.heap.size) (w := w) (by assumption)) _
      | (go_split_ands; exact Below.alloc (by assumption) (Below.size (B := w.heap.size) (w := w) (by assumption)) _)
      | (go_split_ands; refine ⟨?_, ?_, ?_, ?_, ?_, ?_⟩ <;> first | assumption | exact Below.alloc (by assumption) (Below.size (B := w.heap.size) (w := w) (by assumption)) _ | (refine (World.cell?_of_block (Below.heap_alloc _ _ _ (Nat.lt_of_lt_of_le hl (Below.size (B := w.heap.size) (w := w) (by assumption))))).trans ?_; assumption) | (go_simp; done) | (go_simp; assumption)))
    (first
      | (go_at_call 32; refine (KA.out _ (by go_split_ands; assumption)).mono ?_; rintro e wa ⟨va, da, rfl, oa, ba, bwa, a0, a1, a2, a3, a4⟩)
      | (go_at_call 32; refine (KZ.out _ (by go_split_ands; assumption)).mono ?_; rintro e wz ⟨vz, dz, rfl, oz, bz, bwz, z0, z1, z2, z3, z4⟩)
      | (go_at_call 32; refine (KX.out _ (by go_split_ands; assumption)).mono ?_; rintro e wx ⟨vx, dx, rfl, ox, bx, bwx, x0, x1, x2, x3, x4⟩))
  obtain ⟨h2, h3, h4, h5⟩ := HU.out
  have qa : w.heap.size ≤ va ∧ va < wa.heap.size := oa.lt va rfl
  have qz : wa.heap.size ≤ vz ∧ vz < wz.heap.size := oz.lt vz rfl
  have qx : wz.heap.size ≤ vx ∧ vx < wx.heap.size := ox.lt vx rfl
  have oa' := row_zero (row_later (row_later oa bz) bx)
  have oz' := row_zero (row_later oz bx)
  have ox' := row_zero ox
  have hsx := bwx.size
  have hs1 : w.heap.size ≤ wa.heap.size := bwa.size
  have hs2 := bz.size
  have hfin : ∃ b', Ending.returned (.pointer (some ⟨wx.heap.size, 0, none⟩)) = .returned (.pointer (some ⟨b', 0, none⟩)) ∧ UFo (fun k => w.heap.size ≤ k) (wx.alloc (.cells #[.slice (some ⟨va, 0, none⟩) n da, .slice (some ⟨vz, 0, none⟩) n dz, .slice (some ⟨vx, 0, none⟩) n dx, .int .i64 (cnt n col : Nat), .int .i64 steps] 54)) b' n col ro steps ∧
      Below w.heap.size w (wx.alloc (.cells #[.slice (some ⟨va, 0, none⟩) n da, .slice (some ⟨vz, 0, none⟩) n dz, .slice (some ⟨vx, 0, none⟩) n dx, .int .i64 (cnt n col : Nat), .int .i64 steps] 54)) := by
    refine ⟨wx.heap.size, rfl, ⟨_, _, _, par, sz, nx, rk, ⟨heap_alloc_new wx _, hsx, oa'.alloc _, oz'.alloc _, ox'.alloc _, fun k hk => ?_, fun k hk => ?_, fun k hk => ?_⟩, h2, h3, h4, h5⟩, bwx.alloc hsx _⟩
    · have hk : some va = some k := hk
      injection hk with hk
      subst hk
      refine ⟨qa.1, fun e => ?_, fun e => ?_⟩
      · have e : some vz = some va := e
        injection e with e
        omega
      · have e : some vx = some va := e
        injection e with e
        omega
    · have hk : some vz = some k := hk
      injection hk with hk
      subst hk
      refine ⟨show w.heap.size ≤ vz by omega, fun e => ?_⟩
      have e : some vx = some vz := e
      injection e with e
      omega
    · have hk : some vx = some k := hk
      injection hk with hk
      subst hk
      show w.heap.size ≤ vx
      omega
  have HFIN := Lib.hid hfin
  clear hfin oa' oz' ox' oa oz ox
  go_wp2_with fail
  go_ret
  exact HFIN.out
end Go.Proofs.Ytamieophdnnbnaa.Un
