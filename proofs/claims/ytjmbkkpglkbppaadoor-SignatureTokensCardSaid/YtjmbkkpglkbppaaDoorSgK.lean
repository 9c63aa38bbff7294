/- signature's law: is there more than is asked of; the chapter's example. -/
import Derived.Test.YtjmbkkpglkbppaaDoorSgJ
import Derived.Test.YtjmbkkpglkbppaaDoorAwA
import Derived.Test.YtjmbkkpglkbppaaDoorLexK
namespace Go.Proofs.YtjmbkkpglkbppaaDoor
open Go.RowKit Go.Shelf

/-- What Great owes. -/
def GrPost (ts : List TV) (w : World) (e : Ending) (w' : World) : Prop := (∃ b, e = .returned (.bool b) ∧ (b = false → ts.length ≤ 120)) ∧ w = w'
set_option maxRecDepth 100000 in
set_option maxHeartbeats 2000000 in
theorem great4_any (w : World) (v : Value) (ts : List TV) (ht : RdT w v ts) :
    Calls Tryd.prog 5 #[v] w (GrPost ts w) := by
  have htf := fun h => ht.form h
  obtain ⟨A, cp, hv⟩ : ∃ A cp, v = .slice A ts.length cp := by
    rcases ht.2 with ⟨h0, A, c, hv⟩ | ⟨b, off, cap, hv, _⟩
    · exact ⟨A, c, by rw [hv, h0]⟩
    · exact ⟨_, _, hv⟩
  subst hv
  have HTF := Lib.hid htf
  obtain ⟨n, hn⟩ : ∃ n, ts.length = n := ⟨_, rfl⟩
  rw [hn]
  have HN := Lib.hid hn
  clear htf ht hn
  go_enter Tryd.func5, Tryd.ntmps5
  go_wp2_with fail
  go_loop [3] (fun i => ∃ k : Nat, k ≤ 130 ∧ k ≤ n ∧ i = .int .i64 k) (fun i => 130 - (intOf i).toNat)
  case atStart => exact ⟨0, by omega, by omega, rfl⟩
  case round =>
    obtain ⟨k, hk, hkn, rfl⟩ := hrel
    by_cases h1 : k < n
    · by_cases h2 : k < 130
      · have hkt : k < ts.length := by rw [HN.out]; exact h1
        obtain ⟨b, off, cap, hv, _, _, hlt, hc⟩ := HTF.out (by omega)
        have hv2 := hv
        injection hv2 with hA _ hcc
        subst hA; subst hcc
        obtain ⟨d0, d1, d2, d3⟩ := hc k hkt
        generalize ts[k] = t at *
        obtain ⟨t0, t1, t2, t3⟩ := t
        dsimp only at d0 d1 d2 d3
        have f1 : decide ((k : Int) < (n : Int)) = true := decide_eq_true (by omega)
        have f2 : decide ((k : Int) < 130) = true := decide_eq_true (by omega)
        clear hc hv
        by_cases h3 : 60 < t1.size
        · have f3 : (60 : Int) < (t1.size : Int) := by omega
          go_wp2_with fail
          go_ret
          exact ⟨⟨true, rfl, by simp⟩, rfl⟩
        · have f3 : ¬ (60 : Int) < (t1.size : Int) := by omega
          go_wp2_with fail
          go_round
          case rel => exact ⟨k + 1, by omega, by omega, by go_num⟩
          case measure => simp [intOf]; omega
      · have f1 : decide ((k : Int) < (n : Int)) = true := decide_eq_true (by omega)
        have f2 : decide ((k : Int) < 130) = false := decide_eq_false (by omega)
        have f3 : (120 : Int) < (n : Int) := by omega
        go_wp2_with fail
        go_ret
        exact ⟨⟨true, by simp [*], by simp⟩, rfl⟩
    · have f1 : decide ((k : Int) < (n : Int)) = false := decide_eq_false (by omega)
      go_wp2_with fail
      go_ret
      refine ⟨⟨decide (120 < (n : Int)), rfl, fun h => ?_⟩, rfl⟩
      rw [HN.out]
      simp at h
      omega
/-- The example's tokens. -/
def exB : ByteArray := ⟨#[40, 105, 110, 116, 32, 42, 32, 98, 111, 111, 108, 41, 32, 45, 62, 32, 105, 110, 116]⟩
def exT : List (Int × Nat × Nat) := [(4, 0, 1), (3, 1, 4), (4, 5, 6), (3, 7, 11), (4, 11, 12), (4, 13, 15), (3, 16, 19)]
def exTs : List TV := (exT ++ [(0, 19, 19)]).map (tv exB)
theorem ex4 : wordsE (bs exB) = .ok exT := by kernel_rfl
theorem ex4_0 : ((tokAt exTs 0).1, (tokAt exTs 0).2.1.data.toList) = ((4 : Int), ([40] : List UInt8)) := by kernel_rfl
theorem ex4_1 : ((tokAt exTs 1).1, (tokAt exTs 1).2.1.data.toList) = ((3 : Int), ([105, 110, 116] : List UInt8)) := by kernel_rfl
theorem ex4_2 : ((tokAt exTs 2).1, (tokAt exTs 2).2.1.data.toList) = ((4 : Int), ([42] : List UInt8)) := by kernel_rfl
theorem ex4_3 : ((tokAt exTs 3).1, (tokAt exTs 3).2.1.data.toList) = ((3 : Int), ([98, 111, 111, 108] : List UInt8)) := by kernel_rfl
theorem ex4_4 : ((tokAt exTs 4).1, (tokAt exTs 4).2.1.data.toList) = ((4 : Int), ([41] : List UInt8)) := by kernel_rfl
theorem ex4_5 : ((tokAt exTs 5).1, (tokAt exTs 5).2.1.data.toList) = ((4 : Int), ([45, 62] : List UInt8)) := by kernel_rfl
theorem ex4_6 : ((tokAt exTs 6).1, (tokAt exTs 6).2.1.data.toList) = ((3 : Int), ([105, 110, 116] : List UInt8)) := by kernel_rfl
theorem ex4_7 : ((tokAt exTs 7).1, (tokAt exTs 7).2.1.data.toList) = ((0 : Int), ([] : List UInt8)) := by kernel_rfl
theorem sg_of {i k : Int} {l : List UInt8} (h : ((tokAt exTs i).1, (tokAt exTs i).2.1.data.toList) = (k, l)) : sgOf exTs i = (if (k == 4 && l == [40]) = true then 1 else if (k == 4 && l == [41]) = true then 2 else if (k == 4 && l == [42]) = true then 3 else if (k == 4 && l == [45, 62]) = true then 4 else 0) := by
  injection h with h1 h2
  simp only [sgOf, seesB, toList_data, h1, h2]
theorem bs_of {i k : Int} {l : List UInt8} (h : ((tokAt exTs i).1, (tokAt exTs i).2.1.data.toList) = (k, l)) : namedB (tokAt exTs i) = (if k = 3 ∧ l = [105, 110, 116] then some (2, 0) else if k = 3 ∧ l = [98, 111, 111, 108] then some (3, 0) else none) := by
  injection h with h1 h2
  simp only [namedB, toList_data, h1, h2]
/-- What the example is read as. -/
def exTy : Ty := (4, 0, tyL [(5, 0, tyL [(2, 0, .nil), (3, 0, .nil)]), (2, 0, .nil)])
theorem ex_read : RdIs (tkOf namedB exTs) 9 0 1 (.done exTy 7) := by
  refine .inr ⟨by omega, ?_⟩
  have s0 : (tkOf namedB exTs).sg 0 = 1 := (sg_of ex4_0).trans (by decide)
  have s1 : (tkOf namedB exTs).sg 1 = 0 := (sg_of ex4_1).trans (by decide)
  have s2 : (tkOf namedB exTs).sg 2 = 3 := (sg_of ex4_2).trans (by decide)
  have s3 : (tkOf namedB exTs).sg 3 = 0 := (sg_of ex4_3).trans (by decide)
  have s4 : (tkOf namedB exTs).sg 4 = 2 := (sg_of ex4_4).trans (by decide)
  have s5 : (tkOf namedB exTs).sg 5 = 4 := (sg_of ex4_5).trans (by decide)
  have s6 : (tkOf namedB exTs).sg 6 = 0 := (sg_of ex4_6).trans (by decide)
  have s7 : (tkOf namedB exTs).sg 7 = 0 := (sg_of ex4_7).trans (by decide)
  have b1 : (tkOf namedB exTs).bs 1 = some (2, 0) := (bs_of ex4_1).trans (by decide)
  have b3 : (tkOf namedB exTs).bs 3 = some (3, 0) := (bs_of ex4_3).trans (by decide)
  have b6 : (tkOf namedB exTs).bs 6 = some (2, 0) := (bs_of ex4_6).trans (by decide)
  refine .open_ s0 (by omega) (.leaf (by rw [show (0 : Int) + 1 = 1 from rfl, s1]; omega) b1 (.over (by rw [show (0 : Int) + 1 + 1 = 2 from rfl, s2]; omega) (.more s2 (by simp) ?_)))
  refine .leaf (by rw [show (0 : Int) + 1 + 1 + 1 = 3 from rfl, s3]; omega) b3 (.over (by rw [show (0 : Int) + 1 + 1 + 1 + 1 = 4 from rfl, s4]; omega) (.close s4 ?_))
  refine .arrow s5 (by omega) (.leaf (by rw [show (0 : Int) + 1 + 1 + 1 + 1 + 1 + 1 = 6 from rfl, s6]; omega) b6 (.over (by rw [show (0 : Int) + 1 + 1 + 1 + 1 + 1 + 1 + 1 = 7 from rfl, s7]; omega) (.out .whole)))
def exF : Fo := tyL [(5, 0, tyL [(2, 0, .nil), (3, 0, .nil)]), (2, 0, .nil)]
theorem exF_ok : (alone 4 0 exF.len && exF.ok) = true := by decide
theorem exF_txt : oneT 4 0 exF.txts = [40, 105, 110, 116, 32, 42, 32, 98, 111, 111, 108, 41, 32, 45, 62, 32, 105, 110, 116] := by decide
theorem exF_size : exF.size = 4 := by decide
set_option maxRecDepth 100000 in
set_option maxHeartbeats 4000000 in
theorem awake4_any (w : World) (ht : Tab w) : Calls Tryd.prog 6 #[] w fun e w' => e = .returned (.bool true) ∧ Below w.heap.size w w' := by
  have HT := Lib.hid ht
  clear ht
  go_enter Tryd.func6, Tryd.ntmps6
  go_wp2_with fail
  refine (words_any exB _ (by decide)).mono ?_
  rintro e w1 ⟨hb1, h1⟩
  rw [ex4] at h1
  obtain ⟨v, rfl, hown⟩ := h1
  have hrd : RdT w1 v exTs := by
    have := Rd.of_own hown
    rw [toks_tvs] at this
    exact this
  obtain ⟨g, c, rfl, _, _⟩ := own_shape hown (by simp [exT])
  have HRD := Lib.hid (sread_any w1 _ exTs 0 1 9 hrd (by decide) (by omega))
  have HB1 := Lib.hid hb1
  clear hown hrd hb1
  go_wp2_with fail
  refine HRD.out.mono ?_
  rintro e w2 ⟨o, ⟨u1, u2, u3⟩, f, hR, rfl, hf, hfr, hb2⟩
  obtain rfl := hR.one ex_read
  obtain ⟨G, hG, hTv⟩ := hfr.now
  have hG' : Img idn exF G := by rw [hf] at hG; exact hG
  have hal : Below w2.heap.size w2 (w2.alloc (.cells #[.int .i64 4, .int .i64 0, .slice u1 u2 u3] 28)) := (Below.refl _ _).alloc (Nat.le_refl _) _
  have hb12 : Below w.heap.size w w2 := HB1.out.trans (hb2.mono HB1.out.size)
  have hpr := print_any (w2.alloc (.cells #[.int .i64 4, .int .i64 0, .slice u1 u2 u3] 28)) 4 0 (u1, u2, u3) G (hTv.keep hal.size fun b off hlt => hal.cell (p := ⟨b, off, none⟩) hlt) (by have := hG'.size; rw [exF_size] at this; omega) (HT.out.below (hb12.trans (hal.mono hb12.size)))
  have hok : (alone 4 0 G.len && G.ok) = true := by rw [hG'.len, hG'.ok]; exact exF_ok
  rw [if_pos hok, hG'.txts, exF_txt] at hpr
  dsimp only [tyVal, slv, strB] at hpr
  have HPR := Lib.hid hpr
  have HB2 := Lib.hid (hb12.trans (hal.mono hb12.size))
  have hz2 : w.heap.size ≤ w2.heap.size + 1 := by have := hb12.size; omega
  clear hpr hok hG hG' hTv hfr hal hb12 hb2 hR hf HRD HB1
  dsimp only [Out.ty, Out.pos, Out.no, exTy, tyVal, slv]
  go_wp2_with fail
  refine HPR.out.mono ?_
  rintro e w3 ⟨rfl, hb3⟩
  have HB3 := Lib.hid (HB2.out.trans (hb3.mono (by simpa using hz2)))
  clear hb3
  go_wp2_with fail
  go_ret
  exact ⟨rfl, HB3.out⟩
end Go.Proofs.YtjmbkkpglkbppaaDoor
