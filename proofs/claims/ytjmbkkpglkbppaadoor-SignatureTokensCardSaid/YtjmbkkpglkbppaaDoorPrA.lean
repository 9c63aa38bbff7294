/- A type's text: the plain facts; a variable's text. -/
import Derived.Test.YtjmbkkpglkbppaaDoorRg
import Derived.Test.YtjmbkkpglkbppaaDoorTyC
import Derived.Test.YtjmbkkpglkbppaaDoorChB
import Derived.Test.YtjmbkkpglkbppaaDoorTyH
import Derived.Test.YtjmbkkpglkbppaaDoorShBu
import Derived.Test.YtjmbkkpglkbppaaDoorShWs
import Derived.Laws.IdiomStrings
import Derived.WalkSmall
import Derived.Lib.ItoaLen
namespace Go.Proofs.YtjmbkkpglkbppaaDoor
open Go.RowKit Go.Shelf Go.Sort Go.Maps

/-- A variable's text. -/
def nameB (n : Int) : List UInt8 :=
  if (decide (0 ≤ n) && decide (n < 1073741824)) then 39 :: UInt8.ofNat (97 + (n % 26).toNat) :: (if n < 26 then [] else Lib.itoa (n / 26)) else []
/-- A table that stands. -/
def Tab (w : World) : Prop := Lib.TabIs Tryd.prog w "internal/strconv.uint64pow10" .u64 Lib.pow10Tab
theorem gTab : (Tryd.prog.globalNamed "internal/strconv.uint64pow10").isSome = true := by kernel_rfl
theorem Tab.below {w w' : World} (h : Tab w) (hb : Below w.heap.size w w') : Tab w' := by
  obtain ⟨g, hg⟩ := Option.isSome_iff_exists.1 gTab
  have hlt : g < w.heap.size := by
    have h2 := h
    unfold Tab Lib.TabIs World.var? at h2
    rw [hg, Option.bind_some] at h2
    rcases Nat.lt_or_ge g w.heap.size with h' | h'
    · exact h'
    · rw [Array.getElem?_eq_none h'] at h2
      cases h2
  exact var?_below hb hg hlt h
theorem below_grow (w : World) (k : Nat) (os : Array Obj) : Below w.heap.size w (grow (w.drewN k) os) := by
  refine (below_drewN (Below.refl _ w) k).trans ⟨rfl, rfl, rfl, ?_, fun i hi => ?_⟩
  · simp [grow]
  · have hd : (w.drewN k).heap = w.heap := rfl
    show ((w.drewN k).heap ++ os)[i]? = _
    rw [hd, Array.getElem?_append_left hi]
theorem bapp (a b : List UInt8) : (⟨a.toArray⟩ : ByteArray) ++ ⟨b.toArray⟩ = ⟨(a ++ b).toArray⟩ := by
  apply ByteArray.ext
  simp [ByteArray.data_append]
/-- A part's text, an arrow's in brackets. -/
def brk (x : Int × List UInt8) : List UInt8 := if x.1 = 4 then 40 :: (x.2 ++ [41]) else x.2
def sepT : List (Int × List UInt8) → List UInt8
  | [] => []
  | [x] => brk x
  | x :: y :: r => brk x ++ 32 :: 42 :: 32 :: sepT (y :: r)
/-- A type's text, of its parts'. -/
def oneT (k n : Int) (l : List (Int × List UInt8)) : List UInt8 :=
  if k = 1 then nameB n else if k = 2 then [105, 110, 116] else if k = 3 then [98, 111, 111, 108]
  else if k = 4 then (match l with | [x, y] => brk x ++ 32 :: 45 :: 62 :: 32 :: y.2 | _ => [])
  else if k = 5 then 40 :: (sepT l ++ [41]) else []
namespace Fo
def txts : Fo → List (Int × List UInt8)
  | nil => []
  | cons k n _ ps r => (k, oneT k n ps.txts) :: r.txts
end Fo
set_option maxHeartbeats 1000000 in
set_option maxRecDepth 100000 in
theorem name_any (n : Int) (w : World) (ht : Tab w) : Calls Tryd.prog 38 #[.int .i64 n] w fun e w' => e = .returned (.string ⟨(nameB n).toArray⟩) ∧ Below w.heap.size w w' := by
  go_enter Tryd.func38, Tryd.ntmps38
  obtain ⟨b, hb⟩ : ∃ b, (decide (0 ≤ n) && decide (n < 1073741824)) = b := ⟨_, rfl⟩
  have hn := number_any n
  rw [hb] at hn
  cases b
  · go_wp2_with (go_at_call 56; refine (hn _).mono ?_; rintro e w' ⟨rfl, hw'⟩; subst w')
    go_ret
    refine ⟨?_, Below.refl _ _⟩
    rw [nameB, hb]; rfl
  · simp only [Bool.and_eq_true] at hb
    obtain ⟨hb1, hb2⟩ := hb
    have h0 := of_decide_eq_true hb1
    have h1 := of_decide_eq_true hb2
    have hm1 : 0 ≤ n % 26 := Int.emod_nonneg _ (by omega)
    have hm2 : n % 26 < 26 := Int.emod_lt_of_pos _ (by omega)
    obtain ⟨c, hc⟩ : ∃ c, UInt8.ofNat (97 + (n % 26).toNat) = c := ⟨_, rfl⟩
    have hct : (c.toNat : Int) = 97 + n % 26 := by
      rw [← hc, UInt8.toNat_ofNat']
      omega
    have hcv := run_convert_bytes_back (P := Tryd.prog) (w.alloc (.cells #[.int .u8 39, .int .u8 (97 + n % 26)] 5)) 60 9 5 ⟨w.heap.size, 0, none⟩ 2 [39, c] Tryd.underlying60 Tryd.underlying5 Tryd.underlying9 (by
      intro j hj
      have := cells_new w [.int .u8 39, .int .u8 (97 + n % 26)] 5
      match j, hj with
      | 0, _ => exact this 0 _ rfl
      | 1, _ => rw [show ([39, c] : List UInt8)[1] = c from rfl, hct]; exact this 1 _ rfl)
    simp only [List.length_cons, List.length_nil, Nat.reduceAdd] at hcv
    by_cases h26 : n < 26
    · have f1 : decide (n < 26) = true := decide_eq_true h26
      go_wp2_with (go_at_call 56; refine (hn _).mono ?_; rintro e w' ⟨rfl, hw'⟩; subst w')
      go_ret
      refine ⟨?_, (Below.refl _ _).alloc (Nat.le_refl _) _⟩
      rw [nameB, hb1, hb2, hc]
      simp [h26]
    · have f1 : decide (n < 26) = false := decide_eq_false h26
      have hb1' := (Below.refl w.heap.size w).alloc (Nat.le_refl _) (.cells #[.int .u8 39, .int .u8 (97 + n % 26)] 5)
      have hlen : (Lib.itoa (n / 26)).length ≤ 21 := Lib.itoa_length_le _ (by omega) (by omega)
      have HT := Lib.hid (Tryd.strconv_Itoa (n / 26) (by omega) (by omega) (w.alloc (.cells #[.int .u8 39, .int .u8 (97 + n % 26)] 5)) (ht.below hb1'))
      go_wp2_with (first | (go_at_call 56; refine (hn _).mono ?_; rintro e w' ⟨rfl, hw'⟩; subst w') | (go_at_call 58; refine HT.out.mono ?_; rintro e w' ⟨rfl, kk, os, hw'⟩; subst w'))
      go_ret
      refine ⟨?_, hb1'.trans ((below_grow _ kk os).mono (by simp))⟩
      rw [nameB, hb1, hb2, hc]
      have := bapp [39, c] (Lib.itoa (n / 26))
      rw [if_neg (show ¬ n < 26 by omega)]
      simpa using this
end Go.Proofs.YtjmbkkpglkbppaaDoor
