/- The answer's Text: the plain facts. -/
import Derived.Test.YtagdpohgicihnaaDoorTxA
import Derived.Test.YtagdpohgicihnaaDoorPrF
namespace Go.Proofs.YtagdpohgicihnaaDoor
open Go.RowKit Go.Shelf

def sepK (k : Int) : List UInt8 := if k = 5 then [32, 42, 32] else [32, 45, 62, 32]
def brkK (k : Int) (b : Bool) (x : Int × List UInt8) : List UInt8 := if x.1 = 4 ∧ (k = 5 ∨ b = true) then 40 :: (x.2 ++ [41]) else x.2
def joinK (k : Int) : Bool → List (Int × List UInt8) → List UInt8
  | _, [] => []
  | b, x :: r => (if b then [] else sepK k) ++ (brkK k b x ++ joinK k false r)
theorem joinK_snoc (k : Int) (l : List (Int × List UInt8)) (x : Int × List UInt8) (b : Bool) : joinK k b (l ++ [x]) = joinK k b l ++ ((if b && l.isEmpty then [] else sepK k) ++ brkK k (b && l.isEmpty) x) := by
  induction l generalizing b with
  | nil => simp [joinK]
  | cons y r ih => simp [joinK, ih]
theorem sepT_join (l : List (Int × List UInt8)) : ∀ b, joinK 5 b l = (if b || l.isEmpty then [] else sepK 5) ++ sepT l := by
  induction l with
  | nil => intro b; simp [joinK, sepT]
  | cons x r ih =>
    intro b
    have hb : brkK 5 b x = brk x := by simp [brkK, brk]
    cases r with
    | nil => cases b <;> simp [joinK, sepT, hb]
    | cons y r =>
      rw [joinK, ih false, hb, sepT]
      cases b <;> simp [sepK]
theorem oneT5 (n : Int) (l : List (Int × List UInt8)) : oneT 5 n l = 40 :: (joinK 5 true l ++ [41]) := by
  have := sepT_join l true
  simp [oneT, this]
theorem oneT4 (n : Int) (l : List (Int × List UInt8)) (h : l.length = 2) : oneT 4 n l = joinK 4 true l := by
  match l, h with
  | [x, y], _ => simp [oneT, joinK, brkK, brk, sepK]
namespace Fo
theorem txts_app (f g : Fo) : (f.app g).txts = f.txts ++ g.txts := by
  induction f with
  | nil => rfl
  | cons k n u ps r _ ih => simp [app, txts, ih]
theorem txts_length (f : Fo) : f.txts.length = f.len := by
  induction f with
  | nil => rfl
  | cons k n u ps r _ ih => simp [txts, len, ih]
theorem txts_take (f : Fo) (j : Nat) (hj : j < f.len) : (f.take (j + 1)).txts = (f.take j).txts ++ [((f.at_ j).1, oneT (f.at_ j).1 (f.at_ j).2.1 (f.at_ j).2.2.2.txts)] := by
  rw [take_step f j hj, txts_app]; rfl
theorem ok_at (f : Fo) (h : f.ok = true) (j : Nat) (hj : j < f.len) : alone (f.at_ j).1 (f.at_ j).2.1 (f.at_ j).2.2.2.len = true ∧ (f.at_ j).2.2.2.ok = true := by
  induction f generalizing j with
  | nil => simp [len] at hj
  | cons k n u ps r _ ih =>
    simp only [ok, Bool.and_eq_true] at h
    cases j with
    | zero => exact ⟨h.1.1, h.1.2⟩
    | succ j => exact ih h.2 j (by simp [len] at hj; omega)
end Fo
theorem sum_le_mem (l : List Nat) (x : Nat) (h : x ∈ l) : x ≤ l.sum := by
  induction l with
  | nil => cases h
  | cons y r ih =>
    rcases List.mem_cons.1 h with rfl | h
    · simp
    · have := ih h; simp; omega
theorem joinK_len (k : Int) (l : List (Int × List UInt8)) (b : Bool) : (joinK k b l).length ≤ (l.map fun x => x.2.length + 6).sum := by
  induction l generalizing b with
  | nil => simp [joinK]
  | cons x r ih =>
    have h1 := ih false
    have h2 : (brkK k b x).length ≤ x.2.length + 2 := by unfold brkK; split <;> simp
    have h3 : (sepK k).length ≤ 4 := by unfold sepK; split <;> simp
    simp only [joinK, List.length_append, List.map_cons, List.sum_cons]
    cases b <;> simp <;> omega
theorem six_five (l : List (Int × List UInt8)) : (l.map fun x => x.2.length + 6).sum ≤ 2 * (l.map fun x => x.2.length + 5).sum := by
  induction l with
  | nil => simp
  | cons x r ih => simp only [List.map_cons, List.sum_cons]; omega
theorem bcat (a b : List UInt8) (A B : ByteArray) (hA : A = ⟨a.toArray⟩) (hB : B = ⟨b.toArray⟩) : A ++ B = ⟨(a ++ b).toArray⟩ := by rw [hA, hB, bapp]
theorem leaf_a (k : Int) (S P : ByteArray) (l : List (Int × List UInt8)) (x : Int × List UInt8) (hS : S = ⟨(joinK k true l).toArray⟩) (hP : P = ⟨x.2.toArray⟩) (hl : l.length = 0) (hx : x.1 ≠ 4) : S ++ P = ⟨(joinK k true (l ++ [x])).toArray⟩ := by
  obtain rfl := List.length_eq_zero_iff.1 hl
  rw [bcat _ _ S P hS hP, joinK_snoc]
  simp [brkK, hx]
theorem leaf_b (k : Int) (S P : ByteArray) (l : List (Int × List UInt8)) (x : Int × List UInt8) (hS : S = ⟨(joinK k true l).toArray⟩) (hP : P = ⟨x.2.toArray⟩) (hl : l.length = 0) (hx : x.1 = 4) : S ++ ((⟨#[40]⟩ : ByteArray) ++ P ++ (⟨#[41]⟩ : ByteArray)) = ⟨(joinK k true (l ++ [x])).toArray⟩ := by
  obtain rfl := List.length_eq_zero_iff.1 hl
  rw [bcat _ _ S _ hS (bcat _ [41] _ _ (bcat [40] _ _ P rfl hP) rfl), joinK_snoc]
  simp [brkK, hx]
theorem leaf_c (k : Int) (S P T : ByteArray) (l : List (Int × List UInt8)) (x : Int × List UInt8) (hS : S = ⟨(joinK k true l).toArray⟩) (hP : P = ⟨x.2.toArray⟩) (hT : T = ⟨(sepK k).toArray⟩) (hl : l.length ≠ 0) (hx : x.1 ≠ 4 ∨ k ≠ 5) : S ++ T ++ P = ⟨(joinK k true (l ++ [x])).toArray⟩ := by
  have he : l.isEmpty = false := by cases l <;> simp at hl ⊢
  rw [bcat _ _ _ P (bcat _ _ S T hS hT) hP, joinK_snoc, he]
  rcases hx with hx | hx <;> simp [brkK, hx]
theorem leaf_d (S P T : ByteArray) (l : List (Int × List UInt8)) (x : Int × List UInt8) (hS : S = ⟨(joinK 5 true l).toArray⟩) (hP : P = ⟨x.2.toArray⟩) (hT : T = ⟨(sepK 5).toArray⟩) (hl : l.length ≠ 0) (hx : x.1 = 4) : S ++ T ++ ((⟨#[40]⟩ : ByteArray) ++ P ++ (⟨#[41]⟩ : ByteArray)) = ⟨(joinK 5 true (l ++ [x])).toArray⟩ := by
  have he : l.isEmpty = false := by cases l <;> simp at hl ⊢
  rw [bcat _ _ _ _ (bcat _ _ S T hS hT) (bcat _ [41] _ _ (bcat [40] _ _ P rfl hP) rfl), joinK_snoc, he]
  simp [brkK, hx]
end Go.Proofs.YtagdpohgicihnaaDoor
