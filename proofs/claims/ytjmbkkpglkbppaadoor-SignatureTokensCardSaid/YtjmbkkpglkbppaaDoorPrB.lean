/- types.bracketed; what pieces are. -/
import Derived.Test.YtjmbkkpglkbppaaDoorPrA
import Derived.Test.YtjmbkkpglkbppaaDoorTyI
namespace Go.Proofs.YtjmbkkpglkbppaaDoor
open Go.RowKit Go.Shelf

/-- A piece: a text that stands as it is, and a type's. -/
structure Pc where
  s : List UInt8
  k : Int
  n : Int
  u : Sl
  ps : Fo
def strB (s : List UInt8) : Value := .string ⟨s.toArray⟩
def pcC (p : Pc) : List Value := [strB p.s, .int .i64 p.k, .int .i64 p.n, slv p.u]
def pcV (p : Pc) : Value := .agg #[strB p.s, .int .i64 p.k, .int .i64 p.n, slv p.u]
/-- A piece that is a text. -/
abbrev pcS (s : List UInt8) : Pc := ⟨s, 0, 0, (none, 0, 0), .nil⟩
/-- A piece that is a type. -/
abbrev pcT (k n : Int) (u : Sl) (ps : Fo) : Pc := ⟨[], k, n, u, ps⟩
theorem pcC_len (L : List Pc) : (L.flatMap pcC).length = L.length * 4 := by
  induction L with
  | nil => rfl
  | cons x L ih => simp [pcC, ih]; omega
theorem pcC_one (L : List Pc) : ∀ u ∈ L.flatMap pcC, u.oneCell' = true := by
  intro u hu
  obtain ⟨x, _, hx⟩ := List.mem_flatMap.1 hu
  simp only [pcC, List.mem_cons, List.not_mem_nil, or_false] at hx
  rcases hx with rfl | rfl | rfl | rfl <;> rfl
namespace Fo
/-- Is each of a list a type? -/
def ok : Fo → Bool
  | nil => true
  | cons k n _ ps r => alone k n ps.len && ps.ok && r.ok
end Fo
/-- What a piece is told by. -/
def ptx (p : Pc) : List UInt8 := p.s ++ oneT p.k p.n p.ps.txts
/-- A piece, in memory: a text, or a type. -/
def PcOk (B : Nat) (w : World) (p : Pc) : Prop := TyV B w p.ps (slv p.u) ∧ (p.k = 0 ∧ p.ps = .nil ∨ alone p.k p.n p.ps.len = true ∧ p.ps.ok = true) ∧ p.s.length ≤ 40
theorem PcOk.below {B : Nat} {w w' : World} {p : Pc} (h : PcOk B w p) (hb : Below B w w') : PcOk B w' p := ⟨h.1.below hb, h.2⟩
theorem PcOk.str (B : Nat) (w : World) (s : List UInt8) (hs : s.length ≤ 40) : PcOk B w (pcS s) := ⟨tyV_nil.2 ⟨none, 0, rfl⟩, .inl ⟨rfl, rfl⟩, hs⟩
/-- How much a piece weighs. -/
def pw (p : Pc) : Nat := if p.k = 0 then 1 else 3 + 6 * p.ps.size
def pws (L : List Pc) : Nat := (L.map pw).sum
theorem pws_app (a b : List Pc) : pws (a ++ b) = pws a + pws b := by simp [pws]
theorem ptx_str (s : List UInt8) : ptx (pcS s) = s := by simp [ptx, oneT]
theorem ptx_ty (k n : Int) (u : Sl) (ps : Fo) : ptx (pcT k n u ps) = oneT k n ps.txts := by simp [ptx]
theorem alone_ne (k n : Int) (m : Nat) (h : alone k n m = true) : k ≠ 0 := by
  rintro rfl
  simp [alone] at h
/-- A part's pieces. -/
def brkP (k n : Int) (u : Sl) (ps : Fo) : List Pc := if k = 4 then [pcS [40], pcT k n u ps, pcS [41]] else [pcT k n u ps]
theorem brkP_txt (k n : Int) (u : Sl) (ps : Fo) : (brkP k n u ps).flatMap ptx = brk (k, oneT k n ps.txts) := by
  unfold brkP brk
  split <;> simp [ptx, oneT]
theorem brkP_len (k n : Int) (u : Sl) (ps : Fo) : (brkP k n u ps).length ≤ 3 := by unfold brkP; split <;> simp
theorem brkP_pw (k n : Int) (u : Sl) (ps : Fo) : pws (brkP k n u ps) ≤ 5 + 6 * ps.size := by
  unfold brkP
  split
  · simp [pws, pw]; split <;> omega
  · simp [pws, pw]; split <;> omega
theorem brkP_ok {B : Nat} {w : World} {k n : Int} {u : Sl} {ps : Fo} (h : PcOk B w (pcT k n u ps)) : ∀ p ∈ brkP k n u ps, PcOk B w p := by
  intro p hp
  unfold brkP at hp
  split at hp
  · simp only [List.mem_cons, List.not_mem_nil, or_false] at hp
    rcases hp with rfl | rfl | rfl
    · exact PcOk.str _ _ _ (by simp)
    · exact h
    · exact PcOk.str _ _ _ (by simp)
  · simp only [List.mem_cons, List.not_mem_nil, or_false] at hp
    subst hp
    exact h
theorem own_new (w : World) (e : TypeId) (size n : Nat) (L : List Value) (hL : L.length = n * size) (hn : n ≤ maxLen) (w0 : World) (h0 : Below w0.heap.size w0 w) : (w.alloc (.cells L.toArray e)).ownsRow w0.heap.size e size (.slice (some ⟨w.heap.size, 0, none⟩) n n) n L := own_full w _ h0.size e size n L hL hn
set_option maxRecDepth 100000 in
theorem bracketed_any (k n : Int) (u : Sl) (ps : Fo) (w : World) : Calls Tryd.prog 39 #[tyVal k n (slv u)] w fun e w' => ∃ v, e = .returned v ∧ w'.ownsRow w.heap.size 64 4 v (brkP k n u ps).length ((brkP k n u ps).flatMap pcC) ∧ Below w.heap.size w w' := by
  obtain ⟨u1, u2, u3⟩ := u
  dsimp only [tyVal, slv]
  have hb := (Below.refl w.heap.size w).alloc (Nat.le_refl _) (.cells #[.int .i64 k, .int .i64 n, .slice u1 u2 u3] 28)
  go_enter Tryd.func39, Tryd.ntmps39
  by_cases h4 : k = 4
  · subst h4
    have ho := (own_new (w.alloc (.cells #[.int .i64 4, .int .i64 n, .slice u1 u2 u3] 28)) 64 4 3 ((brkP 4 n (u1, u2, u3) ps).flatMap pcC) rfl (by unfold maxLen; omega) w hb)
    rw [World.size_alloc] at ho
    have HO := Lib.hid ho
    have HB := Lib.hid (hb.alloc hb.size (.cells ((brkP 4 n (u1, u2, u3) ps).flatMap pcC).toArray 64))
    clear hb ho
    go_wp2_with fail
    go_ret
    exact ⟨_, rfl, HO.out, HB.out⟩
  · have f1 : (k == 4) = false := beq_eq_false_iff_ne.2 h4
    have hbk : brkP k n (u1, u2, u3) ps = [pcT k n (u1, u2, u3) ps] := by unfold brkP; rw [if_neg h4]
    rw [hbk]
    have ho := (own_new (w.alloc (.cells #[.int .i64 k, .int .i64 n, .slice u1 u2 u3] 28)) 64 4 1 ([pcT k n (u1, u2, u3) ps].flatMap pcC) rfl (by unfold maxLen; omega) w hb)
    rw [World.size_alloc] at ho
    have HO := Lib.hid ho
    have HB := Lib.hid (hb.alloc hb.size (.cells ([pcT k n (u1, u2, u3) ps].flatMap pcC).toArray 64))
    clear hb hbk ho
    go_wp2_with fail
    go_ret
    exact ⟨_, rfl, HO.out, HB.out⟩
end Go.Proofs.YtjmbkkpglkbppaaDoor
