/- An argument that is a slice of tokens, opened. -/
import Derived.Test.YtjmbkkpglkbppaaDoorLexF
import Derived.Test.YtjmbkkpglkbppaaDoorTyU
namespace Go.Proofs.YtjmbkkpglkbppaaDoor
open Go.RowKit Go.ChangeShapes Go.WideShapes Go.ChangeAt Go.Deep

/-- What is known of an argument that is a slice of tokens. -/
def ArgT (w : World) (v : Value) : Prop := ∃ ts : List TV, RdT w v ts
theorem tvsCells_length (ts : List TV) : (tvsCells ts).length = ts.length * 4 := by
  induction ts with
  | nil => rfl
  | cons t l ih =>
    show (tvCells t ++ tvsCells l).length = _
    rw [List.length_append, ih]
    simp [tvCells]
    omega
theorem flat4_inv (ts : List TV) (j : Nat) (u : Value) (h : (tvsCells ts)[j]? = some u) : j / 4 < ts.length := by
  have hl := tvsCells_length ts
  have := (List.getElem?_eq_some_iff.1 h).1
  omega
set_option maxRecDepth 100000 in
theorem ArgT_open {H : Type} {enc : TypeId × Value → H} {W : World} {r : Reach} {b0 : Nat} {v : Value} {d : DataW H} {p : List MemPlace} (hval : Value.okWide Tryd.prog W r b0 22 v)
    (h : DataW.Trod enc Tryd.prog W 0 (fun _ => true) true 22 v d p) : ArgT W v := by
  obtain ⟨a0, len, cap, rfl⟩ := okWide_slice Tryd.underlying22 hval
  obtain ⟨fuel, hf⟩ := h
  rcases open_slice Tryd.underlying22 hf with ⟨hcs, _⟩ | ⟨a, len', cap', m, n, D, Pl, hcs, _, hl, hm, hmm, hx, hi⟩
  · simp [Value.cells] at hcs
    obtain ⟨rfl, rfl, rfl⟩ := hcs
    exact ⟨[], rfl, .inl ⟨rfl, _, _, rfl⟩⟩
  · simp [Value.cells] at hcs
    obtain ⟨rfl, rfl, rfl⟩ := hcs
    simp only [if_true] at hmm
    have hC : Tryd.prog.cellsOf 45 = 4 := by kernel_rfl
    have hS : Tryd.prog.cellsOf 43 = 2 := by kernel_rfl
    have hI : Tryd.prog.cellsOf 3 = 1 := by kernel_rfl
    have hT : Tryd.prog.cellsOf 9 = 1 := by kernel_rfl
    rw [hC] at hi
    have key : ∀ i, i < len → ∃ t : TV, W.cell? (a.add (i * 4)) = some (.int .i64 t.1) ∧ W.cell? ((a.add (i * 4)).add 1) = some (.string t.2.1) ∧ W.cell? ((a.add (i * 4)).add 2) = some (.int .i64 t.2.2.1) ∧ W.cell? ((a.add (i * 4)).add 3) = some (.int .i64 t.2.2.2) := by
      intro i hil
      obtain ⟨cs', hc, ht'⟩ := hi i (by omega)
      obtain ⟨ys, n', _, _, hlen, hyl, hfld⟩ := DataW.trod_struct Tryd.underlying45 ht'
      rw [hC] at hlen
      obtain ⟨_, hcl, hat⟩ := World.cells?_some hc
      have q0 : DataW.trod enc Tryd.prog W 0 (fun _ => true) true n' 3 ((cs'.drop 0).take (Tryd.prog.cellsOf 3)) = ys[0]? := hfld 0 _ rfl
      have q1 : DataW.trod enc Tryd.prog W 0 (fun _ => true) true n' 9 ((cs'.drop 1).take (Tryd.prog.cellsOf 9)) = ys[1]? := hfld 1 _ rfl
      have q2 : DataW.trod enc Tryd.prog W 0 (fun _ => true) true n' 43 ((cs'.drop 2).take (Tryd.prog.cellsOf 43)) = ys[2]? := hfld 2 _ rfl
      have hyl' : ys.length = 3 := hyl
      rw [hI, List.getElem?_eq_getElem (by omega)] at q0
      rw [hT, List.getElem?_eq_getElem (by omega)] at q1
      rw [hS, List.getElem?_eq_getElem (by omega)] at q2
      obtain ⟨k0, hk0, _, _⟩ := DataW.trod_int Tryd.underlying3 q0
      obtain ⟨s0, hs0, _, _⟩ := DataW.trod_string Tryd.underlying9 q1
      obtain ⟨zs, n2, _, _, hlen2, hyl2, hfld2⟩ := DataW.trod_struct Tryd.underlying43 q2
      have q3 : DataW.trod enc Tryd.prog W 0 (fun _ => true) true n2 3 ((((cs'.drop 2).take 2).drop 0).take (Tryd.prog.cellsOf 3)) = zs[0]? := hfld2 0 _ rfl
      have q4 : DataW.trod enc Tryd.prog W 0 (fun _ => true) true n2 3 ((((cs'.drop 2).take 2).drop 1).take (Tryd.prog.cellsOf 3)) = zs[1]? := hfld2 1 _ rfl
      have hyl2' : zs.length = 2 := hyl2
      rw [hI, List.getElem?_eq_getElem (by omega)] at q3 q4
      obtain ⟨k1, hk1, _, _⟩ := DataW.trod_int Tryd.underlying3 q3
      obtain ⟨k2, hk2, _, _⟩ := DataW.trod_int Tryd.underlying3 q4
      match cs', hlen with
      | [c0, c1, c2, c3], _ =>
        simp at hk0 hs0 hk1 hk2
        subst hk0; subst hs0; subst hk1; subst hk2
        refine ⟨(k0, s0, k1, k2), ?_, ?_, ?_, ?_⟩
        · have := hat 0 (by omega)
          simpa [Addr.add] using this
        · exact hat 1 (by omega)
        · exact hat 2 (by omega)
        · exact hat 3 (by omega)
    by_cases h0 : len = 0
    · subst h0
      exact ⟨[], rfl, .inl ⟨rfl, _, _, rfl⟩⟩
    · obtain ⟨b, off, spot⟩ := a
      obtain ⟨t0, hc0, _⟩ := key 0 (by omega)
      have hspot : spot = none := by simpa [Addr.add] using World.cell?_spot hc0
      subst hspot
      obtain ⟨ts, htl, hP⟩ := listOf _ len key
      refine ⟨ts, ?_, .inr ⟨b, off, cap, by rw [htl], by omega, hm, ?_, ?_⟩⟩
      · exact tvsCells_length ts
      · have := hc0
        simp [Addr.add] at this
        unfold World.cell? at this
        split at this
        · rename_i hh
          exact (Array.getElem?_eq_some_iff.1 hh).1
        · cases this
      · intro j u hj
        have hj4 := flat4_inv ts j u hj
        obtain ⟨i, q, rfl, hq⟩ : ∃ i q, j = i * 4 + q ∧ q < 4 := ⟨j / 4, j % 4, by omega, by omega⟩
        have hi4 : i < ts.length := by omega
        have hP2 := hP i hi4
        simp only [Addr.add_lit] at hP2
        have hfl := flat4 ts i q hi4 hq
        rw [hj] at hfl
        rw [← Nat.add_assoc]
        have hcase : q = 0 ∨ q = 1 ∨ q = 2 ∨ q = 3 := by omega
        rcases hcase with rfl | rfl | rfl | rfl
        all_goals
          simp [tvCells] at hfl
          subst hfl
        · exact hP2.1
        · exact hP2.2.1
        · exact hP2.2.2.1
        · exact hP2.2.2.2
end Go.Proofs.YtjmbkkpglkbppaaDoor
