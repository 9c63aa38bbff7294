/- Texts of one proof, one behind the other. -/
import Derived.Test.YtifdbmdfkhnojaaDoorMgSubstApplies28
/- One substitution behind the other: the mathematics, and Then told by it. -/
namespace Go.Proofs.YtifdbmdfkhnojaaDoor
open Go.RowKit Go.Shelf
/-- One behind the other. -/
def comp (a b : Sg) : Sg := fun n => match a n with | some x => some (Fo.sub1 b x.1 x.2.1 x.2.2) | none => b n
theorem sub1_cons (s : Sg) (k n : Int) (ps : Fo) : (Fo.cons k n (none, 0, 0) ps .nil).sub s = .cons (Fo.sub1 s k n ps).1 (Fo.sub1 s k n ps).2.1 (none, 0, 0) (Fo.sub1 s k n ps).2.2 .nil := by
  rw [Fo.sub_cons]; rfl
theorem sub1_comp (a b : Sg) (k n : Int) (ps : Fo) : Fo.sub1 (comp a b) k n ps = Fo.sub1 b (Fo.sub1 a k n ps).1 (Fo.sub1 a k n ps).2.1 (Fo.sub1 a k n ps).2.2 := by
  have h := Fo.sub_sub a b (comp a b) (fun _ => rfl) (.cons k n (none, 0, 0) ps .nil)
  rw [sub1_cons, sub1_cons, sub1_cons] at h
  injection h with h1 h2 _ h4 _
  exact Prod.ext h1 (Prod.ext h2 h4)
theorem comp_assoc (a b c : Sg) : comp (comp a b) c = comp a (comp b c) := by
  funext n
  unfold comp
  cases a n with
  | none => rfl
  | some x => simp only; rw [← sub1_comp]; rfl
/-- The types of binds without places. -/
def sgP : List Pb → Sg
  | [], _ => none
  | p :: l, v => if p.1 = v then some (p.2.1, p.2.2.1, p.2.2.2) else sgP l v
theorem sgP_app (a b : List Pb) (v : Int) : sgP (a ++ b) v = (sgP a v).or (sgP b v) := by
  induction a with
  | nil => rfl
  | cons p l ih => simp only [List.cons_append, sgP]; split <;> simp [ih]
theorem sg_pb (l : List Bnd) : sg l = sgP (l.map pb) := by
  funext v
  induction l with
  | nil => rfl
  | cons b l ih =>
    unfold sg at ih ⊢
    simp only [fnd, List.map_cons, sgP, pb]
    split
    · rfl
    · exact ih
theorem sub1_pure_out (s : Sg) (k n : Int) (ps : Fo) : (Fo.sub1 s k n ps).2.2.pure = (Fo.sub1 s k n ps).2.2 := by
  rcases Fo.cases_sub s k n with ⟨hk, x, hx⟩ | h
  · rw [Fo.sub1_has hk hx]; exact Fo.pure_pure _
  · rw [Fo.sub1_not h]; exact Fo.sub_pure _ _
theorem sgP_map (l : List Bnd) (f : Bnd → Int × Int × Fo) (v : Int) : sgP (l.map fun x => (x.1, f x)) v = (fnd l v).map f := by
  induction l with
  | nil => rfl
  | cons b l ih => simp only [List.map_cons, sgP, fnd]; split <;> simp_all
theorem sgP_then (a b : List Bnd) : sgP (thenP a b) = comp (sg a) (sg b) := by
  funext v
  unfold thenP
  rw [sgP_app]
  have h1 := sgP_map (cnt a) (fun x => ((Fo.sub1 (sg b) x.2.1 x.2.2.1 x.2.2.2.2).1, (Fo.sub1 (sg b) x.2.1 x.2.2.1 x.2.2.2.2).2.1, (Fo.sub1 (sg b) x.2.1 x.2.2.1 x.2.2.2.2).2.2)) v
  rw [h1, fnd_cnt]
  have h2 := sgP_map ((cnt b).filter fun x => (fnd a x.1).isNone) (fun x => (x.2.1, x.2.2.1, x.2.2.2.2.pure)) v
  have h3 : ((cnt b).filter fun x => (fnd a x.1).isNone).map pb = ((cnt b).filter fun x => (fnd a x.1).isNone).map (fun x => (x.1, x.2.1, x.2.2.1, x.2.2.2.2.pure)) := rfl
  rw [h3, h2, fnd_filter (cnt b) _ (fun y => (fnd a y).isNone) (fun _ => rfl), fnd_cnt]
  unfold comp sg
  cases ha : fnd a v with
  | some x =>
    simp only [Option.map_some, Option.some_or, sgB]
    rw [Fo.sub1_pure]
  | none => simp only [Option.map_none, Option.none_or, Option.isNone_none, if_true]; rfl
theorem Fo.sub_wf (s : Sg) (h : ∀ n x, s n = some x → (Lit.int .i64 x.2.1).wf = true ∧ x.2.2.wf) (f : Fo) (hf : f.wf) : (f.sub s).wf := by
  induction f with
  | nil => trivial
  | cons k n u ps r i1 i2 =>
    rcases Fo.cases_sub s k n with ⟨hk, x, hx⟩ | h1
    · rw [Fo.sub_has hk hx]
      exact ⟨(h n x hx).1, (pure_wf _).2 (h n x hx).2, i2 hf.2.2⟩
    · rw [Fo.sub_not h1]
      exact ⟨hf.1, i1 hf.2.1, i2 hf.2.2⟩
theorem sub1_wf (s : Sg) (h : ∀ n x, s n = some x → (Lit.int .i64 x.2.1).wf = true ∧ x.2.2.wf) (k n : Int) (ps : Fo) (hn : (Lit.int .i64 n).wf = true) (hp : ps.wf) : (Lit.int .i64 (Fo.sub1 s k n ps).2.1).wf = true ∧ (Fo.sub1 s k n ps).2.2.wf := by
  rcases Fo.cases_sub s k n with ⟨hk, x, hx⟩ | h1
  · rw [Fo.sub1_has hk hx]; exact ⟨(h n x hx).1, (pure_wf _).2 (h n x hx).2⟩
  · rw [Fo.sub1_not h1]; exact ⟨hn, Fo.sub_wf s h ps hp⟩
theorem sg_wf {l : List Bnd} (h : BdW l) : ∀ n x, sg l n = some x → (Lit.int .i64 x.2.1).wf = true ∧ x.2.2.wf := by
  intro n x hx
  unfold sg at hx
  obtain ⟨b, hb, rfl⟩ := Option.map_eq_some_iff.1 hx
  have := h b (fnd_mem hb)
  exact ⟨this.2.1, (pure_wf _).2 this.2.2⟩
theorem sg_size {l : List Bnd} {S : Nat} (h : ∀ b ∈ l, 1 + b.2.2.2.2.size ≤ S) : ∀ n x, sg l n = some x → 1 + x.2.2.size ≤ S := by
  intro n x hx
  unfold sg at hx
  obtain ⟨b, hb, rfl⟩ := Option.map_eq_some_iff.1 hx
  simp only [sgB, Fo.pure_size]
  exact h b (fnd_mem hb)
theorem sub1_le (s : Sg) (S : Nat) (hS : 1 ≤ S) (h : ∀ n x, s n = some x → 1 + x.2.2.size ≤ S) (k n : Int) (ps : Fo) : 1 + (Fo.sub1 s k n ps).2.2.size ≤ S * (1 + ps.size) := by
  have := Fo.sub_size s S hS h (.cons k n (none, 0, 0) ps .nil)
  rw [sub1_cons] at this
  simpa [Fo.size] using this
theorem thenP_mem {a b : List Bnd} {p : Pb} (h : p ∈ thenP a b) : (∃ x ∈ a, p = (x.1, Fo.sub1 (sg b) x.2.1 x.2.2.1 x.2.2.2.2)) ∨ ∃ x ∈ b, p = pb x := by
  unfold thenP at h
  rcases List.mem_append.1 h with h | h
  · obtain ⟨x, hx, rfl⟩ := List.mem_map.1 h
    exact .inl ⟨x, cnt_sub hx, rfl⟩
  · obtain ⟨x, hx, rfl⟩ := List.mem_map.1 h
    exact .inr ⟨x, cnt_sub (List.mem_filter.1 hx).1, rfl⟩
theorem thenP_len (a b : List Bnd) : (thenP a b).length ≤ a.length + b.length := by
  unfold thenP
  have h1 := cnt_len a
  have h2 := cnt_len b
  have h3 := List.length_filter_le (fun x : Bnd => (fnd a x.1).isNone) (cnt b)
  simp only [List.length_append, List.length_map]
  omega
/-- Then, told by what it does. -/
theorem then_any (w : World) (a b : List Bnd) (va vb : Value) (Sa Sb : Nat) (ha : BdG w a va Sa) (hb : BdG w b vb Sb) (h1 : 1 ≤ Sa) (h2 : 1 ≤ Sb) (hab : Sb * Sa ≤ 1000000) (hl : a.length + b.length ≤ 100000) :
    Calls Tryd.prog 21 #[va, vb] w fun e w' => ∃ (v' : Value) (L : List Bnd), e = .returned v' ∧ BdG w' L v' (Sb * Sa) ∧ sg L = comp (sg a) (sg b) ∧ L.length ≤ a.length + b.length ∧ Below w.heap.size w w' := by
  have hSa : Sa ≤ Sb * Sa := Nat.le_mul_of_pos_left _ h2
  have hSb : Sb ≤ Sb * Sa := Nat.le_mul_of_pos_right _ h1
  refine (then_bind w a b va vb ⟨ha.at_, ha.wf, ha.len, fun x hx => by have := ha.size x hx; omega⟩ ⟨hb.at_, hb.wf, hb.len, fun x hx => by have := hb.size x hx; omega⟩).mono ?_
  rintro e w' ⟨v', L, rfl, hB, hL, hbel⟩
  have hlen : L.length ≤ a.length + b.length := by
    have := congrArg List.length hL
    rw [List.length_map] at this
    rw [this]; exact thenP_len a b
  have hm : ∀ x ∈ L, pb x ∈ thenP a b := fun x hx => by rw [← hL]; exact List.mem_map.2 ⟨x, hx, rfl⟩
  refine ⟨v', L, rfl, ⟨hB, fun x hx => ?_, by omega, fun x hx => ?_⟩, by rw [sg_pb, hL, sgP_then], hlen, hbel⟩
  · rcases thenP_mem (hm x hx) with ⟨y, hy, e⟩ | ⟨y, hy, e⟩
    · have hw := ha.wf y hy
      have := sub1_wf (sg b) (sg_wf hb.wf) y.2.1 y.2.2.1 y.2.2.2.2 hw.2.1 hw.2.2
      simp only [pb, Prod.mk.injEq] at e
      obtain ⟨e1, e2⟩ := e
      rw [← e2] at this
      exact ⟨by rw [e1]; exact hw.1, this.1, (pure_wf _).1 this.2⟩
    · have hw := hb.wf y hy
      simp only [pb, Prod.mk.injEq] at e
      obtain ⟨e1, e2, e3, e4⟩ := e
      exact ⟨by rw [e1]; exact hw.1, by rw [e3]; exact hw.2.1, by rw [← pure_wf, e4, pure_wf]; exact hw.2.2⟩
  · rcases thenP_mem (hm x hx) with ⟨y, hy, e⟩ | ⟨y, hy, e⟩
    · have hs := ha.size y hy
      have := sub1_le (sg b) Sb h2 (sg_size hb.size) y.2.1 y.2.2.1 y.2.2.2.2
      simp only [pb, Prod.mk.injEq] at e
      obtain ⟨e1, e2⟩ := e
      rw [← e2] at this
      rw [Fo.pure_size] at this
      exact Nat.le_trans this (Nat.mul_le_mul_left _ hs)
    · have hs := hb.size y hy
      simp only [pb, Prod.mk.injEq] at e
      obtain ⟨e1, e2, e3, e4⟩ := e
      rw [← Fo.pure_size, e4, Fo.pure_size]
      omega
theorem alike_true (a b : List Bnd) (vs : List Int) (h : sg a = sg b) : alikeV a b vs = true := by
  unfold alikeV
  rw [List.all_eq_true]
  intro v _
  rw [h]
  exact eq3_refl _
/-- None of the variables that stand there has a bind. -/
theorem varsL_none (s : Int → Bool) (L : List Tr) (a : List Int) (h : (varsL a L).all s = true) : ∀ x ∈ L, x.1 = 1 → s x.2.1 = true := by
  induction L generalizing a with
  | nil => intro x hx; cases hx
  | cons y L ih =>
    intro x hx h1
    have hmono : ∀ (L : List Tr) (b : List Int) (v : Int), v ∈ b → v ∈ varsL b L := by
      intro L
      induction L with
      | nil => intro b v hv; exact hv
      | cons z L i2 =>
        intro b v hv
        refine i2 _ v ?_
        unfold addV
        split
        · exact List.mem_append_left _ hv
        · exact hv
    rcases List.mem_cons.1 hx with rfl | hx
    · refine List.all_eq_true.1 h _ (hmono L _ _ ?_)
      unfold addV
      by_cases hm : x.2.1 ∈ a
      · rw [if_neg (by simp [hm])]; exact hm
      · rw [if_pos ⟨h1, hm⟩]; simp
    · exact ih _ h x hx h1
theorem free_pre (s : Sg) (f : Fo) (h : ∀ x ∈ f.pre, x.1 = 1 → (s x.2.1).isNone = true) : f.free s = true := by
  induction f with
  | nil => rfl
  | cons k n u ps r i1 i2 =>
    simp only [Fo.pre] at h
    have h0 := h (k, n, u) (by simp)
    have h1 := i1 fun x hx => h x (by simp [hx])
    have h2 := i2 fun x hx => h x (by simp [hx])
    unfold Fo.free
    rw [h1, h2]
    by_cases hk : k = 1
    · have h0' : (s n).isNone = true := h0 hk
      rw [h0']; simp
    · simp [hk]
/-- Applied twice, a solved one does as applied once. -/
theorem sub_idem (s : Sg) (h : ∀ n x, s n = some x → Fo.sub1 s x.1 x.2.1 x.2.2 = (x.1, x.2.1, x.2.2.pure)) (f : Fo) : (f.sub s).sub s = f.sub s := by
  induction f with
  | nil => rfl
  | cons k n u ps r i1 i2 =>
    rcases Fo.cases_sub s k n with ⟨hk, x, hx⟩ | h1
    · rw [Fo.sub_has hk hx, Fo.sub_cons, i2, Fo.sub1_pure, h n x hx]
    · rw [Fo.sub_not h1, Fo.sub_not h1, i1, i2]
theorem solved_idem (l : List Bnd) (h : solvedV l = true) (k n : Int) (ps : Fo) : Fo.sub1 (sg l) (Fo.sub1 (sg l) k n ps).1 (Fo.sub1 (sg l) k n ps).2.1 (Fo.sub1 (sg l) k n ps).2.2 = Fo.sub1 (sg l) k n ps := by
  have key := sub_idem (sg l) (fun m x hx => by
    unfold sg at hx
    obtain ⟨b, hb, rfl⟩ := Option.map_eq_some_iff.1 hx
    have hmem : b ∈ cnt l := cnt_mem.2 (by rw [fnd_var hb]; exact hb)
    have hf := List.all_eq_true.1 h b hmem
    unfold freeB at hf
    have h2 := varsL_none (fun v => (fnd l v).isNone) _ [] hf
    have h3 : (Fo.cons b.2.1 b.2.2.1 b.2.2.2.1 b.2.2.2.2 .nil).free (sg l) = true := free_pre _ _ fun x hx h1 => by
      have := h2 x hx h1
      unfold sg
      simpa using this
    have h4 := Fo.sub_free _ _ h3
    rw [Fo.sub_cons] at h4
    simp only [Fo.pure] at h4
    injection h4 with e1 e2 _ e4 _
    simp only [sgB, Fo.sub1_pure, Fo.pure_pure]
    exact Prod.ext e1 (Prod.ext e2 e4)) (.cons k n (none, 0, 0) ps .nil)
  rw [sub1_cons, sub1_cons] at key
  injection key with h1 h2 _ h4 _
  exact Prod.ext h1 (Prod.ext h2 h4)
end Go.Proofs.YtifdbmdfkhnojaaDoor
