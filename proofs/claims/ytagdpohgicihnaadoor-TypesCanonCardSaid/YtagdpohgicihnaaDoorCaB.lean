/- types.Canon's closure, and what its map has. -/
import Derived.Test.YtagdpohgicihnaaDoorVaA
import Derived.Test.YtagdpohgicihnaaDoorAwA
import Derived.Test.YtagdpohgicihnaaDoorVaC
import Derived.Test.YtagdpohgicihnaaDoorChD
namespace Go.Proofs.YtagdpohgicihnaaDoor
open Go.RowKit Go.Shelf Go.Maps Go.WideShapes

/-- The place of a number among some; 0 of one that isn't there. -/
def idx : List Int → Int → Int
  | [], _ => 0
  | a :: r, n => if n = a then 0 else if n ∈ r then 1 + idx r n else 0
theorem idx_not {L : List Int} {n : Int} (h : ¬ n ∈ L) : idx L n = 0 := by
  cases L with
  | nil => rfl
  | cons a r => simp only [List.mem_cons, not_or] at h; simp [idx, h.1, h.2]
theorem idx_map (f : Int → Int) (L : List Int) (hf : ∀ a ∈ L, ∀ b ∈ L, f a = f b → a = b) (n : Int) (hn : n ∈ L) : idx (L.map f) (f n) = idx L n := by
  induction L with
  | nil => cases hn
  | cons a r ih =>
    by_cases e : n = a
    · subst e; simp [idx]
    · have hr : n ∈ r := by
        rcases List.mem_cons.1 hn with h | h
        · exact absurd h e
        · exact h
      have he : ¬ f n = f a := fun h => e (hf n hn a (List.mem_cons_self ..) h)
      have hm : f n ∈ r.map f := List.mem_map_of_mem hr
      have h2 := ih (fun x hx y hy h => hf x (List.mem_cons_of_mem _ hx) y (List.mem_cons_of_mem _ hy) h) hr
      rw [List.map_cons, idx, if_neg he, if_pos hm, idx, if_neg e, if_pos hr, h2]
theorem idx_inj (L : List Int) (a b : Int) (ha : a ∈ L) (hb : b ∈ L) (h : idx L a = idx L b) : a = b := by
  induction L with
  | nil => cases ha
  | cons c r ih =>
    have pos : ∀ (r : List Int) (n : Int), 0 ≤ idx r n := by
      intro r n
      induction r with
      | nil => simp [idx]
      | cons d r ih2 => unfold idx; split <;> (try split) <;> omega
    simp only [idx] at h
    by_cases e1 : a = c
    · by_cases e2 : b = c
      · rw [e1, e2]
      · have hb' : b ∈ r := (List.mem_cons.1 hb).resolve_left e2
        rw [if_pos e1, if_neg e2, if_pos hb'] at h
        have := pos r b
        omega
    · have ha' : a ∈ r := (List.mem_cons.1 ha).resolve_left e1
      by_cases e2 : b = c
      · rw [if_neg e1, if_pos ha', if_pos e2] at h
        have := pos r a
        omega
      · have hb' : b ∈ r := (List.mem_cons.1 hb).resolve_left e2
        rw [if_neg e1, if_pos ha', if_neg e2, if_pos hb'] at h
        exact ih ha' hb' (by omega)
theorem varsL_sub (P : List Tr) (l : List Int) : ∀ a ∈ l, a ∈ varsL l P := by
  induction P generalizing l with
  | nil => intro a ha; exact ha
  | cons x r ih =>
    intro a ha
    refine ih (addV l x) a ?_
    unfold addV
    split
    · exact List.mem_append_left _ ha
    · exact ha
theorem varsL_has (P : List Tr) (l : List Int) : ∀ x ∈ P, x.1 = 1 → x.2.1 ∈ varsL l P := by
  induction P generalizing l with
  | nil => intro x hx; cases hx
  | cons y r ih =>
    intro x hx h1
    rcases List.mem_cons.1 hx with rfl | hx
    · refine varsL_sub r (addV l x) _ ?_
      unfold addV
      by_cases h2 : x.2.1 ∈ l
      · rw [if_neg (by simp [h2])]; exact h2
      · rw [if_pos ⟨h1, h2⟩]; simp
    · exact ih (addV l y) x hx h1
/-- Kinds and numbers alone. -/
def kn (x : Tr) : Int × Int := (x.1, x.2.1)
theorem addV_kn (l : List Int) (x y : Tr) (h : kn x = kn y) : addV l x = addV l y := by
  unfold kn at h
  simp only [Prod.mk.injEq] at h
  unfold addV
  rw [h.1, h.2]
/-- Variables under other names, one for one. -/
theorem varsL_map (f : Int → Int) (P P' : List Tr) (l : List Int) (hP : P'.map kn = P.map fun x => (x.1, nm f x.1 x.2.1)) (hf : ∀ a ∈ varsL l P, ∀ b ∈ varsL l P, f a = f b → a = b) : varsL (l.map f) P' = (varsL l P).map f := by
  induction P generalizing P' l with
  | nil =>
    cases P' with
    | nil => rfl
    | cons y r => simp at hP
  | cons x r ih =>
    cases P' with
    | nil => simp at hP
    | cons y r' =>
      simp only [List.map_cons, List.cons.injEq] at hP
      obtain ⟨h1, h2⟩ := hP
      have hy : addV (l.map f) y = (addV l x).map f := by
        simp only [kn, Prod.mk.injEq] at h1
        unfold addV
        rw [h1.1, h1.2]
        by_cases e : x.1 = 1
        · have en : nm f x.1 x.2.1 = f x.2.1 := by rw [nm, if_pos e]
          rw [en]
          by_cases hm : x.2.1 ∈ l
          · have hm2 : f x.2.1 ∈ l.map f := List.mem_map_of_mem hm
            rw [if_neg (fun h => h.2 hm2), if_neg (fun h => h.2 hm)]
          · have hm2 : ¬ f x.2.1 ∈ l.map f := by
              intro h
              obtain ⟨b, hb, hbe⟩ := List.mem_map.1 h
              have hx := varsL_has (x :: r) l x (List.mem_cons_self ..) e
              have hb' := varsL_sub (x :: r) l b hb
              exact hm (hf b hb' _ hx hbe ▸ hb)
            rw [if_pos ⟨e, hm2⟩, if_pos ⟨e, hm⟩, List.map_append]
            rfl
        · rw [if_neg (fun h => e h.1), if_neg (fun h => e h.1)]
      show varsL (addV (l.map f) y) r' = (varsL (addV l x) r).map f
      rw [hy]
      exact ih r' (addV l x) h2 hf
theorem Img.pre {f : Int → Int} {F G : Fo} (h : Img f F G) : G.pre.map kn = F.pre.map fun x => (x.1, nm f x.1 x.2.1) := by
  induction F generalizing G with
  | nil => cases G <;> simp_all [Img, Fo.pre]
  | cons k n u ps r ih1 ih2 =>
    cases G with
    | nil => simp [Img] at h
    | cons k' n' u' ps' r' =>
      simp only [Img] at h
      simp only [Fo.pre, List.map_cons, List.map_append, ih1 h.2.2.1, ih2 h.2.2.2, kn]
      rw [h.1, h.2.1]
/-- Two that come of one by numbers that agree are the same. -/
theorem Img.agree {f g : Int → Int} {F A B : Fo} (ha : Img f F A) (hb : Img g F B) (h : ∀ x ∈ F.pre, x.1 = 1 → f x.2.1 = g x.2.1) : A.same B = true := by
  induction F generalizing A B with
  | nil => cases A <;> cases B <;> simp_all [Img, Fo.same]
  | cons k n u ps r ih1 ih2 =>
    cases A with
    | nil => simp [Img] at ha
    | cons a1 a2 a3 a4 a5 =>
      cases B with
      | nil => simp [Img] at hb
      | cons b1 b2 b3 b4 b5 =>
        simp only [Img] at ha hb
        have h0 : nm f k n = nm g k n := by
          unfold nm
          split
          · rename_i e; exact h (k, n, u) (by simp [Fo.pre]) e
          · rfl
        have i1 := ih1 ha.2.2.1 hb.2.2.1 (fun x hx => h x (by simp [Fo.pre, hx]))
        have i2 := ih2 ha.2.2.2 hb.2.2.2 (fun x hx => h x (by simp [Fo.pre, hx]))
        simp only [Fo.same, i1, i2, Bool.and_true, Bool.and_eq_true, beq_iff_eq]
        exact ⟨ha.1.trans hb.1.symm, ha.2.1.trans (h0.trans hb.2.1.symm)⟩
theorem Img.comp {f g : Int → Int} {F A B : Fo} (ha : Img f F A) (hb : Img g A B) : Img (fun n => g (f n)) F B := by
  induction F generalizing A B with
  | nil => cases A <;> cases B <;> simp_all [Img]
  | cons k n u ps r ih1 ih2 =>
    cases A with
    | nil => simp [Img] at ha
    | cons a1 a2 a3 a4 a5 =>
      cases B with
      | nil => simp [Img] at hb
      | cons b1 b2 b3 b4 b5 =>
        simp only [Img] at ha hb ⊢
        refine ⟨hb.1.trans ha.1, ?_, ih1 ha.2.2.1 hb.2.2.1, ih2 ha.2.2.2 hb.2.2.2⟩
        rw [hb.2.1, ha.1, ha.2.1]
        unfold nm
        by_cases e : k = 1
        · rw [if_pos e, if_pos e, if_pos e]
        · rw [if_neg e, if_neg e, if_neg e]
/-- The canonical numbers of a type that has another one's, one for one. -/
theorem canon_again {f : Int → Int} {k n : Int} {F F' : Fo} (h : Img f F F') (hf : ∀ a ∈ varsL [] ((k, n, ((none, 0, 0) : Sl)) :: F.pre), ∀ b ∈ varsL [] ((k, n, ((none, 0, 0) : Sl)) :: F.pre), f a = f b → a = b)
    {A B : Fo} (hA : Img (idx (varsL [] ((k, n, ((none, 0, 0) : Sl)) :: F.pre))) F A) (hB : Img (idx (varsL [] ((k, nm f k n, ((none, 0, 0) : Sl)) :: F'.pre))) F' B) :
    nm (idx (varsL [] ((k, nm f k n, ((none, 0, 0) : Sl)) :: F'.pre))) k (nm f k n) = nm (idx (varsL [] ((k, n, ((none, 0, 0) : Sl)) :: F.pre))) k n ∧ B.same A = true := by
  obtain ⟨L, hL⟩ : ∃ L, varsL [] ((k, n, ((none, 0, 0) : Sl)) :: F.pre) = L := ⟨_, rfl⟩
  have hm : varsL [] ((k, nm f k n, ((none, 0, 0) : Sl)) :: F'.pre) = L.map f := by
    rw [← hL]
    refine varsL_map f ((k, n, ((none, 0, 0) : Sl)) :: F.pre) _ [] ?_ hf
    simp [kn, h.pre]
  have hin : ∀ x ∈ ((k, n, ((none, 0, 0) : Sl)) :: F.pre), x.1 = 1 → x.2.1 ∈ L := fun x hx h1 => hL ▸ varsL_has _ [] x hx h1
  rw [hL] at hA hf ⊢
  rw [hm] at hB ⊢
  have hk : ∀ x ∈ ((k, n, ((none, 0, 0) : Sl)) :: F.pre), x.1 = 1 → idx (L.map f) (f x.2.1) = idx L x.2.1 := fun x hx h1 => idx_map f L hf _ (hin x hx h1)
  refine ⟨?_, (h.comp hB).agree hA fun x hx h1 => hk x (List.mem_cons_of_mem _ hx) h1⟩
  unfold nm
  by_cases e : k = 1
  · rw [if_pos e, if_pos e, if_pos e]
    exact hk _ (List.mem_cons_self ..) e
  · rw [if_neg e, if_neg e, if_neg e]

theorem zeroI (w : World) : (zeroValue 3).run Tryd.prog w = .ok (.int .i64 0) w := by kernel_rfl
theorem idx_snoc (L : List Int) (v n : Int) (hv : ¬ v ∈ L) : idx (L ++ [v]) n = if n = v then (L.length : Int) else idx L n := by
  induction L with
  | nil => by_cases e : n = v <;> simp [idx, e]
  | cons a r ih =>
    simp only [List.mem_cons, not_or] at hv
    have h := ih hv.2
    rw [List.cons_append, idx, idx]
    by_cases e : n = a
    · have e2 : ¬ n = v := fun h => hv.1 (h ▸ e)
      rw [if_pos e, if_neg e2, if_pos e]
    · by_cases e2 : n = v
      · rw [if_neg e, if_pos (by simp [e2]), h, if_pos e2, if_pos e2, List.length_cons]
        omega
      · rw [if_neg e, if_neg e2, if_neg e, h, if_neg e2]
        by_cases e3 : n ∈ r
        · rw [if_pos (by simp [e3]), if_pos e3]
        · rw [if_neg (by simp [e3, e2]), if_neg e3]
theorem varsL_nodup (P : List Tr) (l : List Int) (h : l.Nodup) : (varsL l P).Nodup := by
  induction P generalizing l with
  | nil => exact h
  | cons x r ih =>
    refine ih (addV l x) ?_
    unfold addV
    split
    · rename_i hx
      rw [List.nodup_append]
      refine ⟨h, by simp, fun a ha b hb e => ?_⟩
      obtain rfl : b = x.2.1 := by simpa using hb
      exact hx.2 (e ▸ ha)
    · exact h
theorem varsL_wf (P : List Tr) (l : List Int) (hl : ∀ a ∈ l, (Lit.int .i64 a).wf = true) (hP : ∀ x ∈ P, (Lit.int .i64 x.2.1).wf = true) : ∀ a ∈ varsL l P, (Lit.int .i64 a).wf = true := by
  induction P generalizing l with
  | nil => exact hl
  | cons x r ih =>
    refine ih (addV l x) ?_ (fun y hy => hP y (List.mem_cons_of_mem _ hy))
    unfold addV
    split
    · intro a ha
      rcases List.mem_append.1 ha with ha | ha
      · exact hl a ha
      · obtain rfl : a = x.2.1 := by simpa using ha
        exact hP x (List.mem_cons_self ..)
    · exact hl
/-- A map that has each of some numbers' places. -/
def MapP (L : List Int) (b : Nat) (W : World) : Prop :=
  ∃ (k : Nat) (D : DataW Unit), W.ownsMap Tryd.prog 3 (plainElem Tryd.prog 3) b k D ∧ k ≤ L.length ∧ IsMap D ∧ ∀ n : Int, (Lit.int .i64 n).wf = true → D.atKey (.int .i64 n) (.lit (.int .i64 0)) = .lit (.int .i64 (idx L n))
theorem MapP.made (w : World) : MapP [] w.heap.size (w.alloc (.map #[] 0)) := ⟨0, .map [], World.ownsMap_made _ _ _ _, Nat.le_refl _, isMap_empty, fun _ _ => rfl⟩
theorem MapP.of_block {L : List Int} {b : Nat} {W W' : World} (h : MapP L b W) (e : W'.heap[b]? = W.heap[b]?) : MapP L b W' := by
  obtain ⟨k, D, ⟨es, ck, hm, h1⟩, h2⟩ := h
  exact ⟨k, D, ⟨es, ck, e.trans hm, h1⟩, h2⟩
theorem MapP.isMap {L : List Int} {b : Nat} {W : World} (h : MapP L b W) : ∃ es ck, W.heap[b]? = some (Obj.map es ck) := by
  obtain ⟨_, _, ⟨es, ck, hm, _⟩, _⟩ := h
  exact ⟨es, ck, hm⟩
theorem MapP.look {L : List Int} {b : Nat} {W : World} (h : MapP L b W) (hL : ∀ a ∈ L, (Lit.int .i64 a).wf = true) (m : Int) : (Instr.lookup 83 (.map (some b)) (.int .i64 m) false).run Tryd.prog W = .ok (.int .i64 (idx L m)) W := by
  obtain ⟨k, D, h1, _, _, h3⟩ := h
  by_cases hm : (Lit.int .i64 m).wf = true
  · obtain ⟨c, hrun, hat, _⟩ := h1.lookup_int lawI Tryd.underlying83 Tryd.underlying3 (zeroI W) (keyOf_int_mk Tryd.underlying3 hm)
    rw [h3 m hm] at hat
    simp only [DataW.lit.injEq, Lit.int.injEq, true_and] at hat
    rw [hrun, hat]
  · have hz : idx L m = 0 := idx_not fun h => hm (hL m h)
    obtain ⟨es, clock, hb, F, _, _⟩ := h1
    have hik : MapKept.IsKey (.int .i64) (.int .i64 m) := rfl
    have hks : ∀ y ∈ es.toList, MapKept.IsKey (.int .i64) y.key := fun y hy => by
      obtain ⟨l, hl⟩ := F.keys y hy
      have hl2 : mapKey Tryd.prog 3 y.key = some l := by simpa [keyOf, Tryd.underlying3] using hl
      obtain ⟨d, hd, hi, _⟩ := mapKey_isKey hl2
      rw [Tryd.underlying3] at hd
      cases hd
      exact hi
    rcases MapKept.findNow_spec hik es.toList 0 hks with ⟨f1, _⟩ | ⟨j, e0, _, f2, f3⟩
    · have f4 := MapKept.run_findKey (P := Tryd.prog) (w := W) Tryd.underlying3 f1
      have f5 := MapKept.run_checkKey (P := Tryd.prog) (w := W) Tryd.underlying3 hik es.isEmpty 9999
      rw [hz]
      simp [Instr.lookup, run_underlying Tryd.underlying83, MapKept.run_getObj_map hb, f5, f4, zeroI W, Result.andThen]
    · exfalso
      obtain ⟨l, hl⟩ := F.keys e0 (List.mem_of_getElem? f2)
      rw [f3] at hl
      have : (Lit.int .i64 m).wf = true := by
        simp [keyOf, Tryd.underlying3, mapKey] at hl
        exact hl.1
      exact hm this
theorem MapP.put {L : List Int} {b : Nat} {W : World} (h : MapP L b W) (hl : L.length ≤ 1000000) (v : Int) (hv : (Lit.int .i64 v).wf = true) (hn : ¬ v ∈ L) : ∃ W', (Instr.mapUpdate 83 (.map (some b)) (.int .i64 v) (.int .i64 (L.length : Int))).run Tryd.prog W = .ok () W' ∧ MapP (L ++ [v]) b W' ∧ W.grownBy W' (some b) := by
  obtain ⟨k, D, h1, h2, hm, h3⟩ := h
  have hw : (Lit.int .i64 (L.length : Int)).wf = true := by
    simp only [Lit.wf, Bool.and_eq_true, decide_eq_true_eq]
    exact ⟨by have : IntKind.i64.min = -9223372036854775808 := by decide
              omega, by have : IntKind.i64.max = 9223372036854775807 := by decide
                        omega⟩
  obtain ⟨w', hrun, ho, hg⟩ := h1.update lawI Tryd.underlying83 (by unfold maxLen; omega) (keyOf_int_mk Tryd.underlying3 hv) (plainElem_int Tryd.underlying3 hw)
  refine ⟨w', hrun, ⟨k + 1, _, ho, by simp; omega, hm.put _ _, fun m hm2 => ?_⟩, hg⟩
  rw [idx_snoc L v m hn]
  by_cases e : m = v
  · subst e
    rw [atKey_put_same hm (by trivial), if_pos rfl]
  · rw [atKey_put_other (by simpa using e), h3 m hm2, if_neg e]
theorem grown_trans {a b c : World} {row : Option Nat} (h : a.grownBy b row) (k : b.grownBy c row) : a.grownBy c row :=
  ⟨k.os.trans h.os, k.tape.trans h.tape, k.output.trans h.output, Nat.le_trans h.size k.size, fun j hj hne => (k.block j (Nat.lt_of_lt_of_le hj h.size) hne).trans (h.block j hj hne)⟩
theorem canon1_any {L : List Int} {b4 bm : Nat} {W : World} (hb : Boxed W b4 83 (.map (some bm))) (hm : MapP L bm W) (hL : ∀ a ∈ L, (Lit.int .i64 a).wf = true) (m : Int) :
    Calls Tryd.prog 48 (#[.int .i64 m] ++ #[.pointer (some ⟨b4, 0, none⟩)]) W fun e W' => e = .returned (.int .i64 (idx L m)) ∧ W' = W := by
  have lk := hm.look hL m
  have c := hb.cell
  show Calls _ _ #[.int .i64 m, .pointer (some ⟨b4, 0, none⟩)] _ _
  clear hb hm hL
  go_enter Tryd.func48, Tryd.ntmps48
  go_wp2
  go_ret
  exact ⟨rfl, rfl⟩
end Go.Proofs.YtagdpohgicihnaaDoor
