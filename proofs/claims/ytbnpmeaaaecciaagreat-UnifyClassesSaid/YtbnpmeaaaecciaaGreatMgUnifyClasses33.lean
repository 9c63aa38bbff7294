/- Texts of one proof, one behind the other. -/
import Derived.Test.YtbnpmeaaaecciaaGreatMgUnifyClasses32
import Derived.Test.YtbnpmeaaaecciaaGreatMgUnifyClasses19
import Derived.Test.YtbnpmeaaaecciaaGreatMgUnifyClasses11
import Derived.Test.YtbnpmeaaaecciaaGreatShKs
import Derived.Test.YtbnpmeaaaecciaaGreatMgUnifyClasses30
import Derived.Test.YtbnpmeaaaecciaaGreatShSo
import Derived.Sort.Row
import Derived.Sort.Grow
/- UnifyFirst, walked. -/
namespace Go.Proofs.YtbnpmeaaaecciaaGreat
open Go.RowKit
open Un (rowI)
set_option maxRecDepth 100000
theorem EqV.upto {B : Nat} {w : World} {l : List Eqn} {A : Option Addr} {c : Nat} (h : EqV B w l (.slice A l.length c)) (k : Nat) (hk : k ≤ l.length) : EqV B w (l.take k) (.slice A k c) := by
  obtain ⟨A', c', hv, h1, h2⟩ := h
  injection hv with e1 e2 e3
  subst e1 e3
  refine ⟨A, c, by rw [List.length_take, Nat.min_eq_left hk], fun hn => ?_, fun x hx => h2 x (List.mem_of_mem_take hx)⟩
  rw [List.length_take] at hn
  obtain ⟨b, off, hA, hb, hc, hm, hat⟩ := h1 (by omega)
  refine ⟨b, off, hA, hb, by rw [List.length_take]; omega, hm, fun i hi => ?_⟩
  rw [List.length_take] at hi
  rw [List.getElem_take]
  exact hat i (by omega)
theorem EqV.capt {B : Nat} {w : World} {l : List Eqn} {A : Option Addr} {c : Nat} (h : EqV B w l (.slice A l.length c)) (h0 : 0 < l.length) : l.length ≤ c ∧ c ≤ 9223372036854775807 := by
  obtain ⟨A', c', hv, h1, _⟩ := h
  injection hv with e1 e2 e3
  subst e1 e3
  obtain ⟨_, _, _, _, hc, hm, _⟩ := h1 h0
  unfold maxLen at hm
  exact ⟨hc, by omega⟩
theorem EqV.lenle {B : Nat} {w : World} {l : List Eqn} {v : Value} (h : EqV B w l v) : l.length ≤ 9223372036854775807 := by
  obtain ⟨A, c, _, h1, _⟩ := h
  by_cases h0 : 0 < l.length
  · obtain ⟨_, _, _, _, h2, h3, _⟩ := h1 h0
    unfold maxLen at h3
    omega
  · omega
theorem noClash_nil : ¬ Clash [] [] := by
  rintro ⟨x, y, p, q, _, hp, _⟩
  simp at hp
theorem FirstIs.uniq {l : List Eqn} {i k : Nat} {e f : Int} (h : FirstIs l i e) (h' : FirstIs l k f) : i = k ∧ e = f := by
  have key : ∀ (i k : Nat) (x y : Eqn), i < k → l[i]? = some x → (∀ z ∈ l.take k, rtE z = true) → ¬ Clash (cls (l.take k)).1 (cls (l.take k)).2 → ((rtE x = false) ∨ Clash (cls (l.take (i + 1))).1 (cls (l.take (i + 1))).2) → False := by
    intro i k x y hik hx hr hn hc
    rcases hc with hc | hc
    · have : x ∈ l.take k := List.mem_of_getElem? (i := i) (by rw [List.getElem?_take_of_lt hik]; exact hx)
      rw [hr x this] at hc
      cases hc
    · refine hn ?_
      have e : l.take k = l.take (i + 1) ++ (l.take k).drop (i + 1) := by
        have := (List.take_append_drop (i + 1) (l.take k)).symm
        rwa [List.take_take, Nat.min_eq_left (by omega)] at this
      rw [e, cls_app]
      exact Clash.later (by obtain ⟨X, h1, _⟩ := (fold_pre ((l.take k).drop (i + 1)) (cls (l.take (i + 1)))).1; exact ⟨X, h1⟩) (fold_pre ((l.take k).drop (i + 1)) (cls (l.take (i + 1)))).2 hc
  have key2 : ∀ (i : Nat) (x : Eqn), l[i]? = some x → (∀ z ∈ l, rtE z = true) → ¬ Clash (cls l).1 (cls l).2 → ((rtE x = false) ∨ Clash (cls (l.take (i + 1))).1 (cls (l.take (i + 1))).2) → False := by
    intro i x hx hr hn hc
    have hi := (List.getElem?_eq_some_iff.1 hx).1
    refine key i l.length x x hi hx ?_ ?_ hc
    · rw [List.take_length]; exact hr
    · rw [List.take_length]; exact hn
  rcases h with ⟨x, hx, hr, hn, hc⟩ | ⟨rfl, rfl, hr, hn⟩
  · rcases h' with ⟨y, hy, hr', hn', hc'⟩ | ⟨rfl, rfl, hr', hn'⟩
    · have c1 : rtE x = false ∨ Clash (cls (l.take (i + 1))).1 (cls (l.take (i + 1))).2 := hc.imp (fun h => h.1) fun h => h.2.1
      have c2 : rtE y = false ∨ Clash (cls (l.take (k + 1))).1 (cls (l.take (k + 1))).2 := hc'.imp (fun h => h.1) fun h => h.2.1
      rcases Nat.lt_trichotomy i k with h | rfl | h
      · exact (key i k x x h hx hr' hn' c1).elim
      · rw [hx] at hy
        cases hy
        rcases hc with ⟨a1, rfl⟩ | ⟨a1, _, rfl⟩
        · rcases hc' with ⟨_, rfl⟩ | ⟨b1, _, _⟩
          · exact ⟨rfl, rfl⟩
          · rw [a1] at b1; cases b1
        · rcases hc' with ⟨b1, _⟩ | ⟨_, _, rfl⟩
          · rw [a1] at b1; cases b1
          · exact ⟨rfl, rfl⟩
      · exact (key k i y y h hy hr hn c2).elim
    · exact (key2 i x hx hr' hn' (hc.imp (fun h => h.1) fun h => h.2.1)).elim
  · rcases h' with ⟨y, hy, hr', hn', hc'⟩ | ⟨rfl, rfl, hr', hn'⟩
    · exact (key2 k y hy hr hn (hc'.imp (fun h => h.1) fun h => h.2.1)).elim
    · exact ⟨rfl, rfl⟩
end Go.Proofs.YtbnpmeaaaecciaaGreat
/- graph's Vars: the map's keys, sorted. -/
namespace Go.Proofs.YtbnpmeaaaecciaaGreat
open Go.RowKit Go.Maps Go.Sort Go.Shelf
set_option maxRecDepth 100000
/-- slices.Sort's two contracts at this program. -/
theorem sortsV (m : Nat) : AnyZI.SortsIn Tryz.prog Tryz.sortedV_ren Fence.wide m :=
  ⟨fun blk off cap ss W hH hblk hsz => callsIn_wide.2 (AnyM.slices_Sort_int Tryz.sortV blk off cap ss W hH hblk hsz),
   fun p cap W => callsIn_wide.2 (AnyM.slices_Sort_int_none Tryz.sortV p cap W)⟩
/-- A map's keys are the variables. -/
theorem keys_names {G : List Gn} {b : Nat} {W : World} {k : Nat} {D : DataW Value} (hown : W.ownsMap Tryz.prog 3 heldE b k D) (hnd : (names G).Nodup) (hwf : ∀ n ∈ names G, (Lit.int .i64 n).wf = true)
    (hh : ∀ n : Int, (Lit.int .i64 n).wf = true → has D (.int .i64 n) = (gvf G n).isSome) : (names G).Perm (intKeys D) := by
  obtain ⟨es, hD, hpw, -⟩ := hown.entries lawI
  obtain ⟨es', hD', hko⟩ := hown.keysOf
  obtain rfl : es = es' := by rw [hD] at hD'; simpa using hD'
  subst hD
  have hw := intKeys_wf hown Tryz.underlying3
  refine perm_intKeys hpw (fun p hp => by obtain ⟨v, hv⟩ := hko p hp; obtain ⟨x, _, hx, _⟩ := Maps.keyOf_i64 Tryz.underlying3 hv; exact ⟨x, hx⟩) hnd (fun x => ?_)
  rw [← gvar_names]
  have e2 : (gvf G x).isSome = (gvar G x).isSome := by unfold gvf; cases gvar G x <;> rfl
  constructor
  · intro h
    rw [hh x (hwf x ((gvar_names G x).1 h)), e2]
    exact h
  · intro h
    have hx : x ∈ intKeys (.map es) := by
      rw [has_eq, List.any_eq_true] at h
      obtain ⟨p, hp, hs⟩ := h
      obtain ⟨v, hv⟩ := hko p hp
      obtain ⟨a, _, ha, _⟩ := Maps.keyOf_i64 Tryz.underlying3 hv
      rw [ha] at hs
      exact List.mem_map.2 ⟨p, hp, by rw [ha]; simpa [Lit.sameKey, Go.intOf] using hs⟩
    rw [hh x (hw x hx), e2] at h
    exact h
set_option maxHeartbeats 4000000 in
theorem vars_graph (w : World) (B g mb : Nat) (v : Value) (L : List Nd) (G : List Gn) (hG : GrM B w g v mb L G) (hl : G.length ≤ 1000000) (hnd : (names G).Nodup) (hwf : ∀ n ∈ names G, (Lit.int .i64 n).wf = true) :
    Calls Tryz.prog 41 #[.pointer (some ⟨g, 0, none⟩)] w fun e w' => ∃ v', e = .returned v' ∧ w'.ownsRow w.heap.size 3 1 v' (vsort G).length (ints (vsort G)) ∧ Below w.heap.size w w' := by
  obtain ⟨S, kk, D0, hown, hkk, hT, hS, hh⟩ := hG.vars
  have hperm := keys_names hown hnd hwf (fun n hn => (hh n hn).1)
  have hsz : Maps.size D0 ≤ 1000000 := by
    obtain ⟨es, hD, -⟩ := hown.keysOf
    subst hD
    have h1 := hperm.length_eq
    have h2 : (names G).length ≤ G.length := List.length_filterMap_le _ _
    simp only [intKeys, List.length_map] at h1
    simp only [Maps.size]
    omega
  refine (callsIn_wide (n := 6)).1 ?_
  have hbl := hown.lt
  have hseq : SeqGives Fence.wide 2 Tryz.prog 85 #[.pointer (some ⟨w.heap.size, 0, none⟩)] encZ (fun ss => ss.Perm (intKeys D0)) (Maps.size D0) (w.alloc (.cells #[.map (some mb)] 61)) :=
    AnyZI.keys_gives (ρ := Tryz.keysV_ren) { Tryz.keysV with } Fence.wide _ trivial rfl (by omega) w.heap.size mb kk D0 _ (by simp) (by simp) (by
      obtain ⟨es, clock, hb, Ft, hs, hD⟩ := hown
      exact ⟨es, clock, (Below.heap_alloc _ _ mb hbl).trans hb, Ft, hs, hD⟩)
  have cK : ∀ m W, CallsIn Fence.wide 5 Tryz.prog 66 #[.map m] W fun e w' => e = .returned (.func (.func 85) #[] #[.pointer (some ⟨W.heap.size, 0, none⟩)]) ∧ w' = W.alloc (.cells #[.map m] 61) := fun m W => AnyZI.keys_in Tryz.keysV Fence.wide 5 trivial rfl m W
  have cS := AnyZI.sorted_in Tryz.sortedV Fence.wide 5 trivial trivial trivial trivial rfl (by omega) (sortsV _) (enters_of Tryz.func44 (by kernel_rfl) rfl) 85 #[.pointer (some ⟨w.heap.size, 0, none⟩)] trivial (enters_of Tryz.func85 (by kernel_rfl) rfl) _ _ (by unfold maxLen; omega) (by omega) _ hseq
  change CallsIn _ _ Tryz.prog 65 _ _ _ at cS
  have hfK : Fence.wide.fn 66 := trivial
  have hfS : Fence.wide.fn 65 := trivial
  have g1 : w.cell? ⟨g, 1, none⟩ = some (.map (some mb)) := cell_of_row w _ 1 _ _ (0, 0) hG.cell
  have HP := Lib.hid hperm
  clear hG hown hT hh hperm hseq
  refine callsIn_of_wp Tryz.func41 rfl trivial ?_ rfl
  simp only [Tryz.ntmps41, List.size_toArray, List.length_cons, List.length_nil, Nat.reduceAdd, Nat.reduceSub, Array.replicate_succ, Array.replicate_zero, List.push_toArray, List.append_toArray, List.nil_append, List.cons_append]
  gi_wp2_with (first
    | (gi_at_call 66; refine (cK _ _).mono ?_; rintro e w' ⟨rfl, rfl⟩)
    | (gi_at_call 65; refine cS.mono ?_; rintro e w' ⟨v, ss, rfl, hS, hrow, hnil, hb⟩))
  go_ret
  refine ⟨v, rfl, ?_, ((Below.refl _ w).alloc (Nat.le_refl _) _).trans (hb.mono (by simp))⟩
  have h1 := ownsRow_base_a hrow (show w.heap.size ≤ _ by simp)
  have h2 := vsort_eq G ss (hS.trans HP.out.symm)
  have h3 : ss.length = (vsort G).length := by rw [← h2]; exact (List.mergeSort_perm _ _).length_eq.symm
  rw [h2, h3] at h1
  exact h1
end Go.Proofs.YtbnpmeaaaecciaaGreat
/- unify: a closure's variables; questions of a closure that doesn't clash. -/
namespace Go.Proofs.YtbnpmeaaaecciaaGreat
open Go.RowKit
open Un (Else dg cnt own_else)
set_option maxRecDepth 100000
section
variable {O T : Nat → Prop} {w w' : World} {cb m : Nat} {G : List Gn} {E : List (Nat × Nat)} {st fs f : Int} {s : Sys} {b : Nat}
theorem vars_cs (h : CsM O w cb G E st fs m) (hl : G.length ≤ 1000000) (hg : GN G) :
    Calls Tryz.prog 17 #[.pointer (some ⟨cb, 0, none⟩)] w fun e w' => ∃ v', e = .returned v' ∧ w'.ownsRow w.heap.size 3 1 v' (vsort G).length (ints (vsort G)) ∧ Below w.heap.size w w' := by
  obtain ⟨⟨A, kn, nx, col, ro, hC, _⟩, _⟩ := h
  obtain ⟨hl0, _, _, _, c2, _, _⟩ := hC.cells
  have HV := Lib.hid (vars_graph w 0 A.g A.mb A.V A.L G hC.gr hl hg.1 hg.2)
  clear hC
  go_enter Tryz.func17, Tryz.ntmps17
  go_wp2_with fail
  refine HV.out.mono ?_
  rintro e w2 ⟨v', rfl, hr, hb⟩
  obtain ⟨Av, cv, rfl, _, _⟩ := Un.own_form hr
  have HR := Lib.hid (And.intro hr hb)
  clear hr hb HV
  go_wp2_with fail
  exact bodyPost_ret (results_tmp rfl _ _ _) rfl ⟨.slice Av (vsort G).length cv, rfl, HR.out.1, HR.out.2⟩
/-- A closure that doesn't clash; its forest's steps are bounded. -/
def CQ (O : Nat → Prop) (w : World) (cb : Nat) (s : Sys) (f : Int) : Prop := ∃ st fs m, CsM O w cb s.1 s.2 st fs m ∧ 0 ≤ fs ∧ fs ≤ f
theorem Clo.cq (h : Clo O w cb s b) (hn : ¬ Clash s.1 s.2) : CQ O w cb s (b * 100000000) := by
  rcases h with ⟨st, fs, m, hC, _, _, h3, h4⟩ | ⟨hc, _⟩
  · exact ⟨st, fs, m, hC, h3, h4⟩
  · exact absurd hc hn
theorem CQ.keep (h : CQ O w cb s f) (he : Else T w w') (ht : ∀ k, O k → ¬ T k) : CQ O w' cb s f := by
  obtain ⟨st, fs, m, hC, h2⟩ := h
  exact ⟨st, fs, m, hC.keep he ht, h2⟩
theorem CQ.more {f' : Int} (h : CQ O w cb s f) (hf : f ≤ f') : CQ O w cb s f' := by
  obtain ⟨st, fs, m, hC, h2, h3⟩ := h
  exact ⟨st, fs, m, hC, h2, by omega⟩
theorem CQ.below (h : CQ O w cb s f) (hb : Below w.heap.size w w') : CQ O w' cb s f := h.keep (T := fun _ => False) (Else.of_below hb) fun _ _ e => e
theorem same_cq (h : CQ O w cb s f) (hf : f ≤ 1000000000000) (hG : s.1.length ≤ 500000) (x y : Int) (hx : (Lit.int .i64 x).wf = true) (hy : (Lit.int .i64 y).wf = true) :
    Calls Tryz.prog 19 #[.pointer (some ⟨cb, 0, none⟩), .int .i64 x, .int .i64 y] w fun e w' => ∃ t : Bool, e = .returned (.bool t) ∧ (t = true ↔ SameIs s.1 s.2 x y) ∧ CQ O w' cb s (f + 42) ∧ Else O w w' := by
  obtain ⟨st, fs, m, hC, h2, h3⟩ := h
  refine (same_cs hC (by omega) hG x y hx hy).mono ?_
  rintro e w' ⟨t, k, rfl, ht, hk, hC', hE⟩
  have hd : dg s.1.length ≤ 21 := Un.dg_le (by omega)
  exact ⟨t, rfl, ht, ⟨st, _, m, hC', by omega, by omega⟩, hE⟩
theorem kind_cq (h : CQ O w cb s f) (hf : f ≤ 1000000000000) (hG : s.1.length ≤ 500000) (x : Int) (hx : (Lit.int .i64 x).wf = true) :
    Calls Tryz.prog 18 #[.pointer (some ⟨cb, 0, none⟩), .int .i64 x] w fun e w' => ∃ r : Int, e = .returned (.int .i64 r) ∧ KindIs s.1 s.2 x r ∧ CQ O w' cb s (f + 42) ∧ Else O w w' := by
  obtain ⟨st, fs, m, hC, h2, h3⟩ := h
  refine (kind_cs hC (by omega) x hx).mono ?_
  rintro e w' ⟨r, k, rfl, hr, hk, hC', hE⟩
  have hd : dg s.1.length ≤ 21 := Un.dg_le (by omega)
  exact ⟨r, rfl, hr, ⟨st, _, m, hC', by omega, by omega⟩, hE⟩
theorem err_clo (h : Clo O w cb s b) : Calls Tryz.prog 9 #[.pointer (some ⟨cb, 0, none⟩)] w fun e w' => (∃ r : Int, e = .returned (.int .i64 r) ∧ ((r = 7 ∧ Clash s.1 s.2) ∨ (r = 0 ∧ ¬ Clash s.1 s.2))) ∧ w' = w := by
  rcases h with ⟨st, fs, m, hC, _⟩ | ⟨hc, _, _, st, hx⟩
  · exact (err_cs hC).mono fun e w' ⟨h1, h2⟩ => ⟨⟨0, h1, .inr ⟨rfl, hC.noClash⟩⟩, h2⟩
  · exact (err_cx hx).mono fun e w' ⟨h1, h2⟩ => ⟨⟨7, h1, .inl ⟨rfl, hc⟩⟩, h2⟩
end
/-- A variable's node stays the first one. -/
theorem gvar_later {G X : List Gn} {v : Int} {i : Nat} (h : gvar G v = some i) : gvar (G ++ X) v = some i := by
  induction G generalizing i with
  | nil => cases h
  | cons x G ih =>
    simp only [gvar, List.cons_append] at h ⊢
    split at h
    · rename_i hx
      rw [if_pos hx]
      exact h
    · rename_i hx
      obtain ⟨j, hj, rfl⟩ := Option.map_eq_some_iff.1 h
      rw [if_neg hx, ih hj]
      rfl
theorem SameIs.later {s t : Sys} (hX : ∃ X, t.1 = s.1 ++ X) (hY : ∃ Y, t.2 = s.2 ++ Y) {a b : Int} (h : SameIs s.1 s.2 a b) : SameIs t.1 t.2 a b := by
  obtain ⟨i, j, h1, h2, h3⟩ := h
  obtain ⟨X, hX'⟩ := hX
  refine ⟨i, j, ?_, ?_, h3.later ⟨X, hX'⟩ hY⟩
  · rw [hX']; exact gvar_later h1
  · rw [hX']; exact gvar_later h2
/-- A kind that is known stays. -/
theorem KindIs.later {s t : Sys} (hX : ∃ X, t.1 = s.1 ++ X) (hY : ∃ Y, t.2 = s.2 ++ Y) (hn : ¬ Clash t.1 t.2) {v r r' : Int} (h : KindIs s.1 s.2 v r) (h' : KindIs t.1 t.2 v r') (h0 : r ≠ 0) : r' = r := by
  unfold KindIs at h h'
  cases hg : gvar s.1 v with
  | none => rw [hg] at h; exact absurd h h0
  | some i =>
    rw [hg] at h
    obtain ⟨X, hX'⟩ := hX
    have hg' : gvar t.1 v = some i := by rw [hX']; exact gvar_later hg
    rw [hg'] at h'
    rcases h with ⟨y, q, h1, h2, h3, rfl⟩ | ⟨h, _⟩
    · have h1' := Cl.later ⟨X, hX'⟩ hY h1
      have h2' : t.1[y]? = some q := by rw [hX']; exact app_get h2
      rcases h' with ⟨z, p, g1, g2, g3, rfl⟩ | ⟨_, g⟩
      · apply Decidable.byContradiction
        intro hne
        exact hn ⟨z, y, p, q, g1.symm.trans h1', g2, h2', g3, h3, fun e => hne e.1⟩
      · exact absurd (g y q h1' h2') h3
    · exact absurd h h0
end Go.Proofs.YtbnpmeaaaecciaaGreat
/- UnifyMore, walked. -/
namespace Go.Proofs.YtbnpmeaaaecciaaGreat
open Go.RowKit
open Un (Else dg cnt own_else)
set_option maxRecDepth 100000
theorem EqV.len_le {B : Nat} {w : World} {l : List Eqn} {v : Value} (h : EqV B w l v) : l.length ≤ 9223372036854775807 := by
  obtain ⟨A, c, _, h1, _⟩ := h
  by_cases h0 : 0 < l.length
  · obtain ⟨_, _, _, _, h2, h3, _⟩ := h1 h0
    unfold maxLen at h3
    omega
  · omega
/-- Two new closures. -/
theorem Two.new {w4 w5 w6 : World} {c d : Nat} (h5 : CsM (fun k => w4.heap.size ≤ k) w5 c [] [] 0 0 0) (hb5 : Below w4.heap.size w4 w5) (h6 : CsM (fun k => w5.heap.size ≤ k) w6 d [] [] 0 0 0) (hb6 : Below w5.heap.size w5 w6) : Two w4.heap.size w6 c d ([], []) ([], []) 0 := by
  obtain ⟨Oc, a1, a2⟩ := h5.tight
  obtain ⟨Od, b1, b2⟩ := h6.tight
  have hs5 := hb5.size
  have hs6 := hb6.size
  refine ⟨Oc, Od, .inl ⟨0, 0, 0, a2.below hb6, by omega, by omega, by omega, by omega⟩, .inl ⟨0, 0, 0, b2, by omega, by omega, by omega, by omega⟩, fun k hk => ?_, fun k hk => ?_, fun k hk hd => ?_⟩
  · have := a1 k hk; omega
  · have := b1 k hk; omega
  · have := a1 k hk
    have := b1 k hd
    omega
theorem two_err {w : World} {B b c d : Nat} {s t : Sys} (h : Two B w c d s t b) : Calls Tryz.prog 9 #[.pointer (some ⟨d, 0, none⟩)] w fun e w' => (∃ r : Int, e = .returned (.int .i64 r) ∧ ((r = 7 ∧ Clash t.1 t.2) ∨ (r = 0 ∧ ¬ Clash t.1 t.2))) ∧ w' = w := by
  obtain ⟨_, _, _, h2, _⟩ := h
  exact err_clo h2
theorem fold_take (m : List Eqn) (s : Sys) (j : Nat) (hj : j < m.length) : (m.take (j + 1)).foldl stp s = stp ((m.take j).foldl stp s) m[j] := by
  rw [List.take_add_one, List.getElem?_eq_getElem hj, List.foldl_append]
  rfl
theorem rt_of {l : List Eqn} {j : Nat} (hj : j < (rights l).length) : rtE (rights l)[j] = true := (List.mem_filter.1 (List.getElem_mem hj)).2
theorem sz_of {l : List Eqn} {j : Nat} (hj : j < l.length) : esz (l.take j) + sz1 l[j] ≤ esz l := by
  rw [← esz_step l j hj]
  exact esz_take l (j + 1)
theorem vsort_mem {G : List Gn} {i : Nat} {a : Int} (h : (vsort G)[i]? = some a) : a ∈ names G := by
  have hp := (vfold G [] List.Pairwise.nil).2
  have := hp.mem_iff.1 (List.mem_of_getElem? h)
  simpa using this
theorem vars_cq {O : Nat → Prop} {w : World} {cb : Nat} {s : Sys} {f : Int} (h : CQ O w cb s f) (hl : s.1.length ≤ 1000000) (hg : GN s.1) :
    Calls Tryz.prog 17 #[.pointer (some ⟨cb, 0, none⟩)] w fun e w' => ∃ v', e = .returned v' ∧ w'.ownsRow w.heap.size 3 1 v' (vsort s.1).length (ints (vsort s.1)) ∧ Below w.heap.size w w' := by
  obtain ⟨st, fs, m, hC, _⟩ := h
  exact vars_cs hC hl hg
theorem err_cq {O : Nat → Prop} {w : World} {cb : Nat} {s : Sys} {f : Int} (h : CQ O w cb s f) : Calls Tryz.prog 9 #[.pointer (some ⟨cb, 0, none⟩)] w fun e w' => e = .returned (.int .i64 0) ∧ w' = w := by
  obtain ⟨st, fs, m, hC, _⟩ := h
  exact err_cs hC
end Go.Proofs.YtbnpmeaaaecciaaGreat
/- unify: the variables of a variable's class. -/
namespace Go.Proofs.YtbnpmeaaaecciaaGreat
open Go.RowKit Go.Sort
open Un (Else dg cnt own_else Rings Ring Pth)
set_option maxRecDepth 100000
theorem sort_ints (w : World) (B g cap : Nat) (z : List Int) (hown : w.ownsRow B 3 1 (.slice (some ⟨g, 0, none⟩) z.length cap) z.length (ints z)) (hl : z.length ≤ 1048576) :
    Calls Tryz.prog 44 #[.slice (some ⟨g, 0, none⟩) z.length cap] w fun e w' => e = .returned (.tuple #[]) ∧ ∃ z' : List Int, z'.Perm z ∧ z'.Pairwise (· ≤ ·) ∧ Rd w' 1 (.slice (some ⟨g, 0, none⟩) z.length cap) z.length (ints z') ∧ Else (fun k => k = g) w w' := by
  obtain ⟨hgl, hcap, hcm⟩ : g < w.heap.size ∧ z.length ≤ cap ∧ cap ≤ maxLen := by
    rcases hown.2 with ⟨h, _⟩ | ⟨g', cap', cur, hv, _, hh, h1, h2, _⟩
    · cases h
    · injection hv with hv _ hc
      injection hv with hv
      injection hv with hv
      subst hv; subst hc
      exact ⟨(Array.getElem?_eq_some_iff.1 hh).1, h1, h2⟩
  have hcell : ∀ j, (hj : j < z.length) → w.cell? ⟨g, j, none⟩ = some (.int .i64 z[j]) := by
    intro j hj
    rw [hown.cellAt j (by omega)]
    simp [ints, hj]
  have hH : Holds (Value.int .i64) w g 0 z.toArray := by
    intro j hj
    have hj' : j < z.length := by simpa using hj
    refine ⟨?_, ?_⟩
    · rw [Nat.zero_add, hcell j hj']
      congr 2
      rw [getElem!_pos z.toArray j hj]
      simp
    · rw [Nat.zero_add]; exact hown.frozenAt j
  have hc := Tryz.slices_Sort_int g 0 cap z w hH hgl (by omega)
  refine hc.mono ?_
  rintro e w' ⟨rfl, n, os, rfl⟩
  have hperm : (z.mergeSort fun x y => decide (x ≤ y)).Perm z := List.mergeSort_perm _ _
  have hpw : (z.mergeSort fun x y => decide (x ≤ y)).Pairwise (fun a b => decide (a ≤ b) = true) := List.pairwise_mergeSort (fun a b c h1 h2 => by simp at h1 h2 ⊢; omega) (fun a b => by simp; omega) _
  generalize (z.mergeSort fun x y => decide (x ≤ y)) = z' at *
  have hz'l : z'.length = z.length := hperm.length_eq
  refine ⟨rfl, z', hperm, hpw.imp fun h => by simpa using h, ?_, ?_⟩
  · refine ⟨by rw [ints_len, hz'l]; omega, .inr ⟨g, 0, cap, rfl, hcap, hcm, by simp [grow]; omega, fun j u hu => ?_⟩⟩
    have hj : j < z'.length := by have := (List.getElem?_eq_some_iff.1 hu).1; rwa [ints_len] at this
    have hcp := cell?_putRow (Value.int .i64) (Sort.ahead w n) g 0 z.toArray z'.toArray (holds_ahead _ _ _ _ _ _ hH) (by simp; omega) j (by simpa using hj)
    rw [Nat.zero_add] at hcp ⊢
    have hgrow : (grow (putRow (Value.int .i64) (Sort.ahead w n) g 0 z'.toArray) os).cell? ⟨g, j, none⟩ = (putRow (Value.int .i64) (Sort.ahead w n) g 0 z'.toArray).cell? ⟨g, j, none⟩ := World.cell?_of_block (heap_grow_old _ _ (by simp; omega))
    rw [hgrow, hcp, ← hu]
    rw [getElem!_pos z'.toArray j (by simpa using hj)]
    simp [ints, hj]
  · refine ⟨rfl, rfl, rfl, by simp [grow], fun k hk hne => ?_⟩
    rw [heap_grow_old _ _ (by simp; omega)]
    show ((Sort.ahead w n).heap.modify g _)[k]? = _
    rw [Array.getElem?_modify, if_neg (by simpa using Ne.symm hne)]
    rfl
/-- An int put behind a row. -/
theorem app_io (B : Nat) (w : World) (hB : B ≤ w.heap.size) (v : Value) (z : List Int) (hown : w.ownsRow B 3 1 v z.length (ints z)) (x : Int) (hn : z.length ≤ 10000000) :
    ∃ g cp w1, (app_ #[41, 41] 41 #[v, .slice (some ⟨w.heap.size, 0, none⟩) 1 1]).run Tryz.prog (w.alloc (.cells #[.int .i64 x] 3)) = .ok (.slice (some ⟨g, 0, none⟩) (z.length + 1) cp) w1 ∧
      w1.ownsRow B 3 1 (.slice (some ⟨g, 0, none⟩) (z.length + 1) cp) (z ++ [x]).length (ints (z ++ [x])) ∧ Below B w w1 := by
  obtain ⟨i0, hi0, hz0, hz1, hz2⟩ := Un.info_parts Un.intInfo
  have own1 := hown.alloc (.cells #[.int .i64 x] 3)
  have rd1 : Rd (w.alloc (.cells #[.int .i64 x] 3)) 1 (.slice (some ⟨w.heap.size, 0, none⟩) 1 1) 1 [.int .i64 x] := rd_new w [.int .i64 x] 3 1 1 rfl (by unfold maxLen; omega)
  obtain ⟨v', w1, hrun, hown1, hg1, _⟩ := run_append_rd (P := Tryz.prog) _ B 41 41 3 i0 _ 1 8 Tryz.underlying41 hi0 hz0 hz1 hz2 rfl (by omega) v _ _ own1 _ 1 _ rd1 (by simp [Value.oneCell']) (by unfold maxLen; omega) (by omega) (by rw [World.size_alloc]; omega)
  obtain ⟨g, cp, rfl, _, _⟩ := Un.own_shape hown1 (by omega)
  refine ⟨g, cp, w1, hrun, ?_, ((Below.refl B w).alloc hB _).grown hg1 (by rw [World.size_alloc]; omega) fun k hk => (hown.lt k hk).1⟩
  rw [List.length_append]
  have e : ints (z ++ [x]) = ints z ++ [.int .i64 x] := by simp [ints]
  rw [e]
  exact hown1
attribute [local go_sem] Oper.semAt_some
attribute [local go_sem ↓] builtin_app
/-- Numbers of nodes, by name. -/
def nmL (G : List Gn) (L : List Nat) : List Int := L.map (nmG G)
theorem names_at {G : List Gn} {a : Int} (h : a ∈ names G) : ∃ i p, G[i]? = some p ∧ p.1 = 1 ∧ p.2.1 = a ∧ gvar G a = some i := by
  have h2 := (gvar_names G a).2 h
  obtain ⟨i, hi⟩ := Option.isSome_iff_exists.1 h2
  obtain ⟨p, hp, p1, p2⟩ := gvar_at hi
  exact ⟨i, p, hp, p1, p2, hi⟩
/-- A variable's only node. -/
theorem gvar_node {G : List Gn} (hg : GN G) {i : Nat} {p : Gn} (hp : G[i]? = some p) (p1 : p.1 = 1) : gvar G p.2.1 = some i := by
  induction G generalizing i with
  | nil => simp at hp
  | cons x G ih =>
    have hn : names (x :: G) = (if x.1 = 1 then [x.2.1] else []) ++ names G := by
      unfold names
      by_cases h : x.1 = 1 <;> simp [h]
    have hg' : GN G := by
      refine ⟨?_, fun n hn' => hg.2 n (by rw [hn]; exact List.mem_append_right _ hn')⟩
      have := hg.1
      rw [hn] at this
      exact (List.nodup_append.1 this).2.1
    cases i with
    | zero =>
      simp only [List.getElem?_cons_zero, Option.some.injEq] at hp
      subst hp
      simp [gvar, p1]
    | succ i =>
      simp only [List.getElem?_cons_succ] at hp
      have hm := ih hg' hp
      simp only [gvar]
      split
      · rename_i hx
        exfalso
        have hmem : p.2.1 ∈ names G := (gvar_names G _).1 (by rw [hm]; rfl)
        have := hg.1
        rw [hn, if_pos hx.1] at this
        exact (List.nodup_append.1 this).2.2 x.2.1 (by simp) p.2.1 hmem hx.2
      · rw [hm]
        rfl
section UzJs
variable {O : Nat → Prop} {w : World} {cb m : Nat} {G : List Gn} {E : List (Nat × Nat)} {st fs : Int}
/-- What the variables of a variable's class are. -/
def ClassIs (G : List Gn) (E : List (Nat × Nat)) (v : Int) (ys : List Int) : Prop := ys.Nodup ∧ ys.Pairwise (· ≤ ·) ∧ ∀ a, a ∈ ys ↔ SameIs G E v a
theorem ClassIs.uniq {G H : List Gn} {E F : List (Nat × Nat)} {v : Int} {ys zs : List Int} (h : ClassIs G E v ys) (k : ClassIs H F v zs) (he : ∀ a, SameIs G E v a ↔ SameIs H F v a) : ys = zs := by
  have hp : ys.Perm zs := (List.perm_ext_iff_of_nodup h.1 k.1).2 fun a => by rw [h.2.2, k.2.2, he]
  exact List.Perm.eq_of_pairwise (le := fun a b => a ≤ b) (fun a b _ _ h1 h2 => Int.le_antisymm h1 h2) h.2.1 k.2.1 hp
theorem nodup_map_on {f : Nat → Int} {L : List Nat} (hf : ∀ x, x ∈ L → ∀ y, y ∈ L → f x = f y → x = y) (hn : L.Nodup) : (L.map f).Nodup := by
  induction L with
  | nil => exact List.nodup_nil
  | cons a L ih =>
    rw [List.nodup_cons] at hn
    rw [List.map_cons, List.nodup_cons]
    refine ⟨fun h => ?_, ih (fun x hx y hy => hf x (List.mem_cons_of_mem _ hx) y (List.mem_cons_of_mem _ hy)) hn.2⟩
    obtain ⟨b, hb, e⟩ := List.mem_map.1 h
    have := hf b (List.mem_cons_of_mem _ hb) a List.mem_cons_self e
    subst this
    exact hn.1 hb
set_option maxHeartbeats 4000000 in
theorem class_cs (h : CsM O w cb G E st fs m) (hl : G.length ≤ 500000) (hg : GN G) (v : Int) (hv : (Lit.int .i64 v).wf = true) :
    Calls Tryz.prog 20 #[.pointer (some ⟨cb, 0, none⟩), .int .i64 v] w fun e w' => ∃ (v' : Value) (ys : List Int), e = .returned v' ∧ Rd w' 1 v' ys.length (ints ys) ∧ ClassIs G E v ys ∧ ys.length ≤ G.length ∧ Below w.heap.size w w' := by
  obtain ⟨⟨A, kn, nx, col, ro, hC, hJ, hR, _⟩, _⟩ := h
  obtain ⟨hl0, _, _, _, c2, _, c7⟩ := hC.cells
  have HV := node_cl hC v hv
  obtain ⟨An, cn, hN, _, _⟩ := Un.own_form hC.nr
  rw [hN] at c7
  have HC := Lib.hid (And.intro hC (And.intro hJ hN))
  clear hC hJ hN
  cases hgv : gvar G v with
  | none =>
    rw [hgv] at HV
    have HVH := Lib.hid HV
    clear HV
    go_enter Tryz.func20, Tryz.ntmps20
    go_wp2_with fail
    refine HVH.out.mono ?_
    rintro e w2 ⟨rfl, hb⟩
    have HB := Lib.hid hb
    clear hb HVH
    go_wp2_with fail
    refine bodyPost_ret (results_tmp rfl _ _ _) rfl ⟨.slice none 0 0, [], rfl, ?_, ⟨List.nodup_nil, List.Pairwise.nil, fun a => ?_⟩, by simp, HB.out⟩
    · exact Rd.of_own (base := 0) (e := 3) (World.ownsRow_nil _ _ _ _)
    · simp only [List.not_mem_nil, false_iff]
      rintro ⟨i, j, h1, _⟩
      rw [hgv] at h1
      cases h1
  | some i =>
    rw [hgv] at HV
    have hi := gvar_lt hgv
    obtain ⟨L, hL⟩ := hR i hi
    obtain ⟨M, hLM, hpth⟩ := hL.next
    obtain ⟨_, _, hnd, hmem⟩ := hL
    rw [hLM] at hnd hmem
    obtain ⟨pv, hpv, pv1, pv2⟩ := gvar_at hgv
    have hvi : isV G i = true := isV_of ⟨pv, hpv, pv1⟩
    have hML : (i :: M).length ≤ G.length := by
      have hp : (i :: M).Perm ((List.range G.length).filter fun k => vc G col k == vc G col i) := by
        refine (List.perm_ext_iff_of_nodup hnd (List.Pairwise.filter _ List.nodup_range)).2 fun a => ?_
        rw [hmem, List.mem_filter, List.mem_range, beq_iff_eq]
      rw [hp.length_eq]
      have := List.length_filter_le (fun k => vc G col k == vc G col i) (List.range G.length)
      simpa using this
    have hvar : ∀ j ∈ (i :: M), ∃ p, G[j]? = some p ∧ p.1 = 1 := fun j hj => by
      rcases (vc_iff j i).1 ((hmem j).1 hj).2 with rfl | ⟨h1, _, _⟩
      · exact ⟨pv, hpv, pv1⟩
      · exact of_isV h1
    have hnr := HC.out.1.nr
    rw [HC.out.2.2] at hnr
    obtain ⟨nb, cn', hN2, _, _⟩ := Un.own_shape hnr (by omega)
    cases hN2
    have HCELL : Hid (∀ W, Below w.heap.size w W → W.cell? ⟨cb, 7, none⟩ = some (.slice (some ⟨nb, 0, none⟩) G.length cn) ∧ (∀ j, j < G.length → W.cell? ⟨nb, j, none⟩ = some (.int .i64 (nx j : Nat))) ∧ W.cell? ⟨cb, 2, none⟩ = some (.pointer (some ⟨A.g, 0, none⟩)) ∧ cb < W.heap.size) := Lib.hid fun W hb => ⟨(hb.cell (World.block_lt_of_cell? _ _ c7)).trans c7, fun j hj => by
      have h := (hnr.cellAt j (by omega)).trans (Un.rowI_get hj)
      exact (hb.cell (World.block_lt_of_cell? _ _ h)).trans h, (hb.cell (World.block_lt_of_cell? _ _ c2)).trans c2, Nat.lt_of_lt_of_le hl0 hb.size⟩
    have HVH := Lib.hid HV
    have HM := Lib.hid (And.intro hnd (And.intro hmem (And.intro hML (And.intro hvar (And.intro hpth (And.intro hvi (And.intro hpv pv2)))))))
    clear HV hnd hmem hvar hpth hnr c2 c7 hLM hvi hpv pv1 pv2 hML
    go_enter Tryz.func20, Tryz.ntmps20
    go_wp2_with fail
    refine HVH.out.mono ?_
    rintro e w2 ⟨rfl, hb⟩
    have HB2 := Lib.hid hb
    have hb3 : Below w.heap.size w (w2.alloc (.cells #[.int .i64 v] 3)) := hb.alloc hb.size _
    obtain ⟨k7, kn8, k2, kl⟩ := HCELL.out _ hb3
    have kni := kn8 i hi
    clear hb HVH kn8
    dsimp only [Option.getD_some, Option.isSome_some]
    go_wp2_with fail
    go_loopw [7, 8] (fun s t wr => ∃ (P Q : List Nat) (cur : Nat), M = P ++ Q ∧ t = .int .i64 (cur : Nat) ∧ Pth nx cur Q i ∧ wr.ownsRow w.heap.size 3 1 s (nmL G (i :: P)).length (ints (nmL G (i :: P))) ∧ Below w.heap.size w wr) (fun s _ _ => M.length + 1 - todoN s)
    case atStart =>
      refine ⟨[], M, nx i, rfl, rfl, HM.out.2.2.2.2.1, ?_, hb3⟩
      have e : nmG G i = v := by
        unfold nmG
        rw [HM.out.2.2.2.2.2.2.1]
        exact HM.out.2.2.2.2.2.2.2
      simp only [nmL, List.map_cons, List.map_nil, e]
      exact ⟨rfl, .inr ⟨w2.heap.size, 1, #[.int .i64 v], rfl, HB2.out.size, heap_alloc_new _ _, Nat.le_refl _, by unfold maxLen; omega, rfl, rfl⟩⟩
    case round =>
      obtain ⟨P, Q, cur, hPQ, rfl, hp, hown, hb⟩ := hrel
      clear k7 kni k2 kl hb3
      obtain ⟨As, cs, rfl, _, _⟩ := Un.own_form hown
      have hlP : (nmL G (i :: P)).length = P.length + 1 := by simp [nmL]
      have hMl : M.length = P.length + Q.length := by rw [hPQ, List.length_append]
      have hnl : M.length + 1 ≤ G.length := by simpa using HM.out.2.2.1
      cases Q with
      | nil =>
        cases hp
        have hown' := hown
        obtain ⟨gs, cs', e8, _, _⟩ := Un.own_shape hown (by omega)
        cases e8
        have HSo := Lib.hid (sort_ints wr w.heap.size gs cs (nmL G (i :: P)) hown (by omega))
        have HH := Lib.hid (And.intro hown (And.intro hb hPQ))
        rw [hlP] at HSo
        rw [hlP]
        have HHL := Lib.hid hlP
        clear hown hb hown' hlP hPQ
        go_wp2_with fail
        refine HSo.out.mono ?_
        rintro e w3 ⟨rfl, ys, hperm, hpw, hrd, hE⟩
        have HY := Lib.hid (And.intro hperm (And.intro hpw (And.intro hrd hE)))
        clear hperm hpw hrd hE HSo
        go_wp2_with fail
        obtain ⟨hperm, hpw, hrd, hE⟩ := HY.out
        obtain ⟨hown, hb, hPQ⟩ := HH.out
        rw [List.append_nil] at hPQ
        subst hPQ
        obtain ⟨hnd, hmem, hML, hvar, _, hvi, hpv, pv2⟩ := HM.out
        have hyl : ys.length = M.length + 1 := by rw [hperm.length_eq, HHL.out]
        refine bodyPost_ret (results_tmp rfl _ _ _) rfl ⟨_, ys, rfl, by rw [hyl]; exact hrd, ⟨?_, hpw, fun a => ?_⟩, by omega, hb.trans (hE.below (fun j hj => by subst hj; exact (hown.lt _ rfl).1) hb.size)⟩
        · refine hperm.nodup_iff.2 ?_
          unfold nmL
          refine nodup_map_on (fun x hx y hy hxy => ?_) hnd
          obtain ⟨p, hp, p1⟩ := hvar x hx
          obtain ⟨q, hq, q1⟩ := hvar y hy
          have e1 : nmG G x = p.2.1 := by unfold nmG; rw [hp]; rfl
          have e2 : nmG G y = q.2.1 := by unfold nmG; rw [hq]; rfl
          have g1 := gvar_node hg hp p1
          have g2 := gvar_node hg hq q1
          rw [← e1, hxy, e2, g2] at g1
          exact (Option.some.inj g1).symm
        · rw [hperm.mem_iff]
          unfold nmL
          rw [List.mem_map]
          constructor
          · rintro ⟨x, hx, rfl⟩
            obtain ⟨p, hp, p1⟩ := hvar x hx
            have e1 : nmG G x = p.2.1 := by unfold nmG; rw [hp]; rfl
            have g1 := gvar_node hg hp p1
            rw [← e1] at g1
            refine ⟨i, x, hgv, g1, ?_⟩
            rcases (vc_iff x i).1 ((hmem x).1 hx).2 with rfl | ⟨_, _, h3⟩
            · exact .refl _
            · exact HC.out.2.1.jn.done.2 (.inr ⟨hi, ((hmem x).1 hx).1, h3.symm⟩)
          · rintro ⟨i', x, h1, h2, h3⟩
            rw [hgv] at h1
            cases h1
            obtain ⟨p, hp, p1, p2⟩ := gvar_at h2
            refine ⟨x, (hmem x).2 ⟨lt_of_get hp, (vc_iff x i).2 ?_⟩, ?_⟩
            · rcases HC.out.2.1.jn.done.1 h3 with rfl | ⟨_, _, e⟩
              · exact .inl rfl
              · exact .inr ⟨isV_of ⟨p, hp, p1⟩, hvi, e.symm⟩
            · unfold nmG
              rw [hp]
              exact p2
      | cons q Q =>
        obtain ⟨hqc, hp1⟩ : q = cur ∧ Pth nx (nx q) Q i := by
          cases hp with
          | cons h => exact ⟨rfl, h⟩
        clear hp
        subst hqc
        have hp := hp1
        clear hp1
        have hqm : q ∈ (i :: M) := by rw [hPQ]; simp
        have hqi : q ≠ i := by
          rintro rfl
          have := HM.out.1
          rw [hPQ] at this
          simp at this
        have hqn : q < G.length := ((HM.out.2.1 q).1 hqm).1
        obtain ⟨p, hpq, p1⟩ := HM.out.2.2.2.1 q hqm
        have f1 : ((q : Int) != (i : Int)) = true := by simp; omega
        obtain ⟨k7, kn8, k2, kl⟩ := HCELL.out _ hb
        have hgr := HC.out.1.gr
        have HNM := name_in wr 0 A.g A.mb A.V A.L G (HC.out.1.gr.stay fun k hk => hb.block k (HC.out.1.gr.blocks hk)) q hqn
        have hpe : G[q] = p := (List.getElem?_eq_some_iff.1 hpq).2
        rw [hpe, if_pos p1] at HNM
        have HNH := Lib.hid HNM
        have HH := Lib.hid (And.intro hown (And.intro hb (And.intro hPQ (And.intro hp (And.intro hpq hlP)))))
        rw [hlP]
        clear hown hb hp hpq hpe HNM kn8 hgr hPQ hqm hlP
        go_wp2_with fail
        refine HNH.out.mono ?_
        rintro e w3 ⟨rfl, hb3⟩
        have hb3' : Below w.heap.size w w3 := HH.out.2.1.trans (hb3.mono HH.out.2.1.size)
        have hown3 := own_below HH.out.1 hb3
        obtain ⟨g4, c4, w4, hrun, hown4, hb4⟩ := app_io w.heap.size w3 hb3'.size _ (nmL G (i :: P)) hown3 p.2.1 (by have := HH.out.2.2.2.2.2; omega)
        rw [HH.out.2.2.2.2.2] at hrun
        have hb4' : Below w.heap.size w w4 := hb3'.trans hb4
        obtain ⟨m7, mn8, m2, ml⟩ := HCELL.out _ hb4'
        have mnq := mn8 q hqn
        have H4 := Lib.hid (And.intro hown4 hb4')
        clear hb3 hb3' hown3 hown4 hb4 hb4' HNH mn8
        go_wp2_with fail
        obtain ⟨hown, hb, hPQ, hp, hpq, hlP⟩ := HH.out
        refine ⟨⟨P ++ [q], Q, nx q, by rw [hPQ, List.append_assoc]; rfl, rfl, hp, ?_, H4.out.2⟩, ?_⟩
        · have e : nmL G (i :: (P ++ [q])) = nmL G (i :: P) ++ [p.2.1] := by
            unfold nmL
            rw [← List.cons_append, List.map_append]
            simp [nmG, hpq]
          rw [e]
          have h := H4.out.1
          rw [List.length_append, hlP] at h ⊢
          exact h
        · simp only [todoN]
          rw [hPQ, List.length_append, List.length_cons]
          omega
end UzJs
end Go.Proofs.YtbnpmeaaaecciaaGreat
