/- The contracts of slices.SortFunc and slices.Clone at spans, as package span calls them. -/
import Derived.Test.YtlifkfihpmkffaaSpA
import Derived.Test.YtlifkfihpmkffaaShSort
namespace Go.Proofs.Ytlifkfihpmkffaa
open Go.RowKit Go.Lib Go.Sort

set_option maxHeartbeats 1000000 in
theorem cmpClosure (x y : Sp) (W : World) : Calls Try.prog 59 #[.agg #[.int .i64 x.1, .int .i64 x.2], .agg #[.int .i64 y.1, .int .i64 y.2]] W fun e w' => e = .returned (.int .i64 (Lib.compareInt x.1 y.1)) ∧ ∃ q os', w' = grow (W.drewN q) os' := by
  have hcon := fun W' => AnyG.cmp_Compare_int Try.cmpSp x.1 y.1 W'
  change ∀ W', Calls Try.prog 60 _ _ _ at hcon
  generalize Lib.compareInt x.1 y.1 = r at hcon ⊢
  go_enter Try.func59, Try.ntmps59
  go_wp2_with (go_at_call 60; refine (hcon _).mono ?_; rintro e w' ⟨rfl, rfl⟩)
  go_ret
  exact ⟨rfl, 0, _, by rw [alloc_eq_grow, alloc_eq_grow, grow_grow]; rfl⟩
theorem cmpLaysSp (blk off size : Nat) (w : World) : CmpLays Try.prog 59 #[] enc2 2 (fun x y => Lib.compareInt x.1 y.1) blk off size w :=
  fun _ _ _ _ x y => cmpClosure x y _
theorem ltFrom (x y : Sp) : ltOf (fun x y : Sp => Lib.compareInt x.1 y.1) x y = decide (x.1 < y.1) := by
  unfold ltOf Lib.compareInt
  by_cases h1 : x.1 < y.1
  · simp [h1]
  · by_cases h2 : y.1 < x.1 <;> simp [h1, h2]
theorem swoFrom : SWO (ltOf fun x y : Sp => Lib.compareInt x.1 y.1) where
  irrefl x := by rw [ltFrom]; simp
  trans x y z h1 h2 := by rw [ltFrom] at *; simp at *; omega
  ntrans x y z h1 h2 := by rw [ltFrom] at *; simp at *; omega

theorem flatK_get (l : List Sp) (j : Nat) (hj : j < l.length * 2) : (spCells l)[j]? = some ((flatK enc2 2 l.toArray)[j]!) := by
  rw [get_flatK _ _ _ _ (by simpa using hj)]
  have h1 : j / 2 < l.length := by omega
  have h2 : j % 2 < 2 := Nat.mod_lt _ (by omega)
  have h := flat2 l (j / 2) (j % 2) h1 h2
  rw [show j / 2 * 2 + j % 2 = j by omega] at h
  rw [h]
  have e : l.toArray[j / 2]! = l[j / 2] := by
    rw [getElem!_pos _ _ (by simpa using h1)]
    simp
  rw [e]
  have hc : j % 2 = 0 ∨ j % 2 = 1 := by omega
  rcases hc with hc | hc <;> rw [hc] <;> rfl
theorem below_sorted (w : World) (base g n : Nat) (F : Array Value) (os : Array Obj) (hb : base ≤ g) (_hg : g < w.heap.size) : RowKit.Below base w (grow (putRow id (Sort.ahead w n) g 0 F) os) := by
  refine ⟨rfl, rfl, rfl, by simp, fun k hk => ?_⟩
  rw [heap_grow_old _ _ (by simp; omega)]
  show ((Sort.ahead w n).heap.modify g _)[k]? = _
  rw [Array.getElem?_modify, if_neg (by omega)]
  rfl

set_option maxHeartbeats 1000000 in
theorem sort_any (w : World) (base : Nat) (v : Value) (l : List Sp) (hown : w.ownsRow base 25 2 v l.length (spCells l)) (hlen : l.length ≤ 1000000) :
    Calls Try.prog 58 #[v, .func (.func 59) #[] #[]] w fun e w' => e = .returned (.tuple #[]) ∧ ∃ l', l'.Perm l ∧ l'.Pairwise (fun a b => a.1 ≤ b.1) ∧ RdS w' v l' ∧ RowKit.Below base w w' := by
  have hcopy := hown
  rcases hown.2 with ⟨rfl, h0⟩ | ⟨g, cap, cur, rfl, hbg, hg, hnc, hcm, _, _⟩
  · have : l = [] := List.eq_nil_of_length_eq_zero h0
    subst this
    have hn := AnyF.slices_SortFunc_none Try.sortSp none 0 (.func (.func 59) #[] #[]) w
    change Calls Try.prog 58 _ _ _ at hn
    refine hn.mono ?_
    rintro e w' ⟨he, rfl⟩
    exact ⟨he, [], List.Perm.refl _, List.Pairwise.nil, ⟨rfl, .inl ⟨rfl, _, _, rfl⟩⟩, RowKit.Below.refl _ _⟩
  · have hlt : g < w.heap.size := (Array.getElem?_eq_some_iff.1 hg).1
    have hH : HoldsK enc2 2 w g 0 l.toArray := by
      intro j hj
      rw [size_flatK] at hj
      have hj' : j < l.length * 2 := by simpa using hj
      rw [Nat.zero_add]
      refine ⟨?_, hcopy.frozenAt j⟩
      rw [hcopy.cellAt j hj', flatK_get l j hj']
      rfl
    have eg : ∀ args w, (callFunc 59 args).run Try.prog w = .ok (.enter 59 args) w := enters_of Try.func59 (by kernel_rfl) rfl
    have hcon := AnyQ.slices_SortFunc Try.sortSp 2 Try.isAgg25 Try.sizeOf25 enc2 (fun _ => rfl) (fun x v hv => by simp [enc2] at hv; rcases hv with rfl | rfl <;> rfl) (fun x y => Lib.compareInt x.1 y.1) swoFrom 59 #[] g 0 cap l.toArray w eg (cmpLaysSp g 0 l.toArray.size w) hH hlt (by simp; omega)
    change Calls Try.prog 58 _ _ _ at hcon
    refine hcon.mono ?_
    rintro e w' ⟨he, d', n, os, hp, hs, hw⟩
    have hsz : d'.size = l.length := by simpa using hp.1
    have hperm : d'.toList.Perm l := by
      have h := hp.2.2
      have e : List.take l.length d'.toList = d'.toList := List.take_of_length_le (by simpa using (Nat.le_of_eq hsz))
      simp at h
      rwa [e] at h
    refine ⟨he, d'.toList, hperm, ?_, ?_, by rw [hw]; exact below_sorted w base g n _ os hbg hlt⟩
    · rw [List.pairwise_iff_getElem]
      intro i j hi hj hij
      have h1 := hs i j (Nat.zero_le _) hij (by simpa [hsz] using hj)
      rw [ltFrom] at h1
      have hi' : i < d'.size := by simpa using hi
      have hj' : j < d'.size := by simpa using hj
      rw [getElem!_pos d' i hi', getElem!_pos d' j hj'] at h1
      simp at h1
      simpa using h1
    · have hll : d'.toList.length = l.length := by simpa using hsz
      refine ⟨spCells_length _, .inr ⟨g, 0, cap, by rw [hll], by omega, hcm, ?_, ?_⟩⟩
      · rw [hw]
        show g < (grow (putRow id (Sort.ahead w n) g 0 (flatK enc2 2 d')) os).heap.size
        simp
        omega
      · intro j u hu
        have hj : j < d'.toList.length * 2 := by
          have := (List.getElem?_eq_some_iff.1 hu).1
          rwa [spCells_length] at this
        rw [flatK_get _ _ hj] at hu
        rw [hw]
        show (grow (putRow id (Sort.ahead w n) g 0 (flatK enc2 2 d')) os).cell? _ = _
        rw [cell?_grow _ _ _ (by simp; omega)]
        rw [cell?_putRow id (Sort.ahead w n) g 0 (flatK enc2 2 l.toArray) (flatK enc2 2 d') (holds_ahead _ _ _ _ _ _ hH) (by simp [hsz]) j (by simp; simpa using hj)]
        simpa using hu
set_option maxHeartbeats 1000000 in
set_option maxRecDepth 100000 in
theorem clone_some (w : World) (ad : Addr) (c : Nat) (l : List Sp) (hc : ∀ j u, (spCells l)[j]? = some u → w.cell? (ad.add j) = some u) (hlt : 0 < l.length → ad.block < w.heap.size) (hlen : l.length ≤ 1000000) :
    Calls Try.prog 57 #[.slice (some ad) l.length c] w fun e w' => ∃ v', e = .returned v' ∧ w'.ownsRow w.heap.size 25 2 v' l.length (spCells l) ∧ RowKit.Below w.heap.size w w' := by
  obtain ⟨i0, hi, hz0, hz1, hz2⟩ := info_parts spInfo
  have q22 : ∀ (w : World) (a : Option Addr) (n c n' c' : Nat), (binOp .eql 22 (.slice a n c) (.slice none n' c')).run Try.prog w = .ok (.bool a.isNone) w := fun w a n c n' c' => Lib.run_eql_slice_nil w _ _ a n c n' c' Try.underlying22
  have hc2 : Hid (∀ j u, (spCells l)[j]? = some u → (w.alloc (.cells #[] 25)).cell? (ad.add j) = some u) := by
    intro j u hu
    have h0 : 0 < l.length := by
      have := (List.getElem?_eq_some_iff.1 hu).1
      rw [spCells_length] at this
      omega
    have hb : (ad.add j).block < w.heap.size := by
      have : (ad.add j).block = ad.block := by unfold Addr.add; split <;> rfl
      rw [this]; exact hlt h0
    rw [World.cell?_alloc_lt _ _ _ hb]
    exact hc j u hu
  have hown : (w.alloc (.cells #[] 25)).ownsRow w.heap.size 25 2 (.slice (some ⟨w.heap.size, 0, none⟩) 0 0) 0 [] :=
    ⟨rfl, .inr ⟨w.heap.size, 0, #[], rfl, Nat.le_refl _, heap_alloc_new w _, Nat.le_refl _, by omega, rfl, rfl⟩⟩
  clear hc hlt
  go_enter Try.func57, Try.ntmps57
  go_wp2_with (at_builtin; refine wpList_append_own _ rfl (.tmp 5) (.tmp 6) 22 rfl w.heap.size 25 i0 _ 2 16 Try.underlying22 hi hz0 hz1 hz2 rfl (by decide) _ 0 [] rfl hown ad l.length c (spCells l) rfl (by rw [spCells_length]) hc2.out (spCells_one l) (by unfold maxLen; omega) (by omega) (by simp) ?_; intro v1 w1 hown1 hg1 _)
  go_ret
  have hb1 : RowKit.Below w.heap.size w w1 := ((RowKit.Below.refl _ _).alloc (Nat.le_refl _) _).grown hg1 (by simp) (fun b hb => (hown.lt b hb).1)
  rw [Nat.zero_add, List.nil_append] at hown1
  exact ⟨v1, rfl, hown1, hb1⟩
theorem clone_any (w : World) (v : Value) (l : List Sp) (h : RdS w v l) (hlen : l.length ≤ 1000000) :
    Calls Try.prog 57 #[v] w fun e w' => ∃ v', e = .returned v' ∧ w'.ownsRow w.heap.size 25 2 v' l.length (spCells l) ∧ RowKit.Below w.heap.size w w' := by
  rcases h.2 with ⟨h0, A, c, rfl⟩ | ⟨b, off, cap, rfl, _, _, hlt, hc⟩
  · have hl : l = [] := List.eq_nil_of_length_eq_zero h0
    subst hl
    rcases A with _ | ad
    · have hn := AnyE.slices_Clone_nil Try.cloneSp 0 c w
      change Calls Try.prog 57 _ _ _ at hn
      refine hn.mono ?_
      rintro e w' ⟨he, rfl⟩
      exact ⟨_, he, World.ownsRow_nil _ _ _ _, RowKit.Below.refl _ _⟩
    · exact clone_some w ad c [] (fun j u hu => by cases hu) (fun h => absurd h (by simp)) (by simp)
  · exact clone_some w ⟨b, off, none⟩ cap l (fun j u hu => by rw [Addr.add_lit]; exact hc j u hu) (fun _ => hlt) hlen
end Go.Proofs.Ytlifkfihpmkffaa
