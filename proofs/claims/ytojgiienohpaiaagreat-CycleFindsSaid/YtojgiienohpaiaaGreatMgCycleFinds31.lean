/- Texts of one proof, one behind the other. -/
import Derived.Test.YtojgiienohpaiaaGreatMgCycleFinds22
import Derived.Test.YtojgiienohpaiaaGreatMgCycleFinds30
import Derived.Test.YtojgiienohpaiaaGreatMgCycleFinds16
import Derived.Test.YtojgiienohpaiaaGreatShSo
import Derived.Sort.Row
import Derived.Sort.Grow
namespace Go.Proofs.YtojgiienohpaiaaGreat
open Go.RowKit
open Un (Else StM rowI UFo own_else dg swp wp_world paint)
attribute [local go_sem] Oper.semAt_some
set_option maxRecDepth 100000
theorem vsort_var {G : List Gn} {a : Int} (h : a ∈ vsort G) : a ∈ names G ∧ ∃ j, gvar G a = some j ∧ j < G.length := by
  have hp := (vfold G [] List.Pairwise.nil).2
  have hm : a ∈ names G := by have := hp.mem_iff.1 h; simpa using this
  obtain ⟨j, hj⟩ := Option.isSome_iff_exists.1 ((gvar_names G a).2 hm)
  exact ⟨hm, j, hj, gvar_lt hj⟩
theorem var_vsort {G : List Gn} {a : Int} {j : Nat} (h : gvar G a = some j) : a ∈ vsort G := by
  have hp := (vfold G [] List.Pairwise.nil).2
  have hm : a ∈ names G := (gvar_names G a).1 (by rw [h]; rfl)
  exact hp.mem_iff.2 (by simpa using hm)
theorem vsort_le_ (G : List Gn) : (vsort G).length ≤ G.length := by
  have hp := (vfold G [] List.Pairwise.nil).2.length_eq
  have h2 : (names G).length ≤ G.length := List.length_filterMap_le _ _
  have h3 : (vsort G).length = (names G).length := by simpa [vsort] using hp
  omega
section CyFs
variable {O : Nat → Prop} {w : World} {cb : Nat} {A : Adr} {st : Int} {G : List Gn} {kn : Kn} {nx col ro : Nat → Nat} {fs : Int} {gf : FuncId} {lb : Array Value} {T : Nat → Prop} {J : List (Nat × Bool) → Bool → World → Prop}
theorem vars_cl (hC : ClM O w cb A st false G.length G kn nx col ro fs) (hl : G.length ≤ 1000000) (hg : GN G) :
    Calls Tryz.prog 41 #[.pointer (some ⟨cb, 0, none⟩)] w fun e w' => ∃ v', e = .returned v' ∧ w'.ownsRow w.heap.size 3 1 v' (vsort G).length (ints (vsort G)) ∧ Below w.heap.size w w' := by
  obtain ⟨hl0, _, _, _, c2, _, _⟩ := hC.cells
  have HV := Lib.hid (vars_graph w 0 A.g A.mb A.V A.L G hC.gr hl hg.1 hg.2)
  clear hC
  go_enter Tryz.func41, Tryz.ntmps41
  go_wp2_with fail
  refine HV.out.mono ?_
  rintro e w2 ⟨v', rfl, hr, hb⟩
  obtain ⟨Av, cv, rfl, _, _⟩ := Un.own_form hr
  have HR := Lib.hid (And.intro hr hb)
  clear hr hb HV
  go_wp2_with fail
  exact bodyPost_ret (results_tmp rfl _ _ _) rfl ⟨.slice Av (vsort G).length cv, rfl, HR.out.1, HR.out.2⟩
def WkPost (O : Nat → Prop) (cb : Nat) (A : Adr) (st : Int) (G : List Gn) (kn : Kn) (nx col ro : Nat → Nat) (T : Nat → Prop) (J : List (Nat × Bool) → Bool → World → Prop) (fs : Int) (w : World) (x : Ending) (w' : World) : Prop :=
  ∃ (g : Bool) (e : Nat → Option Bool) (S : List (Nat × Nat)) (D : List (Nat × Bool)) (f q : Nat), x = .returned (.int .i64 (q : Nat)) ∧ ClM O w' cb A st false G.length G kn nx col ro (fs + f) ∧ f ≤ 400 * G.length ∧ q ≤ 35 * G.length + 1 ∧ J D g w' ∧ Else (fun k => A.S k ∨ T k) w w' ∧ Dfs (chR G kn ro) e S ∧ Told e S D ∧ (D.map (·.1)).Nodup ∧ (∀ x b, (x, b) ∈ D → x < G.length) ∧ (g = true → S = [] ∧ ∀ v i, gvar G v = some i → ∃ b, (ro i, b) ∈ D)
def WkI (O : Nat → Prop) (cb : Nat) (A : Adr) (st : Int) (G : List Gn) (kn : Kn) (nx col ro : Nat → Nat) (wb mb : Nat) (T : Nat → Prop) (J : List (Nat × Bool) → Bool → World → Prop) (fs : Int) (w2 : World) (j : Nat) (wr : World) : Prop :=
  ∃ (e : Nat → Option Bool) (D : List (Nat × Bool)) (f q m : Nat), ClM O wr cb A st false G.length G kn nx col ro (fs + f) ∧ f ≤ 168 * D.length + 21 * j ∧ WkM wr wb mb e (q : Nat) m ∧ q ≤ j + payD (chR G kn ro) D ∧ m ≤ 2 * D.length ∧ Dfs (chR G kn ro) e [] ∧ Told e [] D ∧ (D.map (·.1)).Nodup ∧ (∀ x b, (x, b) ∈ D → x < G.length) ∧ J D true wr ∧ Else (fun k => (A.S k ∨ k = wb ∨ k = mb) ∨ T k) w2 wr ∧ (∀ t v i, t < j → (vsort G)[t]? = some v → gvar G v = some i → ∃ b, (ro i, b) ∈ D)
set_option maxHeartbeats 8000000 in
theorem walk_any (eg : ∀ args w, (callFunc gf args).run Tryz.prog w = .ok (.enter gf args) w) (hC : ClM O w cb A st false G.length G kn nx col ro fs) (hst : 0 ≤ fs ∧ fs ≤ 20000000000) (hG : G.length ≤ 500000) (hGN : GN G) (hP : Gp G) (hro : ∀ i, i < G.length → ro i < G.length)
    (hT : TellOk gf lb cb G.length (chR G kn ro) T J fun W => ∃ f, ClM O W cb A st false G.length G kn nx col ro f) (hTd : ∀ k, T k → k < w.heap.size ∧ ¬ (A.D k ∨ A.F cb k)) (hJs : ∀ D g (S : Nat → Prop) W W', J D g W → Else S W W' → (∀ k, S k → ¬ T k) → J D g W') (hJ : J [] true w) :
    Calls Tryz.prog 37 #[.pointer (some ⟨cb, 0, none⟩), .func (.func gf) #[] lb] w (WkPost O cb A st G kn nx col ro T J fs w) := by
  have hdg : dg G.length ≤ 21 := Un.dg_le (by omega)
  have hmm := @run_makeMap Tryz.prog
  have H := Lib.hid (And.intro hC (And.intro hst (And.intro hG (And.intro hGN (And.intro hP (And.intro hro hdg))))))
  have HD := Lib.hid (And.intro hT (And.intro hTd (And.intro hJs hJ)))
  clear hC hst hG hGN hP hro hdg hT hTd hJs hJ
  go_enter Tryz.func37, Tryz.ntmps37
  obtain ⟨w1, hw1⟩ : ∃ w1, (w.alloc (Obj.map #[] 0)).alloc (.cells #[.map (some w.heap.size), .int .i64 0] 110) = w1 := ⟨_, rfl⟩
  have hb1 : Below w.heap.size w w1 := by rw [← hw1]; exact ((Below.refl _ _).alloc (Nat.le_refl _) _).alloc (by simp) _
  have hs1 : w1.heap.size = w.heap.size + 2 := by rw [← hw1]; simp
  have hwk : WkM w1 (w.heap.size + 1) w.heap.size (fun _ => none) ((0 : Nat) : Int) 0 := by
    rw [← hw1]
    refine ⟨?_, 0, ?_⟩
    · have h := heap_alloc_new (w.alloc (Obj.map #[] 0)) (.cells #[.map (some w.heap.size), .int .i64 0] 110)
      rw [World.size_alloc] at h
      exact h
    · have h := (MapF.made w).kept (World.grownBy_alloc _ (.cells #[.map (some w.heap.size), .int .i64 0] 110) none) (by simp)
      refine h.ext fun n _ => ?_
      unfold endF
      split <;> rfl
  have HV := Lib.hid (vars_cl (H.out.1.below hb1) (by have := H.out.2.2.1; omega) H.out.2.2.2.1)
  have H1 := Lib.hid (And.intro hb1 (And.intro hs1 hwk))
  have HW1 := Lib.hid hw1
  clear hb1 hs1 hwk hw1
  go_wp2_with fail
  rw [HW1.out]
  refine HV.out.mono ?_
  clear HV
  rintro x w2 ⟨v', rfl, hr, hb2⟩
  obtain ⟨Av, cv, rfl, _, _⟩ := Un.own_form hr
  obtain ⟨vs, hvs⟩ : ∃ l, vsort G = l := ⟨_, rfl⟩
  rw [hvs] at hr ⊢
  have hvl : vs.length ≤ G.length := by rw [← hvs]; exact vsort_le_ G
  have HI0 : WkI O cb A st G kn nx col ro (w.heap.size + 1) w.heap.size T J fs w2 0 w2 := by
    refine ⟨fun _ => none, [], 0, 0, 0, by simpa using (H.out.1.below H1.out.1).below hb2, Nat.zero_le _, H1.out.2.2.keep (S := fun _ => False) (Else.of_below hb2) id id, Nat.zero_le _, Nat.zero_le _, Dfs.none, ⟨fun x b h => by simp at h, fun x b h => by simp at h⟩, by simp, fun x b h => by simp at h, ?_, Else.refl _ _, fun t v i h => by omega⟩
    exact HD.out.2.2.1 [] true (fun _ => False) _ _ HD.out.2.2.2 ((Else.of_below H1.out.1).trans (Else.of_below (hb2.mono (by have := H1.out.2.1; omega)))) fun _ h => h.elim
  have H2 := Lib.hid (And.intro hr (And.intro hb2 (And.intro hvs (And.intro hvl HI0))))
  clear hr hb2 hvs hvl HI0
  go_wp2_with fail
  go_loopw [7, 8, 9, 15] (fun _ _ _ s15 wr => ∃ j : Nat, s15 = .int .i64 (j : Nat) ∧ j ≤ vs.length ∧ WkI O cb A st G kn nx col ro (w.heap.size + 1) w.heap.size T J fs w2 j wr) (fun _ _ _ s _ => vs.length - (intOf s).toNat)
  case atStart => exact ⟨0, rfl, Nat.zero_le _, H2.out.2.2.2.2⟩
  case round =>
    obtain ⟨j, rfl, hj, hI⟩ := hrel
    obtain ⟨e, D, f, q, m, hCr, hf, hWr, hq, hm, hdf, htd, hnd, hdl, hJr, hEr, hkn⟩ := id hI
    have hdn : D.length ≤ G.length := by
      have := nodup_len hnd (fun x hx => by
        obtain ⟨s, hs, rfl⟩ := List.mem_map.1 hx
        exact hdl s.1 s.2 hs)
      simpa using this
    have hvn := H2.out.2.2.2.1
    have hpay := payD_le (chR_le (kn := kn) (ro := ro) (n := G.length) H.out.2.2.2.2.1) D
    have hG5 := H.out.2.2.1
    have HB := Lib.hid (show f ≤ 400 * G.length ∧ q ≤ 35 * G.length ∧ 0 ≤ fs + (f : Int) ∧ fs + (f : Int) ≤ 40000000000 ∧ q ≤ 9000000000 ∧ m ≤ 9000000 ∧ D.length ≤ G.length by have := H.out.2.1; omega)
    have HI := Lib.hid (And.intro hCr (And.intro hf (And.intro hWr (And.intro hq (And.intro hm (And.intro hdf (And.intro htd (And.intro hnd (And.intro hdl (And.intro hJr (And.intro hEr hkn)))))))))))
    clear hCr hf hWr hq hm hdf htd hnd hdl hJr hEr hkn hdn hpay hI
    have hjb : j ≤ 500000 := by omega
    clear hvn hG5
    by_cases hjl : j < vs.length
    · obtain ⟨v, hv⟩ : ∃ v, vs[j]? = some v := ⟨_, List.getElem?_eq_getElem hjl⟩
      obtain ⟨hvm, i, hvi, hil⟩ := vsort_var (G := G) (a := v) (by rw [H2.out.2.2.1]; exact List.mem_of_getElem? hv)
      have hwv := H.out.2.2.2.1.2 v hvm
      have f1 : decide ((j : Int) < (vs.length : Int)) = true := decide_eq_true (by omega)
      have f2 : decide (j < vs.length) = true := decide_eq_true hjl
      have hp0 := H2.out.1
      obtain ⟨bv, cvv, hsh, hbw, hbl⟩ := Un.own_shape hp0 (by omega)
      injection hsh with hA1 _ hcc1
      subst hA1; subst hcc1
      have hvb : w1.heap.size ≤ bv := (hp0.lt bv rfl).1
      have hrowr := own_else hp0 HI.out.2.2.2.2.2.2.2.2.2.2.1 (fun k hk he => by
        have hk : some bv = some k := hk
        injection hk with hk
        have h2 := H1.out.2.1
        rcases he with (he | he | he) | he
        · have := H.out.1.lt (k := k) (.inr (.inl he)); omega
        · omega
        · omega
        · have := (HD.out.2.1 k he).1; omega)
      have z1 : wr.cell? ⟨bv, j, none⟩ = some (.int .i64 v) := (hrowr.cellAt j (by omega)).trans (by simp [ints, hv])
      have HPT := cpart_cl HI.out.1 (by have := HB.out; omega) v hwv (fun z hz => by rw [hvi] at hz; cases hz; exact hil)
      rw [hvi] at HPT
      have HPT := Lib.hid HPT
      have HJL := Lib.hid (And.intro hjl (And.intro hv (And.intro hvi hil)))
      clear hp0 hrowr hvb hbl hbw hv hvi hil hvm hwv
      go_wp2_with fail
      refine HPT.out.mono ?_
      clear HPT
      rintro x w3 ⟨k3, rfl, hk3, hC3, hE3⟩
      obtain ⟨r, hr⟩ : ∃ r, ro i = r := ⟨_, rfl⟩
      rw [hr]
      have hrn : r < G.length := by rw [← hr]; exact H.out.2.2.2.2.2.1 i HJL.out.2.2.2
      unfold ptV
      dsimp only [Option.map_some]
      obtain ⟨w4, hw4⟩ : ∃ w4, w3.alloc (.cells #[.pointer (some ⟨cb, 0, none⟩), .int .i64 (r : Nat)] 78) = w4 := ⟨_, rfl⟩
      have hb4 : Below w3.heap.size w3 w4 := by rw [← hw4]; exact (Below.refl _ _).alloc (Nat.le_refl _) _
      have hE4 : Else A.S wr w4 := hE3.trans (Else.of_below hb4)
      have hC4 := hC3.below hb4
      have hlow : ∀ k, A.D k ∨ A.F cb k → k < w.heap.size := fun k hk => H.out.1.lt hk
      have hW4 := HI.out.2.2.1.keep hE4 (fun h => by have := hlow _ (.inr (.inl h)); omega) (fun h => by have := hlow _ (.inr (.inl h)); omega)
      have hJ4 := HD.out.2.2.1 D true _ _ _ HI.out.2.2.2.2.2.2.2.2.2.1 hE4 (fun k hk hT => (HD.out.2.1 k hT).2 (.inr (.inl hk)))
      have hsz4 : w.heap.size + 2 ≤ w4.heap.size := by have h1 := HI.out.2.2.2.2.2.2.2.2.2.2.1.size; have h2 := hE4.size; have h3 := H2.out.2.1.size; have h4 := H1.out.2.1; omega
      have HFR := from_any eg hC4 hW4 (fun k hk => by have := hlow k hk; exact ⟨by omega, by omega⟩) (by omega) (by have := HB.out; have := H.out.2.2.2.2.2.2; omega) (by have := HB.out; omega) (by have := HB.out; omega) H.out.2.2.2.2.2.2 H.out.2.2.1 r hrn H.out.2.2.2.2.1 H.out.2.2.2.2.2.1 HI.out.2.2.2.2.2.1 HI.out.2.2.2.2.2.2.1 hJ4 HD.out.1 (fun k hk => by have h1 := HD.out.2.1 k hk; exact ⟨by omega, by omega, by omega, h1.2⟩) HD.out.2.2.1 HI.out.2.2.2.2.2.2.2.2.1 HI.out.2.2.2.2.2.2.2.1
      have hbx : w4.heap[w3.heap.size]? = some (.cells #[.pointer (some ⟨cb, 0, none⟩), .int .i64 (r : Nat)] 78) := by rw [← hw4]; exact heap_alloc_new _ _
      have HFR := Lib.hid HFR
      have H4 := Lib.hid (And.intro hk3 (And.intro hE4 (And.intro hr hbx)))
      have HW4 := Lib.hid hw4
      clear hk3 hC3 hE3 hb4 hE4 hC4 hlow hW4 hJ4 hr hbx hrn hw4 hsz4
      go_wp2_with fail
      rw [HW4.out]
      refine HFR.out.mono ?_
      clear HFR
      rintro x w5 ⟨g, e5, S5, D5, f5, q5, m5, rfl, hC5, hW5, ⟨X5, hX5⟩, hf5, hq5, hm5, hJ5, hE5, hdf5, htd5, hlt5, hg5, hnd5, hdl5⟩
      have hE5w : Else (fun k => (A.S k ∨ k = w.heap.size + 1 ∨ k = w.heap.size) ∨ T k) wr w5 := (H4.out.2.1.mono fun k hk => .inl (.inl hk)).trans (hE5.mono fun k hk => by rcases hk with hk | hk | hk | hk; exact .inl (.inl hk); exact .inl (.inr (.inl hk)); exact .inl (.inr (.inr hk)); exact .inr hk)
      have hE5a := HI.out.2.2.2.2.2.2.2.2.2.2.1.trans hE5w
      have H5 := Lib.hid (And.intro hC5 (And.intro hW5 (And.intro hX5 (And.intro hf5 (And.intro hq5 (And.intro hm5 (And.intro hJ5 (And.intro hdf5 (And.intro htd5 (And.intro hlt5 (And.intro hg5 (And.intro hnd5 (And.intro hdl5 hE5a)))))))))))))
      have y1 : w5.cell? ⟨w.heap.size + 1, 1, none⟩ = some (.int .i64 (((q : Nat) : Int) + (q5 : Nat))) := cell_of_row w5 _ 1 _ _ (0, 0) hW5.1
      clear hC5 hW5 hX5 hf5 hq5 hm5 hJ5 hE5 hdf5 htd5 hlt5 hg5 hnd5 hdl5 hE5w hE5a z1 f1 f2
      cases g with
      | true =>
        have hjs := HJL.out.1
        go_wp2_with fail
        go_roundw
        case rel =>
          refine ⟨j + 1, by go_num, HJL.out.1, ?_⟩
          obtain ⟨hC5, hW5, hX5, hf5, hq5, hm5, hJ5, hdf5, htd5, hlt5, hg5, hnd5, hdl5, hE5a⟩ := H5.out
          obtain ⟨rfl, hes⟩ := hg5 (by trivial)
          refine ⟨e5, D5, f + k3 + f5, q + q5, m5, ?_, ?_, ?_, ?_, ?_, hdf5, htd5, hnd5, hdl5, hJ5, hE5a, fun t v2 i2 ht hv2 hi2 => ?_⟩
          · have e1 : fs + ((f + k3 + f5 : Nat) : Int) = fs + f + k3 + f5 := by push_cast; omega
            rw [e1]
            exact hC5
          · have h1 := HI.out.2.1; have h2 := H4.out.1; have h3 := H.out.2.2.2.2.2.2; simp at hf5; omega
          · have e1 : ((q + q5 : Nat) : Int) = (q : Int) + q5 := by push_cast; rfl
            rw [e1]
            exact hW5
          · have h1 := HI.out.2.2.2.1; simp [payS] at hq5; omega
          · have h1 := HI.out.2.2.2.2.1; simp at hm5; omega
          · rcases Nat.lt_or_ge t j with h1 | h1
            · obtain ⟨b, hb⟩ := HI.out.2.2.2.2.2.2.2.2.2.2.2 t v2 i2 h1 hv2 hi2
              exact ⟨b, by rw [hX5]; exact List.mem_append_left _ hb⟩
            · obtain rfl : t = j := by omega
              rw [H2.out.2.2.1, HJL.out.2.1] at hv2
              injection hv2 with hv2
              subst hv2
              rw [HJL.out.2.2.1] at hi2
              injection hi2 with hi2
              subst hi2
              obtain ⟨b, hb⟩ := Option.isSome_iff_exists.1 hes
              exact ⟨b, htd5.all _ b (by rw [H4.out.2.2.1]; exact hb) (fun s hs => by simp at hs)⟩
        case measure => simp [intOf]; omega
      | false =>
        go_wp2_with fail
        refine bodyPost_ret (results_tmp rfl _ _ _) rfl ?_
        obtain ⟨hC5, hW5, hX5, hf5, hq5, hm5, hJ5, hdf5, htd5, hlt5, hg5, hnd5, hdl5, hE5a⟩ := H5.out
        have hdn : D5.length ≤ G.length := by
          have := nodup_len hnd5 (fun x hx => by
            obtain ⟨s, hs, rfl⟩ := List.mem_map.1 hx
            exact hdl5 s.1 s.2 hs)
          simpa using this
        have hsn : S5.length ≤ G.length := by
          have := nodup_len hdf5.nd (fun x hx => by
            obtain ⟨s, hs, rfl⟩ := List.mem_map.1 hx
            exact hlt5 s hs)
          simpa using this
        have h8 := chR_le (kn := kn) (ro := ro) (n := G.length) H.out.2.2.2.2.1
        have p1 := payD_le h8 D5
        have p2 := payS_le h8 S5 hdf5.le
        refine ⟨false, e5, S5, D5, f + k3 + f5, q + q5, by push_cast; rfl, ?_, ?_, ?_, hJ5, ?_, hdf5, htd5, hnd5, hdl5, fun h => by cases h⟩
        · have e1 : fs + ((f + k3 + f5 : Nat) : Int) = fs + f + k3 + f5 := by push_cast; omega
          rw [e1]
          exact hC5
        · have h1 := HI.out.2.1; have h2 := H4.out.1; have h3 := H.out.2.2.2.2.2.2; have h4 := HJL.out.1; have h5 := H2.out.2.2.2.1; omega
        · have h1 := HI.out.2.2.2.1; have h4 := HJL.out.1; have h5 := H2.out.2.2.2.1; omega
        · exact ((((Else.of_below H1.out.1).trans (Else.of_below (H2.out.2.1.mono (by have := H1.out.2.1; omega)))).trans hE5a)).old fun k hk => by rcases hk with (hk | hk | hk) | hk; exact .inl (.inl hk); exact .inr (by omega); exact .inr (by omega); exact .inl (.inr hk)
    · have f1 : decide ((j : Int) < (vs.length : Int)) = false := decide_eq_false (by omega)
      have f2 : decide (j < vs.length) = false := decide_eq_false hjl
      have hje : j = vs.length := by omega
      have y1 : wr.cell? ⟨w.heap.size + 1, 1, none⟩ = some (.int .i64 ((q : Nat) : Int)) := cell_of_row wr _ 1 _ _ (0, 0) HI.out.2.2.1.1
      have HJE := Lib.hid hje
      clear hje
      go_wp2_with fail
      refine bodyPost_ret (results_tmp rfl _ _ _) rfl ?_
      refine ⟨true, e, [], D, f, q, rfl, HI.out.1, by have := HB.out; omega, by have := HB.out; omega, HI.out.2.2.2.2.2.2.2.2.2.1, ?_, HI.out.2.2.2.2.2.1, HI.out.2.2.2.2.2.2.1, HI.out.2.2.2.2.2.2.2.1, HI.out.2.2.2.2.2.2.2.2.1, fun _ => ⟨rfl, fun v i hv => ?_⟩⟩
      · exact ((((Else.of_below H1.out.1).trans (Else.of_below (H2.out.2.1.mono (by have := H1.out.2.1; omega)))).trans HI.out.2.2.2.2.2.2.2.2.2.2.1)).old fun k hk => by rcases hk with (hk | hk | hk) | hk; exact .inl (.inl hk); exact .inr (by omega); exact .inr (by omega); exact .inl (.inr hk)
      · obtain ⟨t, ht, hte⟩ := List.getElem_of_mem (var_vsort hv)
        have hte2 : (vsort G)[t]? = some v := by rw [List.getElem?_eq_getElem ht, hte]
        exact HI.out.2.2.2.2.2.2.2.2.2.2.2 t v i (by rw [HJE.out, ← H2.out.2.2.1]; exact ht) hte2 hv
end CyFs
end Go.Proofs.YtojgiienohpaiaaGreat
namespace Go.Proofs.YtojgiienohpaiaaGreat
open Go.RowKit
open Un (Else dg cnt own_else)
set_option maxRecDepth 100000
section
variable {O T : Nat → Prop} {w w' : World} {cb m : Nat} {G : List Gn} {E : List (Nat × Nat)} {st fs f : Int} {s : Sys} {b : Nat}
def CQ (O : Nat → Prop) (w : World) (cb : Nat) (s : Sys) (f : Int) : Prop := ∃ st fs m, CsM O w cb s.1 s.2 st fs m ∧ 0 ≤ fs ∧ fs ≤ f
end
end Go.Proofs.YtojgiienohpaiaaGreat
namespace Go.Proofs.YtojgiienohpaiaaGreat
open Go.RowKit
open Un (Else dg cnt own_else)
set_option maxRecDepth 100000
end Go.Proofs.YtojgiienohpaiaaGreat
namespace Go.Proofs.YtojgiienohpaiaaGreat
open Go.RowKit Go.Sort
open Un (Else dg cnt own_else Rings Ring Pth)
set_option maxRecDepth 100000
attribute [local go_sem] Oper.semAt_some
attribute [local go_sem ↓] builtin_app
def nmL (G : List Gn) (L : List Nat) : List Int := L.map (nmG G)
theorem gvar_node {G : List Gn} (hg : GN G) {i : Nat} {p : Gn} (hp : G[i]? = some p) (p1 : p.1 = 1) : gvar G p.2.1 = some i := by
  induction G generalizing i with
  | nil => simp at hp
  | cons x G ih =>
    have hn : names (x :: G) = (if x.1 = 1 then [x.2.1] else []) ++ names G := by
      unfold names
      by_cases h : x.1 = 1 <;> simp [h]
    have hg' : GN G := by
      refine ⟨?_, fun n hn' => hg.2 n (by rw [hn]; exact List.mem_append_right _ hn')⟩
      have := hg.1
      rw [hn] at this
      exact (List.nodup_append.1 this).2.1
    cases i with
    | zero =>
      simp only [List.getElem?_cons_zero, Option.some.injEq] at hp
      subst hp
      simp [gvar, p1]
    | succ i =>
      simp only [List.getElem?_cons_succ] at hp
      have hm := ih hg' hp
      simp only [gvar]
      split
      · rename_i hx
        exfalso
        have hmem : p.2.1 ∈ names G := (gvar_names G _).1 (by rw [hm]; rfl)
        have := hg.1
        rw [hn, if_pos hx.1] at this
        exact (List.nodup_append.1 this).2.2 x.2.1 (by simp) p.2.1 hmem hx.2
      · rw [hm]
        rfl
section UzJs
variable {O : Nat → Prop} {w : World} {cb m : Nat} {G : List Gn} {E : List (Nat × Nat)} {st fs : Int}
def ClassIs (G : List Gn) (E : List (Nat × Nat)) (v : Int) (ys : List Int) : Prop := ys.Nodup ∧ ys.Pairwise (· ≤ ·) ∧ ∀ a, a ∈ ys ↔ SameIs G E v a
end UzJs
end Go.Proofs.YtojgiienohpaiaaGreat
namespace Go.Proofs.YtojgiienohpaiaaGreat
open Un (cnt)
def Nx (G : List Gn) (E : List (Nat × Nat)) (j i : Nat) : Prop := ∃ (z : Nat) (p : Gn), Cl G E i z ∧ G[z]? = some p ∧ p.1 ≠ 1 ∧ j ∈ p.2.2.2
def FinC (G : List Gn) (E : List (Nat × Nat)) : Prop := ∀ v i, gvar G v = some i → Acc (Nx G E) i
def GL (G : List Gn) : Prop := ∀ (i : Nat) (p : Gn), G[i]? = some p → ∀ u ∈ p.2.2.2, u < i
theorem gnode_GL {G : List Gn} {k n : Int} {P : List Nat} (h : GL G) (hlt : ∀ u ∈ P, u < G.length) : GL (gnode G k n P).1 := by
  unfold gnode
  split
  · exact h
  · intro i p hp u hu
    rcases Nat.lt_or_ge i G.length with hi | hi
    · rw [List.getElem?_append_left hi] at hp
      exact h i p hp u hu
    · rw [List.getElem?_append_right hi] at hp
      cases hj : i - G.length with
      | zero =>
        rw [hj] at hp
        simp only [List.getElem?_cons_zero, Option.some.injEq] at hp
        subst hp
        have := hlt u hu
        omega
      | succ j => rw [hj] at hp; simp at hp
theorem chR_ro {n : Nat} {G : List Gn} {kn : Kn} {ro : Nat → Nat} (hP : ∀ p ∈ G, p.2.2.2.length ≤ 8 ∧ ∀ u ∈ p.2.2.2, u < n) (x y : Nat) (hy : y ∈ chR G kn ro x) : ∃ u, u < n ∧ y = ro u := by
  unfold chR at hy
  obtain ⟨u, hu, rfl⟩ := List.mem_map.1 hy
  refine ⟨u, ?_, rfl⟩
  unfold partsO at hu
  cases h : (kn x).1 with
  | none => rw [h] at hu; simp at hu
  | some k =>
    rw [h] at hu
    cases hg : G[k]? with
    | none => simp [hg] at hu
    | some p => simp [hg] at hu; exact (hP p (List.mem_of_getElem? hg)).2 u hu
section CyQs
variable {G H : List Gn} {E F : List (Nat × Nat)} {n : Nat} {col ro : Nat → Nat} {kn : Kn} {i j : Nat}
theorem Nx.cl (h : Cl G E i j) {k : Nat} (hx : Nx G E k j) : Nx G E k i := by
  obtain ⟨z, p, h1, h2⟩ := hx
  exact ⟨z, p, h.trans h1, h2⟩
theorem acc_cl (h : Cl G E i j) (ha : Acc (Nx G E) i) : Acc (Nx G E) j := ⟨j, fun _ hk => ha.inv (hk.cl h)⟩
theorem nx_roots (h : Js G n col ro kn E []) (hP : Gp G) (hi : i < n) : Acc (Nx G E) i ↔ Acc (Chl (chR G kn ro)) (ro i) := by
  have hlen := h.len
  constructor
  · intro ha
    induction ha with
    | intro i _ ih =>
      refine ⟨_, fun y hy => ?_⟩
      have hy : y ∈ chR G kn ro (ro i) := hy
      unfold chR at hy
      obtain ⟨u, hu, rfl⟩ := List.mem_map.1 hy
      cases hk : (kn (ro i)).1 with
      | none => rw [hk] at hu; cases hu
      | some z =>
        obtain ⟨p, hp, p1, hc⟩ := h.md.some i z (by omega) hk
        rw [hk] at hu
        have hu : u ∈ p.2.2.2 := by simpa [partsO, hp] using hu
        have hul := (hP p (List.mem_of_getElem? hp)).2 u hu
        exact ih u ⟨z, p, h.jn.done.2 (.inr ⟨by omega, lt_of_get hp, hc.symm⟩), hp, p1, hu⟩ (by omega)
  · intro ha
    obtain ⟨a, hae⟩ : ∃ a, ro i = a := ⟨_, rfl⟩
    rw [hae] at ha
    induction ha generalizing i with
    | intro a _ ih =>
      subst hae
      refine ⟨_, fun j hj => ?_⟩
      obtain ⟨z, p, hc, hp, p1, hjp⟩ := hj
      obtain ⟨k, q, hk, hq, q1, hf, hck⟩ := h.known hi hc hp p1
      obtain ⟨t, ht, rfl⟩ := List.getElem_of_mem hjp
      have htq : t < q.2.2.2.length := by have := hf.2; omega
      have hjl := (hP p (List.mem_of_getElem? hp)).2 _ (List.getElem_mem ht)
      have hul := (hP q (List.mem_of_getElem? hq)).2 _ (List.getElem_mem htq)
      have hcu : Cl G E q.2.2.2[t] p.2.2.2[t] := .part (hck.symm.trans hc) hq hp q1 p1 hf.1 hf.2 (List.getElem?_eq_getElem htq) (List.getElem?_eq_getElem ht)
      refine ih (ro p.2.2.2[t]) ?_ (by omega) rfl
      show ro p.2.2.2[t] ∈ chR G kn ro (ro i)
      rw [← (h.same (by omega) (by omega)).2 hcu]
      unfold chR
      refine List.mem_map_of_mem ?_
      rw [hk]
      simp [partsO, hq]
theorem acc_all (hnc : ¬ Clash G E) (hg : GN G) (hl : GL G) (hf : FinC G E) : ∀ i, i < G.length → Acc (Nx G E) i := by
  intro i
  induction i using Nat.strongRecOn with
  | ind i ih =>
    intro hi
    obtain ⟨p, hp⟩ : ∃ p, G[i]? = some p := ⟨_, List.getElem?_eq_getElem hi⟩
    by_cases p1 : p.1 = 1
    · exact hf p.2.1 i (gvar_node hg hp p1)
    · refine ⟨_, fun j hj => ?_⟩
      obtain ⟨z, q, hc, hq, q1, hjq⟩ := hj
      have hfit : Fit p q := Classical.byContradiction fun hf => hnc ⟨i, z, p, q, hc, hp, hq, p1, q1, hf⟩
      obtain ⟨t, ht, rfl⟩ := List.getElem_of_mem hjq
      have htp : t < p.2.2.2.length := by have := hfit.2; omega
      have hlt := hl i p hp _ (List.getElem_mem htp)
      exact acc_cl (.part hc hp hq p1 q1 hfit.1 hfit.2 (List.getElem?_eq_getElem htp) (List.getElem?_eq_getElem ht)) (ih _ hlt (by omega))
end CyQs
end Go.Proofs.YtojgiienohpaiaaGreat
namespace Go.Proofs.YtojgiienohpaiaaGreat
open Go.RowKit
open Un (Else StM rowI UFo own_else dg swp wp_world paint cnt Rings)
attribute [local go_sem] Oper.semAt_some
set_option maxRecDepth 100000
def CtJ (fb : Nat) (D : List (Nat × Bool)) (g : Bool) (W : World) : Prop := W.heap[fb]? = some (Obj.cells #[.bool g] 4) ∧ (g = true → ∀ x b, (x, b) ∈ D → b = true) ∧ (g = false → ∃ x, (x, false) ∈ D)
theorem count1_any (fb : Nat) (cb n : Nat) (ch : Nat → List Nat) (Q : World → Prop) : TellOk 38 #[.pointer (some ⟨fb, 0, none⟩)] cb n ch (fun k => k = fb) (CtJ fb) Q := by
  intro D W r b P k _ hJ _ _ _ _ _
  obtain ⟨P1, P2, P3⟩ := P
  show Calls _ _ #[.agg #[.pointer (some ⟨cb, 0, none⟩), .int .i64 (r : Nat), .slice P1 P2 P3, .int .i64 (k : Nat)], .bool b, .pointer (some ⟨fb, 0, none⟩)] W _
  have hl := (Array.getElem?_eq_some_iff.1 hJ.1).1
  have c0 : W.cell? ⟨fb, 0, none⟩ = some (.bool true) := cell_of_row W _ 0 _ _ (0, 0) hJ.1
  have cz : W.frozen? ⟨fb, 0, none⟩ = false := by simp [World.frozen?, hJ.1]
  have HJ := Lib.hid hJ
  clear hJ
  go_enter Tryz.func38, Tryz.ntmps38
  go_wp2_with fail
  refine bodyPost_ret (results_tmp rfl _ _ _) rfl ⟨b, rfl, ⟨?_, fun hb x c hm => ?_, fun hb => ⟨r, by rw [hb]; simp⟩⟩, ?_⟩
  · first
    | exact (Below.heap_alloc _ _ _ (by simpa using hl)).trans (heap_setCell_same W fb 0 _ _ _ HJ.out.1)
    | exact heap_setCell_same _ fb 0 _ _ _ ((Below.heap_alloc _ _ _ hl).trans HJ.out.1)
  · rcases List.mem_append.1 hm with hm | hm
    · exact HJ.out.2.1 rfl x c hm
    · obtain ⟨rfl, rfl⟩ : x = r ∧ c = b := by simpa using hm
      exact hb
  · first
    | exact (Un.Else.set (S := fun k => k = fb) W (p := ⟨fb, 0, none⟩) rfl _).trans (Un.Else.alloc _ _ _)
    | exact (Un.Else.alloc _ _ _).trans (Un.Else.set (S := fun k => k = fb) _ (p := ⟨fb, 0, none⟩) rfl _)
section CyGs
variable {O : Nat → Prop} {w : World} {cb m : Nat} {G : List Gn} {E : List (Nat × Nat)} {st fs : Int}
def CtPost (O : Nat → Prop) (w : World) (cb : Nat) (G : List Gn) (E : List (Nat × Nat)) (st fs : Int) (m : Nat) (x : Ending) (w' : World) : Prop :=
  ∃ (b : Bool) (q k : Nat), x = .returned (.tuple #[.bool b, .int .i64 (q : Nat)]) ∧ (b = true ↔ FinC G E) ∧ q ≤ 35 * G.length + 1 ∧ k ≤ 400 * G.length ∧ CsM O w' cb G E st (fs + k) m ∧ Else O w w'
set_option maxHeartbeats 2000000 in
theorem count_cs (h : CsM O w cb G E st fs m) (hfs : 0 ≤ fs ∧ fs ≤ 20000000000) (hG : G.length ≤ 400000) (hgn : GN G) (hgl : GL G) :
    Calls Tryz.prog 10 #[.pointer (some ⟨cb, 0, none⟩)] w (CtPost O w cb G E st fs m) := by
  obtain ⟨⟨A, kn, nx, col, ro, hC, hJ, hR, hB, hm⟩, h2, h3⟩ := h
  have HER : Hid (Calls Tryz.prog 36 #[.pointer (some ⟨cb, 0, none⟩)] w fun e w' => e = .returned (.int .i64 0) ∧ w' = w) := Lib.hid (err_cl hC)
  obtain ⟨w1, hw1⟩ : ∃ w1, w.alloc (Obj.cells #[.bool true] 4) = w1 := ⟨_, rfl⟩
  have hb1 : Below w.heap.size w w1 := by rw [← hw1]; exact (Below.refl _ _).alloc (Nat.le_refl _) _
  have hx1 : w1.heap[w.heap.size]? = some (Obj.cells #[.bool true] 4) := by rw [← hw1]; exact heap_alloc_new _ _
  have HWK := Lib.hid (walk_any (gf := 38) (lb := #[.pointer (some ⟨w.heap.size, 0, none⟩)]) (T := fun k => k = w.heap.size) (J := CtJ w.heap.size) (enters_of Tryz.func38 (by kernel_rfl) rfl) (hC.below hb1) hfs (by omega) hgn h3 (fun i hi => (hJ.rt i hi).1) (count1_any w.heap.size cb G.length _ _) (fun k hk => by subst hk; exact ⟨(Array.getElem?_eq_some_iff.1 hx1).1, fun hk => Nat.lt_irrefl _ (hC.lt hk)⟩) (fun D g S W W' hj he hs => ⟨(he.block _ (Array.getElem?_eq_some_iff.1 hj.1).1 (fun hS => hs _ hS rfl)).trans hj.1, hj.2⟩) ⟨hx1, (fun _ x b hm => by cases hm), (fun h => by cases h)⟩)
  have H := Lib.hid (And.intro hC (And.intro hJ (And.intro hR (And.intro hB (And.intro hm (And.intro h2 (And.intro h3 (And.intro hb1 (And.intro hgn hgl)))))))))
  have HW1 := Lib.hid hw1
  clear hC hJ hR hB hm h2 h3 hb1 hx1 hgn hgl hw1 hfs
  go_enter Tryz.func10, Tryz.ntmps10
  go_wp2_with fail
  refine HER.out.mono ?_
  clear HER
  rintro x w' ⟨rfl, rfl⟩
  go_wp2_with fail
  rw [HW1.out]
  refine HWK.out.mono ?_
  clear HWK
  rintro x w2 ⟨g, e, S, D, f, q, rfl, hC2, hf, hq, hJ2, hE2, hdf, htd, hnd, hdl, hg⟩
  have c0 : w2.cell? ⟨w'.heap.size, 0, none⟩ = some (.bool g) := cell_of_row w2 _ 0 _ _ (0, 0) hJ2.1
  have H2 := Lib.hid (And.intro hC2 (And.intro hf (And.intro hq (And.intro hJ2.2 (And.intro hE2 (And.intro hdf (And.intro htd (And.intro hdl hg))))))))
  clear hC2 hf hq hJ2 hE2 hdf htd hnd hdl hg
  go_wp2_with fail
  obtain ⟨hC2, hf, hq, hJ2, hE2, hdf, htd, hdl, hg⟩ := H2.out
  obtain ⟨hC, hJ, hR, hB, hm, h2, h3, hb1, hgn, hgl⟩ := H.out
  have hE : Else A.S w' w2 := ((Else.of_below hb1).trans hE2).old fun k hk => hk.imp id fun h => by omega
  refine bodyPost_ret (results_tmp2 rfl _ _ _) rfl ⟨g, q, f, rfl, ?_, hq, hf, CsM.turned hC2 hE hJ hR hB hm h2 h3, hE.mono fun k hk => hC.own k (.inr (.inl hk))⟩
  constructor
  · intro hgt v i hvi
    obtain ⟨b, hb⟩ := (hg hgt).2 v i hvi
    have hbt := hJ2.1 hgt _ _ hb
    subst hbt
    exact (nx_roots hJ h3 (gvar_lt hvi)).2 (hdf.tt _ (htd.known _ _ hb).1)
  · intro hfin
    cases g with
    | true => rfl
    | false =>
      obtain ⟨x, hx⟩ := hJ2.2 rfl
      exfalso
      obtain ⟨k1, k2⟩ := htd.known _ _ hx
      have hxn := hdl _ _ hx
      have hnr : ¬ Acc (Chl (chR G kn ro)) x := hdf.ff _ k1 k2
      refine hnr ⟨x, fun y hy => ?_⟩
      obtain ⟨u, hu, rfl⟩ := chR_ro (n := G.length) h3 x y hy
      exact (nx_roots hJ h3 hu).1 (acc_all hJ.jn.noClash hgn hgl hfin u hu)
end CyGs
end Go.Proofs.YtojgiienohpaiaaGreat
namespace Go.Proofs.YtojgiienohpaiaaGreat
open Go.RowKit
open Un (Else StM rowI UFo own_else dg swp wp_world paint cnt Rings)
attribute [local go_sem] Oper.semAt_some
set_option maxRecDepth 100000
section CyHs
variable {O : Nat → Prop} {w : World} {cb m : Nat} {G : List Gn} {E : List (Nat × Nat)} {st fs : Int}
def FnPost (O : Nat → Prop) (w : World) (cb : Nat) (G : List Gn) (E : List (Nat × Nat)) (st fs : Int) (m : Nat) (x : Ending) (w' : World) : Prop :=
  ∃ (b : Bool) (k : Nat), x = .returned (.bool b) ∧ (b = true ↔ FinC G E) ∧ k ≤ 400 * G.length ∧ CsM O w' cb G E st (fs + k) m ∧ Else O w w'
theorem finite_cs (h : CsM O w cb G E st fs m) (hfs : 0 ≤ fs ∧ fs ≤ 20000000000) (hG : G.length ≤ 400000) (hgn : GN G) (hgl : GL G) :
    Calls Tryz.prog 12 #[.pointer (some ⟨cb, 0, none⟩)] w (FnPost O w cb G E st fs m) := by
  have HC := Lib.hid (count_cs h hfs hG hgn hgl)
  clear h hfs hG hgn hgl
  go_enter Tryz.func12, Tryz.ntmps12
  go_wp2_with fail
  refine HC.out.mono ?_
  rintro x w' ⟨b, q, k, rfl, hb, _, hk, hC, hE⟩
  have H := Lib.hid (And.intro hb (And.intro hk (And.intro hC hE)))
  clear hb hk hC hE
  go_wp2_with fail
  exact bodyPost_ret (results_tmp rfl _ _ _) rfl ⟨b, k, rfl, H.out⟩
variable {p : Option Addr}
theorem walk_empty (hV : ∀ W, Below w.heap.size w W → Calls Tryz.prog 41 #[.pointer p] W fun x W' => x = .returned (.slice none 0 0) ∧ Below W.heap.size W W') (vf : Value) :
    Calls Tryz.prog 37 #[.pointer p, vf] w fun x w' => x = .returned (.int .i64 0) ∧ Below w.heap.size w w' := by
  have hmm := @run_makeMap Tryz.prog
  obtain ⟨w1, hw1⟩ : ∃ w1, (w.alloc (Obj.map #[] 0)).alloc (.cells #[.map (some w.heap.size), .int .i64 0] 110) = w1 := ⟨_, rfl⟩
  have hb1 : Below w.heap.size w w1 := by rw [← hw1]; exact ((Below.refl _ _).alloc (Nat.le_refl _) _).alloc (by simp) _
  have hx1 : w1.heap[w.heap.size + 1]? = some (.cells #[.map (some w.heap.size), .int .i64 0] 110) := by
    rw [← hw1]
    have h := heap_alloc_new (w.alloc (Obj.map #[] 0)) (.cells #[.map (some w.heap.size), .int .i64 0] 110)
    rw [World.size_alloc] at h
    exact h
  have HV := Lib.hid (hV w1 hb1)
  have H1 := Lib.hid (And.intro hb1 hx1)
  have HW1 := Lib.hid hw1
  clear hV hb1 hx1 hw1
  go_enter Tryz.func37, Tryz.ntmps37
  go_wp2_with fail
  rw [HW1.out]
  refine HV.out.mono ?_
  rintro x w2 ⟨rfl, hb2⟩
  have y1 : w2.cell? ⟨w.heap.size + 1, 1, none⟩ = some (.int .i64 0) := cell_of_row w2 _ 1 _ _ (0, 0) ((hb2.block _ (Array.getElem?_eq_some_iff.1 H1.out.2).1).trans H1.out.2)
  have H2 := Lib.hid hb2
  clear hb2
  go_wp2_with fail
  refine wp_loop_rounds 1 ?_
  rw [rounds_succ]
  go_wp2_with fail
  exact bodyPost_ret (results_tmp rfl _ _ _) rfl ⟨rfl, H1.out.1.trans (H2.out.mono H1.out.1.size)⟩
theorem count_empty (r : Int) (hr : r ≠ 0) (hE : Calls Tryz.prog 36 #[.pointer p] w fun e w' => e = .returned (.int .i64 r) ∧ w' = w) (hV : ∀ W, Below w.heap.size w W → Calls Tryz.prog 41 #[.pointer p] W fun x W' => x = .returned (.slice none 0 0) ∧ Below W.heap.size W W') :
    Calls Tryz.prog 10 #[.pointer p] w fun x w' => x = .returned (.tuple #[.bool false, .int .i64 0]) ∧ Below w.heap.size w w' := by
  have HER := Lib.hid hE
  have hr0 : (r == 0) = false := by simpa using hr
  obtain ⟨w1, hw1⟩ : ∃ w1, w.alloc (Obj.cells #[.bool false] 4) = w1 := ⟨_, rfl⟩
  have hb1 : Below w.heap.size w w1 := by rw [← hw1]; exact (Below.refl _ _).alloc (Nat.le_refl _) _
  have hx1 : w1.heap[w.heap.size]? = some (Obj.cells #[.bool false] 4) := by rw [← hw1]; exact heap_alloc_new _ _
  have HWK := Lib.hid (walk_empty (w := w1) (p := p) (fun W hW => hV W (hb1.trans (hW.mono hb1.size))) (.func (.func 38) #[] #[.pointer (some ⟨w.heap.size, 0, none⟩)]))
  have H1 := Lib.hid (And.intro hb1 hx1)
  have HW1 := Lib.hid hw1
  clear hE hV hb1 hx1 hw1 hr
  go_enter Tryz.func10, Tryz.ntmps10
  go_wp2_with fail
  refine HER.out.mono ?_
  clear HER
  rintro x w' ⟨rfl, rfl⟩
  go_wp2_with fail
  rw [HW1.out]
  refine HWK.out.mono ?_
  clear HWK
  rintro x w2 ⟨rfl, hb2⟩
  have y1 : w2.cell? ⟨w'.heap.size, 0, none⟩ = some (.bool false) := cell_of_row w2 _ 0 _ _ (0, 0) ((hb2.block _ (Array.getElem?_eq_some_iff.1 H1.out.2).1).trans H1.out.2)
  have H2 := Lib.hid hb2
  clear hb2
  go_wp2_with fail
  exact bodyPost_ret (results_tmp2 rfl _ _ _) rfl ⟨rfl, H1.out.1.trans (H2.out.mono H1.out.1.size)⟩
theorem finite_empty (r : Int) (hr : r ≠ 0) (hE : Calls Tryz.prog 36 #[.pointer p] w fun e w' => e = .returned (.int .i64 r) ∧ w' = w) (hV : ∀ W, Below w.heap.size w W → Calls Tryz.prog 41 #[.pointer p] W fun x W' => x = .returned (.slice none 0 0) ∧ Below W.heap.size W W') :
    Calls Tryz.prog 12 #[.pointer p] w fun x w' => x = .returned (.bool false) ∧ Below w.heap.size w w' := by
  have HC := Lib.hid (count_empty r hr hE hV)
  clear hr hE hV
  go_enter Tryz.func12, Tryz.ntmps12
  go_wp2_with fail
  refine HC.out.mono ?_
  rintro x w' ⟨rfl, hb⟩
  have H := Lib.hid hb
  clear hb
  go_wp2_with fail
  exact bodyPost_ret (results_tmp rfl _ _ _) rfl ⟨rfl, H.out⟩
theorem cyclic_empty (hV : ∀ W, Below w.heap.size w W → Calls Tryz.prog 41 #[.pointer p] W fun x W' => x = .returned (.slice none 0 0) ∧ Below W.heap.size W W') :
    Calls Tryz.prog 13 #[.pointer p] w fun x w' => x = .returned (.slice none 0 0) ∧ Below w.heap.size w w' := by
  have hmm := @run_makeMap Tryz.prog
  obtain ⟨w1, hw1⟩ : ∃ w1, (w.alloc (Obj.map #[] 0)).alloc (.cells #[.map (some w.heap.size)] 83) = w1 := ⟨_, rfl⟩
  have hb1 : Below w.heap.size w w1 := by rw [← hw1]; exact ((Below.refl _ _).alloc (Nat.le_refl _) _).alloc (by simp) _
  have HWK := Lib.hid (walk_empty (w := w1) (p := p) (fun W hW => hV W (hb1.trans (hW.mono hb1.size))) (.func (.func 39) #[] #[.pointer (some ⟨w.heap.size + 1, 0, none⟩)]))
  have H1 := Lib.hid (And.intro hb1 hV)
  have HW1 := Lib.hid hw1
  clear hV hb1 hw1
  go_enter Tryz.func13, Tryz.ntmps13
  go_wp2_with fail
  rw [HW1.out]
  refine HWK.out.mono ?_
  clear HWK
  rintro x w2 ⟨rfl, hb2⟩
  have hb02 : Below w.heap.size w w2 := H1.out.1.trans (hb2.mono H1.out.1.size)
  have HV := Lib.hid (H1.out.2 w2 hb02)
  have H2 := Lib.hid hb02
  clear hb2 hb02
  go_wp2_with fail
  refine HV.out.mono ?_
  rintro x w3 ⟨rfl, hb3⟩
  have H3 := Lib.hid hb3
  clear hb3
  go_wp2_with fail
  refine wp_loop_rounds 1 ?_
  rw [rounds_succ]
  go_wp2_with fail
  exact bodyPost_ret (results_tmp rfl _ _ _) rfl ⟨rfl, H2.out.trans (H3.out.mono H2.out.size)⟩
end CyHs
end Go.Proofs.YtojgiienohpaiaaGreat
