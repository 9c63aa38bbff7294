/- Texts of one proof, one behind the other. -/
import Derived.Test.YtojgiienohpaiaaMgCycleGreat24
import Derived.Test.YtojgiienohpaiaaMgCycleGreat31
import Derived.Test.YtojgiienohpaiaaMgCycleGreat17
import Derived.Test.YtojgiienohpaiaaShSo
import Derived.Sort.Row
import Derived.Sort.Grow
/- cycle: the walk through the classes of all variables. -/
namespace Go.Proofs.Ytojgiienohpaiaa
open Go.RowKit
open Un (Else StM rowI UFo own_else dg swp wp_world paint)
attribute [local go_sem] Oper.semAt_some
set_option maxRecDepth 100000
theorem vsort_var {G : List Gn} {a : Int} (h : a ∈ vsort G) : a ∈ names G ∧ ∃ j, gvar G a = some j ∧ j < G.length := by
  have hp := (vfold G [] List.Pairwise.nil).2
  have hm : a ∈ names G := by have := hp.mem_iff.1 h; simpa using this
  obtain ⟨j, hj⟩ := Option.isSome_iff_exists.1 ((gvar_names G a).2 hm)
  exact ⟨hm, j, hj, gvar_lt hj⟩
theorem var_vsort {G : List Gn} {a : Int} {j : Nat} (h : gvar G a = some j) : a ∈ vsort G := by
  have hp := (vfold G [] List.Pairwise.nil).2
  have hm : a ∈ names G := (gvar_names G a).1 (by rw [h]; rfl)
  exact hp.mem_iff.2 (by simpa using hm)
theorem vsort_le_ (G : List Gn) : (vsort G).length ≤ G.length := by
  have hp := (vfold G [] List.Pairwise.nil).2.length_eq
  have h2 : (names G).length ≤ G.length := List.length_filterMap_le _ _
  have h3 : (vsort G).length = (names G).length := by simpa [vsort] using hp
  omega
section CyFs
variable {O : Nat → Prop} {w : World} {cb : Nat} {A : Adr} {st : Int} {G : List Gn} {kn : Kn} {nx col ro : Nat → Nat} {fs : Int} {gf : FuncId} {lb : Array Value} {T : Nat → Prop} {J : List (Nat × Bool) → Bool → World → Prop}
theorem vars_cl (hC : ClM O w cb A st false G.length G kn nx col ro fs) (hl : G.length ≤ 1000000) (hg : GN G) :
    Calls Try.prog 38 #[.pointer (some ⟨cb, 0, none⟩)] w fun e w' => ∃ v', e = .returned v' ∧ w'.ownsRow w.heap.size 3 1 v' (vsort G).length (ints (vsort G)) ∧ Below w.heap.size w w' := by
  obtain ⟨hl0, _, _, _, c2, _, _⟩ := hC.cells
  have HV := Lib.hid (vars_graph w 0 A.g A.mb A.V A.L G hC.gr hl hg.1 hg.2)
  clear hC
  go_enter Try.func38, Try.ntmps38
  go_wp2_with fail
  refine HV.out.mono ?_
  rintro e w2 ⟨v', rfl, hr, hb⟩
  obtain ⟨Av, cv, rfl, _, _⟩ := Un.own_form hr
  have HR := Lib.hid (And.intro hr hb)
  clear hr hb HV
  go_wp2_with fail
  exact bodyPost_ret (results_tmp rfl _ _ _) rfl ⟨.slice Av (vsort G).length cv, rfl, HR.out.1, HR.out.2⟩
/-- What a walk gives. -/
def WkPost (O : Nat → Prop) (cb : Nat) (A : Adr) (st : Int) (G : List Gn) (kn : Kn) (nx col ro : Nat → Nat) (T : Nat → Prop) (J : List (Nat × Bool) → Bool → World → Prop) (fs : Int) (w : World) (x : Ending) (w' : World) : Prop :=
  ∃ (g : Bool) (e : Nat → Option Bool) (S : List (Nat × Nat)) (D : List (Nat × Bool)) (f q : Nat), x = .returned (.int .i64 (q : Nat)) ∧ ClM O w' cb A st false G.length G kn nx col ro (fs + f) ∧ f ≤ 400 * G.length ∧ q ≤ 35 * G.length + 1 ∧ J D g w' ∧ Else (fun k => A.S k ∨ T k) w w' ∧ Dfs (chR G kn ro) e S ∧ Told e S D ∧ (D.map (·.1)).Nodup ∧ (∀ x b, (x, b) ∈ D → x < G.length) ∧ (g = true → S = [] ∧ ∀ v i, gvar G v = some i → ∃ b, (ro i, b) ∈ D)
/-- Between two variables. -/
def WkI (O : Nat → Prop) (cb : Nat) (A : Adr) (st : Int) (G : List Gn) (kn : Kn) (nx col ro : Nat → Nat) (wb mb : Nat) (T : Nat → Prop) (J : List (Nat × Bool) → Bool → World → Prop) (fs : Int) (w2 : World) (j : Nat) (wr : World) : Prop :=
  ∃ (e : Nat → Option Bool) (D : List (Nat × Bool)) (f q m : Nat), ClM O wr cb A st false G.length G kn nx col ro (fs + f) ∧ f ≤ 168 * D.length + 21 * j ∧ WkM wr wb mb e (q : Nat) m ∧ q ≤ j + payD (chR G kn ro) D ∧ m ≤ 2 * D.length ∧ Dfs (chR G kn ro) e [] ∧ Told e [] D ∧ (D.map (·.1)).Nodup ∧ (∀ x b, (x, b) ∈ D → x < G.length) ∧ J D true wr ∧ Else (fun k => (A.S k ∨ k = wb ∨ k = mb) ∨ T k) w2 wr ∧ (∀ t v i, t < j → (vsort G)[t]? = some v → gvar G v = some i → ∃ b, (ro i, b) ∈ D)
set_option maxHeartbeats 8000000 in
theorem walk_any (eg : ∀ args w, (callFunc gf args).run Try.prog w = .ok (.enter gf args) w) (hC : ClM O w cb A st false G.length G kn nx col ro fs) (hst : 0 ≤ fs ∧ fs ≤ 20000000000) (hG : G.length ≤ 500000) (hGN : GN G) (hP : Gp G) (hro : ∀ i, i < G.length → ro i < G.length)
    (hT : TellOk gf lb cb G.length (chR G kn ro) T J fun W => ∃ f, ClM O W cb A st false G.length G kn nx col ro f) (hTd : ∀ k, T k → k < w.heap.size ∧ ¬ (A.D k ∨ A.F cb k)) (hJs : ∀ D g (S : Nat → Prop) W W', J D g W → Else S W W' → (∀ k, S k → ¬ T k) → J D g W') (hJ : J [] true w) :
    Calls Try.prog 34 #[.pointer (some ⟨cb, 0, none⟩), .func (.func gf) #[] lb] w (WkPost O cb A st G kn nx col ro T J fs w) := by
  have hdg : dg G.length ≤ 21 := Un.dg_le (by omega)
  have hmm := @run_makeMap Try.prog
  have H := Lib.hid (And.intro hC (And.intro hst (And.intro hG (And.intro hGN (And.intro hP (And.intro hro hdg))))))
  have HD := Lib.hid (And.intro hT (And.intro hTd (And.intro hJs hJ)))
  clear hC hst hG hGN hP hro hdg hT hTd hJs hJ
  go_enter Try.func34, Try.ntmps34
  obtain ⟨w1, hw1⟩ : ∃ w1, (w.alloc (Obj.map #[] 0)).alloc (.cells #[.map (some w.heap.size), .int .i64 0] 106) = w1 := ⟨_, rfl⟩
  have hb1 : Below w.heap.size w w1 := by rw [← hw1]; exact ((Below.refl _ _).alloc (Nat.le_refl _) _).alloc (by simp) _
  have hs1 : w1.heap.size = w.heap.size + 2 := by rw [← hw1]; simp
  have hwk : WkM w1 (w.heap.size + 1) w.heap.size (fun _ => none) ((0 : Nat) : Int) 0 := by
    rw [← hw1]
    refine ⟨?_, 0, ?_⟩
    · have h := heap_alloc_new (w.alloc (Obj.map #[] 0)) (.cells #[.map (some w.heap.size), .int .i64 0] 106)
      rw [World.size_alloc] at h
      exact h
    · have h := (MapF.made w).kept (World.grownBy_alloc _ (.cells #[.map (some w.heap.size), .int .i64 0] 106) none) (by simp)
      refine h.ext fun n _ => ?_
      unfold endF
      split <;> rfl
  have HV := Lib.hid (vars_cl (H.out.1.below hb1) (by have := H.out.2.2.1; omega) H.out.2.2.2.1)
  have H1 := Lib.hid (And.intro hb1 (And.intro hs1 hwk))
  have HW1 := Lib.hid hw1
  clear hb1 hs1 hwk hw1
  go_wp2_with fail
  rw [HW1.out]
  refine HV.out.mono ?_
  clear HV
  rintro x w2 ⟨v', rfl, hr, hb2⟩
  obtain ⟨Av, cv, rfl, _, _⟩ := Un.own_form hr
  obtain ⟨vs, hvs⟩ : ∃ l, vsort G = l := ⟨_, rfl⟩
  rw [hvs] at hr ⊢
  have hvl : vs.length ≤ G.length := by rw [← hvs]; exact vsort_le_ G
  have HI0 : WkI O cb A st G kn nx col ro (w.heap.size + 1) w.heap.size T J fs w2 0 w2 := by
    refine ⟨fun _ => none, [], 0, 0, 0, by simpa using (H.out.1.below H1.out.1).below hb2, Nat.zero_le _, H1.out.2.2.keep (S := fun _ => False) (Else.of_below hb2) id id, Nat.zero_le _, Nat.zero_le _, Dfs.none, ⟨fun x b h => by simp at h, fun x b h => by simp at h⟩, by simp, fun x b h => by simp at h, ?_, Else.refl _ _, fun t v i h => by omega⟩
    exact HD.out.2.2.1 [] true (fun _ => False) _ _ HD.out.2.2.2 ((Else.of_below H1.out.1).trans (Else.of_below (hb2.mono (by have := H1.out.2.1; omega)))) fun _ h => h.elim
  have H2 := Lib.hid (And.intro hr (And.intro hb2 (And.intro hvs (And.intro hvl HI0))))
  clear hr hb2 hvs hvl HI0
  go_wp2_with fail
  go_loopw [7, 8, 9, 15] (fun _ _ _ s15 wr => ∃ j : Nat, s15 = .int .i64 (j : Nat) ∧ j ≤ vs.length ∧ WkI O cb A st G kn nx col ro (w.heap.size + 1) w.heap.size T J fs w2 j wr) (fun _ _ _ s _ => vs.length - (intOf s).toNat)
  case atStart => exact ⟨0, rfl, Nat.zero_le _, H2.out.2.2.2.2⟩
  case round =>
    obtain ⟨j, rfl, hj, hI⟩ := hrel
    obtain ⟨e, D, f, q, m, hCr, hf, hWr, hq, hm, hdf, htd, hnd, hdl, hJr, hEr, hkn⟩ := id hI
    have hdn : D.length ≤ G.length := by
      have := nodup_len hnd (fun x hx => by
        obtain ⟨s, hs, rfl⟩ := List.mem_map.1 hx
        exact hdl s.1 s.2 hs)
      simpa using this
    have hvn := H2.out.2.2.2.1
    have hpay := payD_le (chR_le (kn := kn) (ro := ro) (n := G.length) H.out.2.2.2.2.1) D
    have hG5 := H.out.2.2.1
    have HB := Lib.hid (show f ≤ 400 * G.length ∧ q ≤ 35 * G.length ∧ 0 ≤ fs + (f : Int) ∧ fs + (f : Int) ≤ 40000000000 ∧ q ≤ 9000000000 ∧ m ≤ 9000000 ∧ D.length ≤ G.length by have := H.out.2.1; omega)
    have HI := Lib.hid (And.intro hCr (And.intro hf (And.intro hWr (And.intro hq (And.intro hm (And.intro hdf (And.intro htd (And.intro hnd (And.intro hdl (And.intro hJr (And.intro hEr hkn)))))))))))
    clear hCr hf hWr hq hm hdf htd hnd hdl hJr hEr hkn hdn hpay hI
    have hjb : j ≤ 500000 := by omega
    clear hvn hG5
    by_cases hjl : j < vs.length
    · obtain ⟨v, hv⟩ : ∃ v, vs[j]? = some v := ⟨_, List.getElem?_eq_getElem hjl⟩
      obtain ⟨hvm, i, hvi, hil⟩ := vsort_var (G := G) (a := v) (by rw [H2.out.2.2.1]; exact List.mem_of_getElem? hv)
      have hwv := H.out.2.2.2.1.2 v hvm
      have f1 : decide ((j : Int) < (vs.length : Int)) = true := decide_eq_true (by omega)
      have f2 : decide (j < vs.length) = true := decide_eq_true hjl
      have hp0 := H2.out.1
      obtain ⟨bv, cvv, hsh, hbw, hbl⟩ := Un.own_shape hp0 (by omega)
      injection hsh with hA1 _ hcc1
      subst hA1; subst hcc1
      have hvb : w1.heap.size ≤ bv := (hp0.lt bv rfl).1
      have hrowr := own_else hp0 HI.out.2.2.2.2.2.2.2.2.2.2.1 (fun k hk he => by
        have hk : some bv = some k := hk
        injection hk with hk
        have h2 := H1.out.2.1
        rcases he with (he | he | he) | he
        · have := H.out.1.lt (k := k) (.inr (.inl he)); omega
        · omega
        · omega
        · have := (HD.out.2.1 k he).1; omega)
      have z1 : wr.cell? ⟨bv, j, none⟩ = some (.int .i64 v) := (hrowr.cellAt j (by omega)).trans (by simp [ints, hv])
      have HPT := cpart_cl HI.out.1 (by have := HB.out; omega) v hwv (fun z hz => by rw [hvi] at hz; cases hz; exact hil)
      rw [hvi] at HPT
      have HPT := Lib.hid HPT
      have HJL := Lib.hid (And.intro hjl (And.intro hv (And.intro hvi hil)))
      clear hp0 hrowr hvb hbl hbw hv hvi hil hvm hwv
      go_wp2_with fail
      refine HPT.out.mono ?_
      clear HPT
      rintro x w3 ⟨k3, rfl, hk3, hC3, hE3⟩
      obtain ⟨r, hr⟩ : ∃ r, ro i = r := ⟨_, rfl⟩
      rw [hr]
      have hrn : r < G.length := by rw [← hr]; exact H.out.2.2.2.2.2.1 i HJL.out.2.2.2
      unfold ptV
      dsimp only [Option.map_some]
      obtain ⟨w4, hw4⟩ : ∃ w4, w3.alloc (.cells #[.pointer (some ⟨cb, 0, none⟩), .int .i64 (r : Nat)] 76) = w4 := ⟨_, rfl⟩
      have hb4 : Below w3.heap.size w3 w4 := by rw [← hw4]; exact (Below.refl _ _).alloc (Nat.le_refl _) _
      have hE4 : Else A.S wr w4 := hE3.trans (Else.of_below hb4)
      have hC4 := hC3.below hb4
      have hlow : ∀ k, A.D k ∨ A.F cb k → k < w.heap.size := fun k hk => H.out.1.lt hk
      have hW4 := HI.out.2.2.1.keep hE4 (fun h => by have := hlow _ (.inr (.inl h)); omega) (fun h => by have := hlow _ (.inr (.inl h)); omega)
      have hJ4 := HD.out.2.2.1 D true _ _ _ HI.out.2.2.2.2.2.2.2.2.2.1 hE4 (fun k hk hT => (HD.out.2.1 k hT).2 (.inr (.inl hk)))
      have hsz4 : w.heap.size + 2 ≤ w4.heap.size := by have h1 := HI.out.2.2.2.2.2.2.2.2.2.2.1.size; have h2 := hE4.size; have h3 := H2.out.2.1.size; have h4 := H1.out.2.1; omega
      have HFR := from_any eg hC4 hW4 (fun k hk => by have := hlow k hk; exact ⟨by omega, by omega⟩) (by omega) (by have := HB.out; have := H.out.2.2.2.2.2.2; omega) (by have := HB.out; omega) (by have := HB.out; omega) H.out.2.2.2.2.2.2 H.out.2.2.1 r hrn H.out.2.2.2.2.1 H.out.2.2.2.2.2.1 HI.out.2.2.2.2.2.1 HI.out.2.2.2.2.2.2.1 hJ4 HD.out.1 (fun k hk => by have h1 := HD.out.2.1 k hk; exact ⟨by omega, by omega, by omega, h1.2⟩) HD.out.2.2.1 HI.out.2.2.2.2.2.2.2.2.1 HI.out.2.2.2.2.2.2.2.1
      have hbx : w4.heap[w3.heap.size]? = some (.cells #[.pointer (some ⟨cb, 0, none⟩), .int .i64 (r : Nat)] 76) := by rw [← hw4]; exact heap_alloc_new _ _
      have HFR := Lib.hid HFR
      have H4 := Lib.hid (And.intro hk3 (And.intro hE4 (And.intro hr hbx)))
      have HW4 := Lib.hid hw4
      clear hk3 hC3 hE3 hb4 hE4 hC4 hlow hW4 hJ4 hr hbx hrn hw4 hsz4
      go_wp2_with fail
      rw [HW4.out]
      refine HFR.out.mono ?_
      clear HFR
      rintro x w5 ⟨g, e5, S5, D5, f5, q5, m5, rfl, hC5, hW5, ⟨X5, hX5⟩, hf5, hq5, hm5, hJ5, hE5, hdf5, htd5, hlt5, hg5, hnd5, hdl5⟩
      have hE5w : Else (fun k => (A.S k ∨ k = w.heap.size + 1 ∨ k = w.heap.size) ∨ T k) wr w5 := (H4.out.2.1.mono fun k hk => .inl (.inl hk)).trans (hE5.mono fun k hk => by rcases hk with hk | hk | hk | hk; exact .inl (.inl hk); exact .inl (.inr (.inl hk)); exact .inl (.inr (.inr hk)); exact .inr hk)
      have hE5a := HI.out.2.2.2.2.2.2.2.2.2.2.1.trans hE5w
      have H5 := Lib.hid (And.intro hC5 (And.intro hW5 (And.intro hX5 (And.intro hf5 (And.intro hq5 (And.intro hm5 (And.intro hJ5 (And.intro hdf5 (And.intro htd5 (And.intro hlt5 (And.intro hg5 (And.intro hnd5 (And.intro hdl5 hE5a)))))))))))))
      have y1 : w5.cell? ⟨w.heap.size + 1, 1, none⟩ = some (.int .i64 (((q : Nat) : Int) + (q5 : Nat))) := cell_of_row w5 _ 1 _ _ (0, 0) hW5.1
      clear hC5 hW5 hX5 hf5 hq5 hm5 hJ5 hE5 hdf5 htd5 hlt5 hg5 hnd5 hdl5 hE5w hE5a z1 f1 f2
      cases g with
      | true =>
        have hjs := HJL.out.1
        go_wp2_with fail
        go_roundw
        case rel =>
          refine ⟨j + 1, by go_num, HJL.out.1, ?_⟩
          obtain ⟨hC5, hW5, hX5, hf5, hq5, hm5, hJ5, hdf5, htd5, hlt5, hg5, hnd5, hdl5, hE5a⟩ := H5.out
          obtain ⟨rfl, hes⟩ := hg5 (by trivial)
          refine ⟨e5, D5, f + k3 + f5, q + q5, m5, ?_, ?_, ?_, ?_, ?_, hdf5, htd5, hnd5, hdl5, hJ5, hE5a, fun t v2 i2 ht hv2 hi2 => ?_⟩
          · have e1 : fs + ((f + k3 + f5 : Nat) : Int) = fs + f + k3 + f5 := by push_cast; omega
            rw [e1]
            exact hC5
          · have h1 := HI.out.2.1; have h2 := H4.out.1; have h3 := H.out.2.2.2.2.2.2; simp at hf5; omega
          · have e1 : ((q + q5 : Nat) : Int) = (q : Int) + q5 := by push_cast; rfl
            rw [e1]
            exact hW5
          · have h1 := HI.out.2.2.2.1; simp [payS] at hq5; omega
          · have h1 := HI.out.2.2.2.2.1; simp at hm5; omega
          · rcases Nat.lt_or_ge t j with h1 | h1
            · obtain ⟨b, hb⟩ := HI.out.2.2.2.2.2.2.2.2.2.2.2 t v2 i2 h1 hv2 hi2
              exact ⟨b, by rw [hX5]; exact List.mem_append_left _ hb⟩
            · obtain rfl : t = j := by omega
              rw [H2.out.2.2.1, HJL.out.2.1] at hv2
              injection hv2 with hv2
              subst hv2
              rw [HJL.out.2.2.1] at hi2
              injection hi2 with hi2
              subst hi2
              obtain ⟨b, hb⟩ := Option.isSome_iff_exists.1 hes
              exact ⟨b, htd5.all _ b (by rw [H4.out.2.2.1]; exact hb) (fun s hs => by simp at hs)⟩
        case measure => simp [intOf]; omega
      | false =>
        go_wp2_with fail
        refine bodyPost_ret (results_tmp rfl _ _ _) rfl ?_
        obtain ⟨hC5, hW5, hX5, hf5, hq5, hm5, hJ5, hdf5, htd5, hlt5, hg5, hnd5, hdl5, hE5a⟩ := H5.out
        have hdn : D5.length ≤ G.length := by
          have := nodup_len hnd5 (fun x hx => by
            obtain ⟨s, hs, rfl⟩ := List.mem_map.1 hx
            exact hdl5 s.1 s.2 hs)
          simpa using this
        have hsn : S5.length ≤ G.length := by
          have := nodup_len hdf5.nd (fun x hx => by
            obtain ⟨s, hs, rfl⟩ := List.mem_map.1 hx
            exact hlt5 s hs)
          simpa using this
        have h8 := chR_le (kn := kn) (ro := ro) (n := G.length) H.out.2.2.2.2.1
        have p1 := payD_le h8 D5
        have p2 := payS_le h8 S5 hdf5.le
        refine ⟨false, e5, S5, D5, f + k3 + f5, q + q5, by push_cast; rfl, ?_, ?_, ?_, hJ5, ?_, hdf5, htd5, hnd5, hdl5, fun h => by cases h⟩
        · have e1 : fs + ((f + k3 + f5 : Nat) : Int) = fs + f + k3 + f5 := by push_cast; omega
          rw [e1]
          exact hC5
        · have h1 := HI.out.2.1; have h2 := H4.out.1; have h3 := H.out.2.2.2.2.2.2; have h4 := HJL.out.1; have h5 := H2.out.2.2.2.1; omega
        · have h1 := HI.out.2.2.2.1; have h4 := HJL.out.1; have h5 := H2.out.2.2.2.1; omega
        · exact ((((Else.of_below H1.out.1).trans (Else.of_below (H2.out.2.1.mono (by have := H1.out.2.1; omega)))).trans hE5a)).old fun k hk => by rcases hk with (hk | hk | hk) | hk; exact .inl (.inl hk); exact .inr (by omega); exact .inr (by omega); exact .inl (.inr hk)
    · have f1 : decide ((j : Int) < (vs.length : Int)) = false := decide_eq_false (by omega)
      have f2 : decide (j < vs.length) = false := decide_eq_false hjl
      have hje : j = vs.length := by omega
      have y1 : wr.cell? ⟨w.heap.size + 1, 1, none⟩ = some (.int .i64 ((q : Nat) : Int)) := cell_of_row wr _ 1 _ _ (0, 0) HI.out.2.2.1.1
      have HJE := Lib.hid hje
      clear hje
      go_wp2_with fail
      refine bodyPost_ret (results_tmp rfl _ _ _) rfl ?_
      refine ⟨true, e, [], D, f, q, rfl, HI.out.1, by have := HB.out; omega, by have := HB.out; omega, HI.out.2.2.2.2.2.2.2.2.2.1, ?_, HI.out.2.2.2.2.2.1, HI.out.2.2.2.2.2.2.1, HI.out.2.2.2.2.2.2.2.1, HI.out.2.2.2.2.2.2.2.2.1, fun _ => ⟨rfl, fun v i hv => ?_⟩⟩
      · exact ((((Else.of_below H1.out.1).trans (Else.of_below (H2.out.2.1.mono (by have := H1.out.2.1; omega)))).trans HI.out.2.2.2.2.2.2.2.2.2.2.1)).old fun k hk => by rcases hk with (hk | hk | hk) | hk; exact .inl (.inl hk); exact .inr (by omega); exact .inr (by omega); exact .inl (.inr hk)
      · obtain ⟨t, ht, hte⟩ := List.getElem_of_mem (var_vsort hv)
        have hte2 : (vsort G)[t]? = some v := by rw [List.getElem?_eq_getElem ht, hte]
        exact HI.out.2.2.2.2.2.2.2.2.2.2.2 t v i (by rw [HJE.out, ← H2.out.2.2.1]; exact ht) hte2 hv
end CyFs
end Go.Proofs.Ytojgiienohpaiaa
/- unify: a closure's variables; questions of a closure that doesn't clash. -/
namespace Go.Proofs.Ytojgiienohpaiaa
open Go.RowKit
open Un (Else dg cnt own_else)
set_option maxRecDepth 100000
section
variable {O T : Nat → Prop} {w w' : World} {cb m : Nat} {G : List Gn} {E : List (Nat × Nat)} {st fs f : Int} {s : Sys} {b : Nat}
theorem vars_cs (h : CsM O w cb G E st fs m) (hl : G.length ≤ 1000000) (hg : GN G) :
    Calls Try.prog 38 #[.pointer (some ⟨cb, 0, none⟩)] w fun e w' => ∃ v', e = .returned v' ∧ w'.ownsRow w.heap.size 3 1 v' (vsort G).length (ints (vsort G)) ∧ Below w.heap.size w w' := by
  obtain ⟨⟨A, kn, nx, col, ro, hC, _⟩, _⟩ := h
  obtain ⟨hl0, _, _, _, c2, _, _⟩ := hC.cells
  have HV := Lib.hid (vars_graph w 0 A.g A.mb A.V A.L G hC.gr hl hg.1 hg.2)
  clear hC
  go_enter Try.func38, Try.ntmps38
  go_wp2_with fail
  refine HV.out.mono ?_
  rintro e w2 ⟨v', rfl, hr, hb⟩
  obtain ⟨Av, cv, rfl, _, _⟩ := Un.own_form hr
  have HR := Lib.hid (And.intro hr hb)
  clear hr hb HV
  go_wp2_with fail
  exact bodyPost_ret (results_tmp rfl _ _ _) rfl ⟨.slice Av (vsort G).length cv, rfl, HR.out.1, HR.out.2⟩
/-- A closure that doesn't clash; its forest's steps are bounded. -/
def CQ (O : Nat → Prop) (w : World) (cb : Nat) (s : Sys) (f : Int) : Prop := ∃ st fs m, CsM O w cb s.1 s.2 st fs m ∧ 0 ≤ fs ∧ fs ≤ f
theorem Clo.cq (h : Clo O w cb s b) (hn : ¬ Clash s.1 s.2) : CQ O w cb s (b * 100000000) := by
  rcases h with ⟨st, fs, m, hC, _, _, h3, h4⟩ | ⟨hc, _⟩
  · exact ⟨st, fs, m, hC, h3, h4⟩
  · exact absurd hc hn
theorem CQ.keep (h : CQ O w cb s f) (he : Else T w w') (ht : ∀ k, O k → ¬ T k) : CQ O w' cb s f := by
  obtain ⟨st, fs, m, hC, h2⟩ := h
  exact ⟨st, fs, m, hC.keep he ht, h2⟩
theorem CQ.more {f' : Int} (h : CQ O w cb s f) (hf : f ≤ f') : CQ O w cb s f' := by
  obtain ⟨st, fs, m, hC, h2, h3⟩ := h
  exact ⟨st, fs, m, hC, h2, by omega⟩
theorem CQ.below (h : CQ O w cb s f) (hb : Below w.heap.size w w') : CQ O w' cb s f := h.keep (T := fun _ => False) (Else.of_below hb) fun _ _ e => e
theorem err_clo (h : Clo O w cb s b) : Calls Try.prog 20 #[.pointer (some ⟨cb, 0, none⟩)] w fun e w' => (∃ r : Int, e = .returned (.int .i64 r) ∧ ((r = 7 ∧ Clash s.1 s.2) ∨ (r = 0 ∧ ¬ Clash s.1 s.2))) ∧ w' = w := by
  rcases h with ⟨st, fs, m, hC, _⟩ | ⟨hc, _, _, st, hx⟩
  · exact (err_cs hC).mono fun e w' ⟨h1, h2⟩ => ⟨⟨0, h1, .inr ⟨rfl, hC.noClash⟩⟩, h2⟩
  · exact (err_cx hx).mono fun e w' ⟨h1, h2⟩ => ⟨⟨7, h1, .inl ⟨rfl, hc⟩⟩, h2⟩
end
/-- A variable's node stays the first one. -/
theorem gvar_later {G X : List Gn} {v : Int} {i : Nat} (h : gvar G v = some i) : gvar (G ++ X) v = some i := by
  induction G generalizing i with
  | nil => cases h
  | cons x G ih =>
    simp only [gvar, List.cons_append] at h ⊢
    split at h
    · rename_i hx
      rw [if_pos hx]
      exact h
    · rename_i hx
      obtain ⟨j, hj, rfl⟩ := Option.map_eq_some_iff.1 h
      rw [if_neg hx, ih hj]
      rfl
theorem SameIs.later {s t : Sys} (hX : ∃ X, t.1 = s.1 ++ X) (hY : ∃ Y, t.2 = s.2 ++ Y) {a b : Int} (h : SameIs s.1 s.2 a b) : SameIs t.1 t.2 a b := by
  obtain ⟨i, j, h1, h2, h3⟩ := h
  obtain ⟨X, hX'⟩ := hX
  refine ⟨i, j, ?_, ?_, h3.later ⟨X, hX'⟩ hY⟩
  · rw [hX']; exact gvar_later h1
  · rw [hX']; exact gvar_later h2
/-- A kind that is known stays. -/
theorem KindIs.later {s t : Sys} (hX : ∃ X, t.1 = s.1 ++ X) (hY : ∃ Y, t.2 = s.2 ++ Y) (hn : ¬ Clash t.1 t.2) {v r r' : Int} (h : KindIs s.1 s.2 v r) (h' : KindIs t.1 t.2 v r') (h0 : r ≠ 0) : r' = r := by
  unfold KindIs at h h'
  cases hg : gvar s.1 v with
  | none => rw [hg] at h; exact absurd h h0
  | some i =>
    rw [hg] at h
    obtain ⟨X, hX'⟩ := hX
    have hg' : gvar t.1 v = some i := by rw [hX']; exact gvar_later hg
    rw [hg'] at h'
    rcases h with ⟨y, q, h1, h2, h3, rfl⟩ | ⟨h, _⟩
    · have h1' := Cl.later ⟨X, hX'⟩ hY h1
      have h2' : t.1[y]? = some q := by rw [hX']; exact app_get h2
      rcases h' with ⟨z, p, g1, g2, g3, rfl⟩ | ⟨_, g⟩
      · apply Decidable.byContradiction
        intro hne
        exact hn ⟨z, y, p, q, g1.symm.trans h1', g2, h2', g3, h3, fun e => hne e.1⟩
      · exact absurd (g y q h1' h2') h3
    · exact absurd h h0
end Go.Proofs.Ytojgiienohpaiaa
/- UnifyMore, walked. -/
namespace Go.Proofs.Ytojgiienohpaiaa
open Go.RowKit
open Un (Else dg cnt own_else)
set_option maxRecDepth 100000
theorem EqV.len_le {B : Nat} {w : World} {l : List Eqn} {v : Value} (h : EqV B w l v) : l.length ≤ 9223372036854775807 := by
  obtain ⟨A, c, _, h1, _⟩ := h
  by_cases h0 : 0 < l.length
  · obtain ⟨_, _, _, _, h2, h3, _⟩ := h1 h0
    unfold maxLen at h3
    omega
  · omega
/-- Two new closures. -/
theorem Two.new {w4 w5 w6 : World} {c d : Nat} (h5 : CsM (fun k => w4.heap.size ≤ k) w5 c [] [] 0 0 0) (hb5 : Below w4.heap.size w4 w5) (h6 : CsM (fun k => w5.heap.size ≤ k) w6 d [] [] 0 0 0) (hb6 : Below w5.heap.size w5 w6) : Two w4.heap.size w6 c d ([], []) ([], []) 0 := by
  obtain ⟨Oc, a1, a2⟩ := h5.tight
  obtain ⟨Od, b1, b2⟩ := h6.tight
  have hs5 := hb5.size
  have hs6 := hb6.size
  refine ⟨Oc, Od, .inl ⟨0, 0, 0, a2.below hb6, by omega, by omega, by omega, by omega⟩, .inl ⟨0, 0, 0, b2, by omega, by omega, by omega, by omega⟩, fun k hk => ?_, fun k hk => ?_, fun k hk hd => ?_⟩
  · have := a1 k hk; omega
  · have := b1 k hk; omega
  · have := a1 k hk
    have := b1 k hd
    omega
theorem two_err {w : World} {B b c d : Nat} {s t : Sys} (h : Two B w c d s t b) : Calls Try.prog 20 #[.pointer (some ⟨d, 0, none⟩)] w fun e w' => (∃ r : Int, e = .returned (.int .i64 r) ∧ ((r = 7 ∧ Clash t.1 t.2) ∨ (r = 0 ∧ ¬ Clash t.1 t.2))) ∧ w' = w := by
  obtain ⟨_, _, _, h2, _⟩ := h
  exact err_clo h2
theorem fold_take (m : List Eqn) (s : Sys) (j : Nat) (hj : j < m.length) : (m.take (j + 1)).foldl stp s = stp ((m.take j).foldl stp s) m[j] := by
  rw [List.take_add_one, List.getElem?_eq_getElem hj, List.foldl_append]
  rfl
theorem rt_of {l : List Eqn} {j : Nat} (hj : j < (rights l).length) : rtE (rights l)[j] = true := (List.mem_filter.1 (List.getElem_mem hj)).2
theorem sz_of {l : List Eqn} {j : Nat} (hj : j < l.length) : esz (l.take j) + sz1 l[j] ≤ esz l := by
  rw [← esz_step l j hj]
  exact esz_take l (j + 1)
theorem vsort_mem {G : List Gn} {i : Nat} {a : Int} (h : (vsort G)[i]? = some a) : a ∈ names G := by
  have hp := (vfold G [] List.Pairwise.nil).2
  have := hp.mem_iff.1 (List.mem_of_getElem? h)
  simpa using this
theorem vars_cq {O : Nat → Prop} {w : World} {cb : Nat} {s : Sys} {f : Int} (h : CQ O w cb s f) (hl : s.1.length ≤ 1000000) (hg : GN s.1) :
    Calls Try.prog 38 #[.pointer (some ⟨cb, 0, none⟩)] w fun e w' => ∃ v', e = .returned v' ∧ w'.ownsRow w.heap.size 3 1 v' (vsort s.1).length (ints (vsort s.1)) ∧ Below w.heap.size w w' := by
  obtain ⟨st, fs, m, hC, _⟩ := h
  exact vars_cs hC hl hg
theorem err_cq {O : Nat → Prop} {w : World} {cb : Nat} {s : Sys} {f : Int} (h : CQ O w cb s f) : Calls Try.prog 20 #[.pointer (some ⟨cb, 0, none⟩)] w fun e w' => e = .returned (.int .i64 0) ∧ w' = w := by
  obtain ⟨st, fs, m, hC, _⟩ := h
  exact err_cs hC
end Go.Proofs.Ytojgiienohpaiaa
/- unify: the variables of a variable's class. -/
namespace Go.Proofs.Ytojgiienohpaiaa
open Go.RowKit Go.Sort
open Un (Else dg cnt own_else Rings Ring Pth)
set_option maxRecDepth 100000
theorem sort_ints (w : World) (B g cap : Nat) (z : List Int) (hown : w.ownsRow B 3 1 (.slice (some ⟨g, 0, none⟩) z.length cap) z.length (ints z)) (hl : z.length ≤ 1048576) :
    Calls Try.prog 84 #[.slice (some ⟨g, 0, none⟩) z.length cap] w fun e w' => e = .returned (.tuple #[]) ∧ ∃ z' : List Int, z'.Perm z ∧ z'.Pairwise (· ≤ ·) ∧ Rd w' 1 (.slice (some ⟨g, 0, none⟩) z.length cap) z.length (ints z') ∧ Else (fun k => k = g) w w' := by
  obtain ⟨hgl, hcap, hcm⟩ : g < w.heap.size ∧ z.length ≤ cap ∧ cap ≤ maxLen := by
    rcases hown.2 with ⟨h, _⟩ | ⟨g', cap', cur, hv, _, hh, h1, h2, _⟩
    · cases h
    · injection hv with hv _ hc
      injection hv with hv
      injection hv with hv
      subst hv; subst hc
      exact ⟨(Array.getElem?_eq_some_iff.1 hh).1, h1, h2⟩
  have hcell : ∀ j, (hj : j < z.length) → w.cell? ⟨g, j, none⟩ = some (.int .i64 z[j]) := by
    intro j hj
    rw [hown.cellAt j (by omega)]
    simp [ints, hj]
  have hH : Holds (Value.int .i64) w g 0 z.toArray := by
    intro j hj
    have hj' : j < z.length := by simpa using hj
    refine ⟨?_, ?_⟩
    · rw [Nat.zero_add, hcell j hj']
      congr 2
      rw [getElem!_pos z.toArray j hj]
      simp
    · rw [Nat.zero_add]; exact hown.frozenAt j
  have hc := Try.slices_Sort_int g 0 cap z w hH hgl (by omega)
  refine hc.mono ?_
  rintro e w' ⟨rfl, n, os, rfl⟩
  have hperm : (z.mergeSort fun x y => decide (x ≤ y)).Perm z := List.mergeSort_perm _ _
  have hpw : (z.mergeSort fun x y => decide (x ≤ y)).Pairwise (fun a b => decide (a ≤ b) = true) := List.pairwise_mergeSort (fun a b c h1 h2 => by simp at h1 h2 ⊢; omega) (fun a b => by simp; omega) _
  generalize (z.mergeSort fun x y => decide (x ≤ y)) = z' at *
  have hz'l : z'.length = z.length := hperm.length_eq
  refine ⟨rfl, z', hperm, hpw.imp fun h => by simpa using h, ?_, ?_⟩
  · refine ⟨by rw [ints_len, hz'l]; omega, .inr ⟨g, 0, cap, rfl, hcap, hcm, by simp [grow]; omega, fun j u hu => ?_⟩⟩
    have hj : j < z'.length := by have := (List.getElem?_eq_some_iff.1 hu).1; rwa [ints_len] at this
    have hcp := cell?_putRow (Value.int .i64) (Sort.ahead w n) g 0 z.toArray z'.toArray (holds_ahead _ _ _ _ _ _ hH) (by simp; omega) j (by simpa using hj)
    rw [Nat.zero_add] at hcp ⊢
    have hgrow : (grow (putRow (Value.int .i64) (Sort.ahead w n) g 0 z'.toArray) os).cell? ⟨g, j, none⟩ = (putRow (Value.int .i64) (Sort.ahead w n) g 0 z'.toArray).cell? ⟨g, j, none⟩ := World.cell?_of_block (heap_grow_old _ _ (by simp; omega))
    rw [hgrow, hcp, ← hu]
    rw [getElem!_pos z'.toArray j (by simpa using hj)]
    simp [ints, hj]
  · refine ⟨rfl, rfl, rfl, by simp [grow], fun k hk hne => ?_⟩
    rw [heap_grow_old _ _ (by simp; omega)]
    show ((Sort.ahead w n).heap.modify g _)[k]? = _
    rw [Array.getElem?_modify, if_neg (by simpa using Ne.symm hne)]
    rfl
/-- An int put behind a row. -/
theorem app_io (B : Nat) (w : World) (hB : B ≤ w.heap.size) (v : Value) (z : List Int) (hown : w.ownsRow B 3 1 v z.length (ints z)) (x : Int) (hn : z.length ≤ 10000000) :
    ∃ g cp w1, (app_ #[43, 43] 43 #[v, .slice (some ⟨w.heap.size, 0, none⟩) 1 1]).run Try.prog (w.alloc (.cells #[.int .i64 x] 3)) = .ok (.slice (some ⟨g, 0, none⟩) (z.length + 1) cp) w1 ∧
      w1.ownsRow B 3 1 (.slice (some ⟨g, 0, none⟩) (z.length + 1) cp) (z ++ [x]).length (ints (z ++ [x])) ∧ Below B w w1 := by
  obtain ⟨i0, hi0, hz0, hz1, hz2⟩ := Un.info_parts Un.intInfo
  have own1 := hown.alloc (.cells #[.int .i64 x] 3)
  have rd1 : Rd (w.alloc (.cells #[.int .i64 x] 3)) 1 (.slice (some ⟨w.heap.size, 0, none⟩) 1 1) 1 [.int .i64 x] := rd_new w [.int .i64 x] 3 1 1 rfl (by unfold maxLen; omega)
  obtain ⟨v', w1, hrun, hown1, hg1, _⟩ := run_append_rd (P := Try.prog) _ B 43 43 3 i0 _ 1 8 Try.underlying43 hi0 hz0 hz1 hz2 rfl (by omega) v _ _ own1 _ 1 _ rd1 (by simp [Value.oneCell']) (by unfold maxLen; omega) (by omega) (by rw [World.size_alloc]; omega)
  obtain ⟨g, cp, rfl, _, _⟩ := Un.own_shape hown1 (by omega)
  refine ⟨g, cp, w1, hrun, ?_, ((Below.refl B w).alloc hB _).grown hg1 (by rw [World.size_alloc]; omega) fun k hk => (hown.lt k hk).1⟩
  rw [List.length_append]
  have e : ints (z ++ [x]) = ints z ++ [.int .i64 x] := by simp [ints]
  rw [e]
  exact hown1
attribute [local go_sem] Oper.semAt_some
attribute [local go_sem ↓] builtin_app
/-- Numbers of nodes, by name. -/
def nmL (G : List Gn) (L : List Nat) : List Int := L.map (nmG G)
theorem names_at {G : List Gn} {a : Int} (h : a ∈ names G) : ∃ i p, G[i]? = some p ∧ p.1 = 1 ∧ p.2.1 = a ∧ gvar G a = some i := by
  have h2 := (gvar_names G a).2 h
  obtain ⟨i, hi⟩ := Option.isSome_iff_exists.1 h2
  obtain ⟨p, hp, p1, p2⟩ := gvar_at hi
  exact ⟨i, p, hp, p1, p2, hi⟩
/-- A variable's only node. -/
theorem gvar_node {G : List Gn} (hg : GN G) {i : Nat} {p : Gn} (hp : G[i]? = some p) (p1 : p.1 = 1) : gvar G p.2.1 = some i := by
  induction G generalizing i with
  | nil => simp at hp
  | cons x G ih =>
    have hn : names (x :: G) = (if x.1 = 1 then [x.2.1] else []) ++ names G := by
      unfold names
      by_cases h : x.1 = 1 <;> simp [h]
    have hg' : GN G := by
      refine ⟨?_, fun n hn' => hg.2 n (by rw [hn]; exact List.mem_append_right _ hn')⟩
      have := hg.1
      rw [hn] at this
      exact (List.nodup_append.1 this).2.1
    cases i with
    | zero =>
      simp only [List.getElem?_cons_zero, Option.some.injEq] at hp
      subst hp
      simp [gvar, p1]
    | succ i =>
      simp only [List.getElem?_cons_succ] at hp
      have hm := ih hg' hp
      simp only [gvar]
      split
      · rename_i hx
        exfalso
        have hmem : p.2.1 ∈ names G := (gvar_names G _).1 (by rw [hm]; rfl)
        have := hg.1
        rw [hn, if_pos hx.1] at this
        exact (List.nodup_append.1 this).2.2 x.2.1 (by simp) p.2.1 hmem hx.2
      · rw [hm]
        rfl
section UzJs
variable {O : Nat → Prop} {w : World} {cb m : Nat} {G : List Gn} {E : List (Nat × Nat)} {st fs : Int}
/-- What the variables of a variable's class are. -/
def ClassIs (G : List Gn) (E : List (Nat × Nat)) (v : Int) (ys : List Int) : Prop := ys.Nodup ∧ ys.Pairwise (· ≤ ·) ∧ ∀ a, a ∈ ys ↔ SameIs G E v a
theorem ClassIs.uniq {G H : List Gn} {E F : List (Nat × Nat)} {v : Int} {ys zs : List Int} (h : ClassIs G E v ys) (k : ClassIs H F v zs) (he : ∀ a, SameIs G E v a ↔ SameIs H F v a) : ys = zs := by
  have hp : ys.Perm zs := (List.perm_ext_iff_of_nodup h.1 k.1).2 fun a => by rw [h.2.2, k.2.2, he]
  exact List.Perm.eq_of_pairwise (le := fun a b => a ≤ b) (fun a b _ _ h1 h2 => Int.le_antisymm h1 h2) h.2.1 k.2.1 hp
theorem nodup_map_on {f : Nat → Int} {L : List Nat} (hf : ∀ x, x ∈ L → ∀ y, y ∈ L → f x = f y → x = y) (hn : L.Nodup) : (L.map f).Nodup := by
  induction L with
  | nil => exact List.nodup_nil
  | cons a L ih =>
    rw [List.nodup_cons] at hn
    rw [List.map_cons, List.nodup_cons]
    refine ⟨fun h => ?_, ih (fun x hx y hy => hf x (List.mem_cons_of_mem _ hx) y (List.mem_cons_of_mem _ hy)) hn.2⟩
    obtain ⟨b, hb, e⟩ := List.mem_map.1 h
    have := hf b (List.mem_cons_of_mem _ hb) a List.mem_cons_self e
    subst this
    exact hn.1 hb
end UzJs
end Go.Proofs.Ytojgiienohpaiaa
/- cycle: finiteness, told by equations. Nothing here speaks of the program's memory. -/
namespace Go.Proofs.Ytojgiienohpaiaa
open Un (cnt)
/-- One node's class has another one's as a part. -/
def Nx (G : List Gn) (E : List (Nat × Nat)) (j i : Nat) : Prop := ∃ (z : Nat) (p : Gn), Cl G E i z ∧ G[z]? = some p ∧ p.1 ≠ 1 ∧ j ∈ p.2.2.2
/-- All variables' classes are finite. -/
def FinC (G : List Gn) (E : List (Nat × Nat)) : Prop := ∀ v i, gvar G v = some i → Acc (Nx G E) i
/-- Parts have lesser numbers. -/
def GL (G : List Gn) : Prop := ∀ (i : Nat) (p : Gn), G[i]? = some p → ∀ u ∈ p.2.2.2, u < i
theorem gnode_GL {G : List Gn} {k n : Int} {P : List Nat} (h : GL G) (hlt : ∀ u ∈ P, u < G.length) : GL (gnode G k n P).1 := by
  unfold gnode
  split
  · exact h
  · intro i p hp u hu
    rcases Nat.lt_or_ge i G.length with hi | hi
    · rw [List.getElem?_append_left hi] at hp
      exact h i p hp u hu
    · rw [List.getElem?_append_right hi] at hp
      cases hj : i - G.length with
      | zero =>
        rw [hj] at hp
        simp only [List.getElem?_cons_zero, Option.some.injEq] at hp
        subst hp
        have := hlt u hu
        omega
      | succ j => rw [hj] at hp; simp at hp
theorem gadd_GL (F : Fo) : ∀ G, GI G → Vok F → LenOk F → GL G → GL (gadd G F).1 := by
  induction F with
  | nil => intro G _ _ _ h; rw [gadd_nil]; exact h
  | cons k n u ps r i1 i2 =>
    intro G hG hv hl h
    obtain ⟨v1, v2, v3⟩ := hv
    obtain ⟨l1, l2, l3⟩ := hl
    have g1 := gadd_ok ps G hG v2
    have p1 := i1 G hG v2 l2 h
    have hk : k = 1 → (gadd G ps).2 = [] := fun h => by rw [v1 h, gadd_nil]
    obtain ⟨_, ok2, _, _⟩ := gnode_ok (gadd G ps).1 k n (gadd G ps).2 g1.ok hk
    have p2 := gnode_GL (k := k) (n := n) p1 g1.lt
    rw [← gadd1_eq] at ok2 p2
    rw [gadd_cons]
    exact i2 _ ok2 v3 l3 p2
/-- One right type, added. -/
theorem gadd1_GL {G : List Gn} {k n : Int} {u : Sl} {ps : Fo} (hG : GI G) (h : GL G) (hr : allAlone (Fo.cons k n u ps .nil).pre = true) (hl : LenOk (Fo.cons k n u ps .nil)) : GL (gadd1 G k n ps).1 := by
  have h5 := gadd_GL (Fo.cons k n u ps .nil) G hG (vok_of hr hl) hl h
  rw [gadd_cons, gadd_nil] at h5
  exact h5
theorem chR_ro {n : Nat} {G : List Gn} {kn : Kn} {ro : Nat → Nat} (hP : ∀ p ∈ G, p.2.2.2.length ≤ 8 ∧ ∀ u ∈ p.2.2.2, u < n) (x y : Nat) (hy : y ∈ chR G kn ro x) : ∃ u, u < n ∧ y = ro u := by
  unfold chR at hy
  obtain ⟨u, hu, rfl⟩ := List.mem_map.1 hy
  refine ⟨u, ?_, rfl⟩
  unfold partsO at hu
  cases h : (kn x).1 with
  | none => rw [h] at hu; simp at hu
  | some k =>
    rw [h] at hu
    cases hg : G[k]? with
    | none => simp [hg] at hu
    | some p => simp [hg] at hu; exact (hP p (List.mem_of_getElem? hg)).2 u hu
section CyQs
variable {G H : List Gn} {E F : List (Nat × Nat)} {n : Nat} {col ro : Nat → Nat} {kn : Kn} {i j : Nat}
theorem Nx.cl (h : Cl G E i j) {k : Nat} (hx : Nx G E k j) : Nx G E k i := by
  obtain ⟨z, p, h1, h2⟩ := hx
  exact ⟨z, p, h.trans h1, h2⟩
theorem acc_cl (h : Cl G E i j) (ha : Acc (Nx G E) i) : Acc (Nx G E) j := ⟨j, fun _ hk => ha.inv (hk.cl h)⟩
/-- Finite by nodes, finite by roots. -/
theorem nx_roots (h : Js G n col ro kn E []) (hP : Gp G) (hi : i < n) : Acc (Nx G E) i ↔ Acc (Chl (chR G kn ro)) (ro i) := by
  have hlen := h.len
  constructor
  · intro ha
    induction ha with
    | intro i _ ih =>
      refine ⟨_, fun y hy => ?_⟩
      have hy : y ∈ chR G kn ro (ro i) := hy
      unfold chR at hy
      obtain ⟨u, hu, rfl⟩ := List.mem_map.1 hy
      cases hk : (kn (ro i)).1 with
      | none => rw [hk] at hu; cases hu
      | some z =>
        obtain ⟨p, hp, p1, hc⟩ := h.md.some i z (by omega) hk
        rw [hk] at hu
        have hu : u ∈ p.2.2.2 := by simpa [partsO, hp] using hu
        have hul := (hP p (List.mem_of_getElem? hp)).2 u hu
        exact ih u ⟨z, p, h.jn.done.2 (.inr ⟨by omega, lt_of_get hp, hc.symm⟩), hp, p1, hu⟩ (by omega)
  · intro ha
    obtain ⟨a, hae⟩ : ∃ a, ro i = a := ⟨_, rfl⟩
    rw [hae] at ha
    induction ha generalizing i with
    | intro a _ ih =>
      subst hae
      refine ⟨_, fun j hj => ?_⟩
      obtain ⟨z, p, hc, hp, p1, hjp⟩ := hj
      obtain ⟨k, q, hk, hq, q1, hf, hck⟩ := h.known hi hc hp p1
      obtain ⟨t, ht, rfl⟩ := List.getElem_of_mem hjp
      have htq : t < q.2.2.2.length := by have := hf.2; omega
      have hjl := (hP p (List.mem_of_getElem? hp)).2 _ (List.getElem_mem ht)
      have hul := (hP q (List.mem_of_getElem? hq)).2 _ (List.getElem_mem htq)
      have hcu : Cl G E q.2.2.2[t] p.2.2.2[t] := .part (hck.symm.trans hc) hq hp q1 p1 hf.1 hf.2 (List.getElem?_eq_getElem htq) (List.getElem?_eq_getElem ht)
      refine ih (ro p.2.2.2[t]) ?_ (by omega) rfl
      show ro p.2.2.2[t] ∈ chR G kn ro (ro i)
      rw [← (h.same (by omega) (by omega)).2 hcu]
      unfold chR
      refine List.mem_map_of_mem ?_
      rw [hk]
      simp [partsO, hq]
/-- With the variables' classes all are finite. -/
theorem acc_all (hnc : ¬ Clash G E) (hg : GN G) (hl : GL G) (hf : FinC G E) : ∀ i, i < G.length → Acc (Nx G E) i := by
  intro i
  induction i using Nat.strongRecOn with
  | ind i ih =>
    intro hi
    obtain ⟨p, hp⟩ : ∃ p, G[i]? = some p := ⟨_, List.getElem?_eq_getElem hi⟩
    by_cases p1 : p.1 = 1
    · exact hf p.2.1 i (gvar_node hg hp p1)
    · refine ⟨_, fun j hj => ?_⟩
      obtain ⟨z, q, hc, hq, q1, hjq⟩ := hj
      have hfit : Fit p q := Classical.byContradiction fun hf => hnc ⟨i, z, p, q, hc, hp, hq, p1, q1, hf⟩
      obtain ⟨t, ht, rfl⟩ := List.getElem_of_mem hjq
      have htp : t < p.2.2.2.length := by have := hfit.2; omega
      have hlt := hl i p hp _ (List.getElem_mem htp)
      exact acc_cl (.part hc hp hq p1 q1 hfit.1 hfit.2 (List.getElem?_eq_getElem htp) (List.getElem?_eq_getElem ht)) (ih _ hlt (by omega))
/-- With more equations there is more to come to. -/
theorem FinC.less (hG : ∀ (i : Nat) (p : Gn), G[i]? = some p → H[i]? = some p) (hE : ∀ e, e ∈ E → e ∈ F) (hv : ∀ v i, gvar G v = some i → gvar H v = some i) (h : FinC H F) : FinC G E := by
  intro v i hvi
  have ha := h v i (hv v i hvi)
  clear hvi
  induction ha with
  | intro i _ ih => exact ⟨i, fun j ⟨z, p, h1, h2, h3, h4⟩ => ih j ⟨z, p, h1.more hG hE, hG z p h2, h3, h4⟩⟩
end CyQs
end Go.Proofs.Ytojgiienohpaiaa
