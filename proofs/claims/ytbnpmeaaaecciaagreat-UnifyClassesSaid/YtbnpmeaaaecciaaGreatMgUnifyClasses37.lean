/- Texts of one proof, one behind the other. -/
import Derived.Test.YtbnpmeaaaecciaaGreatMgUnifyClasses36
import Derived.Deep.RegionHeld3
/- UnifyClasses, walked. -/
namespace Go.Proofs.YtbnpmeaaaecciaaGreat
open Go.RowKit
open Un (Else dg cnt own_else rowI rowI_get wp_world)
set_option maxRecDepth 100000
attribute [local go_sem] Oper.semAt_some
attribute [local go_sem ↓] builtin_app
/-- A closure on its way: clashed or not. -/
def USt (B : Nat) (w : World) (c : Nat) (s : Sys) (q : Nat) (st : Int) (cl : Bool) : Prop := (cl = false ∧ OkC B w c s q st) ∨ (cl = true ∧ ∃ st', CxM w c st')
theorem USt.below {B c q : Nat} {w w' : World} {s : Sys} {st : Int} {cl : Bool} (h : USt B w c s q st cl) (hb : Below w.heap.size w w') : USt B w' c s q st cl := by
  rcases h with ⟨h1, h2⟩ | ⟨h1, st', h2⟩
  · exact .inl ⟨h1, h2.below hb⟩
  · exact .inr ⟨h1, st', h2.below hb⟩
/-- What stands ahead of each round. -/
def URel (l : List Eqn) (B c : Nat) (w : World) (i : Nat) (s6 s7 s8 : Value) : Prop :=
  ∃ (cl : Bool) (st : Int), s8 = .bool cl ∧ (cl = false → s6 = .int .i64 ((1 + esz (rights (l.take i)) : Nat) : Int) ∧ s7 = .int .i64 st) ∧ USt B w c (cls (rights (l.take i))) (rights (l.take i)).length st cl
/-- What Equate gives there. -/
def EqOut (B : Nat) (w' : World) (c : Nat) (s : Sys) (q : Nat) (st : Int) (x : Eqn) (cl rt : Bool) (r : Int) : Prop :=
  (cl = true ∧ r = 7 ∧ ∃ st', CxM w' c st') ∨ (cl = false ∧ rt = false ∧ r = 1 ∧ OkC B w' c s q st) ∨
  (cl = false ∧ rt = true ∧ ∃ st' : Int, st ≤ st' ∧ 0 ≤ st' ∧ st' ≤ 10000000 ∧ st' ≤ (1 + 4 * (dg (stp s x).1.length : Int)) * ((9 * (stp s x).1.length + (q + 1) : Nat) : Int) ∧
    ((r = 7 ∧ Clash (stp s x).1 (stp s x).2 ∧ CxM w' c st') ∨ (r = 0 ∧ ¬ Clash (stp s x).1 (stp s x).2 ∧ OkC B w' c (stp s x) (q + 1) st')))
section UzXs
variable {w w' : World} {B c q : Nat} {s : Sys} {st : Int}
theorem ueq (cl rt : Bool) (h : USt B w c s q st cl) (hB : B ≤ w.heap.size) (x : Eqn) (hx : EqT B w x) (hw : TyW x.1 ∧ TyW x.2.1) (hr : rtE x = rt) (hs : s.1.length + sz1 x ≤ 8000) (hq : q ≤ 100) :
    Calls Tryz.prog 8 #[.pointer (some ⟨c, 0, none⟩), t1V x.1, t1V x.2.1] w fun e w' => ∃ r : Int, e = .returned (.int .i64 r) ∧ Below B w w' ∧ EqOut B w' c s q st x cl rt r := by
  rcases h with ⟨rfl, h⟩ | ⟨rfl, st', h⟩
  · cases rt with
    | false =>
      refine (one_wrong (h.one (by omega) hq) x (hx.keep hB fun _ _ _ => rfl) hr (by omega)).mono ?_
      rintro e w' ⟨rfl, hb⟩
      exact ⟨1, rfl, hb.mono hB, .inr (.inl ⟨rfl, rfl, rfl, h.below hb⟩)⟩
    | true =>
      have hf := h.fits (by omega) hq
      refine (ok_eq h hB x hx hw hr hs hq).mono ?_
      rintro e w' ⟨r, st', rfl, hb, h1, h2, h3⟩
      have hle : (stp s x).1.length ≤ 8000 := by
        obtain ⟨X, hX, hXl⟩ := (stp_pre s x).1
        rw [hX, List.length_append]; omega
      have hd : dg (stp s x).1.length ≤ 21 := Un.dg_le (by omega)
      have := mul22 (d := dg (stp s x).1.length) (J := ((9 * (stp s x).1.length + q + 1 : Nat) : Int)) (by omega) (by omega) (by omega) (by omega)
      exact ⟨r, rfl, hb, .inr (.inr ⟨rfl, rfl, st', h1, by omega, by omega, h2, h3⟩)⟩
  · obtain ⟨⟨k, n, u, ps⟩, ⟨k', n', u', ps'⟩, z⟩ := x
    refine (equate_cx h k n k' n' u u').mono ?_
    rintro e w2 ⟨rfl, hb⟩
    exact ⟨7, rfl, hb.mono hB, .inl ⟨rfl, rfl, st', h.below hb⟩⟩
theorem err_ok (h : OkC B w c s q st) : Calls Tryz.prog 9 #[.pointer (some ⟨c, 0, none⟩)] w fun e w' => e = .returned (.int .i64 0) ∧ w' = w := by
  obtain ⟨O, fs, m, J, hC, _⟩ := h
  exact err_cs hC
theorem steps_okc (h : OkC B w c s q st) : Calls Tryz.prog 14 #[.pointer (some ⟨c, 0, none⟩)] w fun e w' => e = .returned (.int .i64 st) ∧ w' = w := by
  obtain ⟨O, fs, m, J, ⟨⟨A, kn, nx, col, ro, hC, _⟩, _⟩, _⟩ := h
  exact steps_cl hC
end UzXs
theorem rights_two {l : List Eqn} (h : ∀ y ∈ l, rtE y = true) : 2 * l.length ≤ esz l := by
  induction l with
  | nil => simp [esz]
  | cons x l ih =>
    have := ih fun y hy => h y (List.mem_cons_of_mem _ hy)
    have e : esz (x :: l) = sz1 x + esz l := by simp [esz]
    rw [e, List.length_cons]
    unfold sz1
    omega
theorem kind_eq {G : List Gn} {E : List (Nat × Nat)} {cc : Nat → Nat} {a r r' : Int} {j : Nat} (hj : gvar G a = some j) (hn : ¬ Clash G E) (hrc : Rc G cc E) (hec : ∀ a b, (a, b) ∈ E → a < G.length ∧ b < G.length ∧ cc a = cc b) (hcl : ClosedC G cc) (h : KindIs G E a r) (h' : RKind G cc j r') : r = r' := by
  unfold KindIs at h
  rw [hj] at h
  have hjl := gvar_lt hj
  have is : ∀ k, k < G.length → (Cl G E j k ↔ cc k = cc j) := fun k hk => by
    rw [hrc.is hec hcl]
    constructor
    · rintro (rfl | ⟨_, _, e⟩)
      · rfl
      · exact e.symm
    · exact fun e => .inr ⟨hjl, hk, e.symm⟩
  rcases h with ⟨y, q, hy, hq, q1, rfl⟩ | ⟨rfl, hz⟩
  · rcases h' with ⟨k, p, hp, hc, p1, rfl⟩ | ⟨rfl, hz'⟩
    · by_cases hf : q.1 = p.1
      · exact hf
      · exact absurd ⟨y, k, q, p, hy.symm.trans ((is k (lt_of_get hp)).2 hc), hq, hp, q1, p1, fun f => hf f.1⟩ hn
    · exact absurd (hz' y q hq ((is y (lt_of_get hq)).1 hy)) q1
  · rcases h' with ⟨k, p, hp, hc, p1, rfl⟩ | ⟨rfl, hz'⟩
    · exact absurd (hz k p ((is k (lt_of_get hp)).2 hc) hp) p1
    · rfl
theorem class_of {G : List Gn} {E : List (Nat × Nat)} {cc : Nat → Nat} {a : Int} {j : Nat} (hj : gvar G a = some j) (hg : GN G) (hrc : Rc G cc E) (hec : ∀ a b, (a, b) ∈ E → a < G.length ∧ b < G.length ∧ cc a = cc b) (hcl : ClosedC G cc) : ClassIs G E a ((vsort G).filter (selC G cc j)) := by
  obtain ⟨hv1, hv2⟩ := vfold G [] List.Pairwise.nil
  have hv1 : (vsort G).Pairwise (· ≤ ·) := hv1
  have hv2 : (vsort G).Perm (names G) := by simpa [vsort] using hv2
  have hjl := gvar_lt hj
  refine ⟨(hv2.nodup_iff.2 hg.1).sublist (List.filter_sublist), hv1.sublist (List.filter_sublist), fun b => ?_⟩
  rw [List.mem_filter]
  constructor
  · rintro ⟨hb, hs⟩
    obtain ⟨k, hk, hkv, hkl⟩ := ivar_of hb
    unfold selC at hs
    rw [hkv] at hs
    have hs : cc k = cc j := by simpa using hs
    exact ⟨j, k, hj, hk, (hrc.is hec hcl).2 (.inr ⟨hjl, hkl, hs.symm⟩)⟩
  · rintro ⟨j', k, hj', hk, hc⟩
    rw [hj] at hj'
    cases hj'
    have hb : b ∈ vsort G := hv2.mem_iff.2 ((gvar_names G b).1 (by rw [hk]; rfl))
    refine ⟨hb, ?_⟩
    unfold selC
    rw [show ivar G b = (k : Nat) by rw [ivar, hk]]
    rcases (hrc.is hec hcl).1 hc with rfl | ⟨_, _, e⟩
    · simp
    · simp [e]
theorem same_eq {G : List Gn} {E : List (Nat × Nat)} {cc : Nat → Nat} {a b : Int} {j k : Nat} (hj : gvar G a = some j) (hk : gvar G b = some k) (hrc : Rc G cc E) (hec : ∀ a b, (a, b) ∈ E → a < G.length ∧ b < G.length ∧ cc a = cc b) (hcl : ClosedC G cc) {t : Bool} (h : t = true ↔ SameIs G E a b) : t = (cc j == cc k) := by
  have hjl := gvar_lt hj
  have hkl := gvar_lt hk
  rw [Bool.eq_iff_iff, h, beq_iff_eq]
  constructor
  · rintro ⟨j', k', hj', hk', hc⟩
    rw [hj] at hj'
    rw [hk] at hk'
    cases hj'
    cases hk'
    rcases (hrc.is hec hcl).1 hc with rfl | ⟨_, _, e⟩
    · rfl
    · exact e
  · exact fun e => ⟨j, k, hj, hk, (hrc.is hec hcl).2 (.inr ⟨hjl, hkl, e⟩)⟩
theorem rights_all (l : List Eqn) : ∀ y ∈ rights l, rtE y = true := fun _ hy => (List.mem_filter.1 hy).2
set_option maxHeartbeats 16000000 in
theorem uclasses_law (w : World) (l : List Eqn) (v : Value) (hl : ArgE w v l) (ask : Int) (ha : (Lit.int .i64 ask).wf = true) :
    Calls Tryz.prog 3 #[v, .int .i64 ask] w fun e w' => e = .returned (.bool true) ∧ Below w.heap.size w w' := by
  have HG1 := Lib.hid (great12_any w l v hl.1 hl.1.lenle)
  have H := Lib.hid hl
  have HAW := Lib.hid awake12
  have HA := Lib.hid ha
  obtain ⟨A, cA, rfl⟩ := hl.1.form
  clear hl ha
  go_enter Tryz.func3, Tryz.ntmps3
  go_wp2_with fail
  refine HG1.out.mono ?_
  clear HG1
  rintro e w1 ⟨g1, rfl, hg1, hb1⟩
  have HB1 := Lib.hid hb1
  cases g1 with
  | true =>
    clear hg1 hb1
    go_wp2_with fail
    refine (HAW.out w1).mono ?_
    rintro e w2 ⟨rfl, hb2⟩
    have HB2 := Lib.hid (HB1.out.trans (hb2.mono HB1.out.size))
    clear hb2
    go_wp2_with fail
    go_ret
    exact ⟨rfl, HB2.out⟩
  | false =>
    have hl1 := hg1 rfl
    have HL1 := Lib.hid hl1
    have HNW := Lib.hid (new_cs w1)
    clear hg1 hl1 hb1
    go_wp2_with fail
    refine HNW.out.mono ?_
    rintro e w2 ⟨c, rfl, hC2, hb2⟩
    have HOK : Hid (OkC w1.heap.size w2 c ([], []) 0 0 ∧ Below w1.heap.size w1 w2) := Lib.hid (by
      obtain ⟨O', a1, a2⟩ := hC2.tight
      exact ⟨⟨O', 0, 0, 0, a2, by simp, by simp, fun k hk => a1 k hk⟩, hb2⟩)
    clear hC2 hb2 HNW
    go_wp2_with fail
    go_loopw [6, 7, 8, 9, 10, 11] (fun s6 s7 s8 s9 _ _ wr => ∃ i : Nat, s9 = .int .i64 (i : Nat) ∧ i ≤ l.length ∧ URel l w1.heap.size c wr i s6 s7 s8 ∧ Below w1.heap.size w1 wr) (fun _ _ _ s _ _ _ => l.length - (intOf s).toNat)
    case atStart => exact ⟨0, rfl, Nat.zero_le _, ⟨false, 0, rfl, fun _ => ⟨rfl, rfl⟩, .inl ⟨rfl, HOK.out.1⟩⟩, HOK.out.2⟩
    case round =>
      obtain ⟨i, rfl, hi, ⟨cl, st, rfl, hs67, hU⟩, hb⟩ := hrel
      have HT := Lib.hid (And.intro hU (And.intro hb hs67))
      clear hU hb hs67 HOK
      by_cases hil : i < l.length
      · have f1 : decide ((i : Int) < (l.length : Int)) = true := decide_eq_true (by omega)
        have hi20 : i < 20 := by have := HL1.out.1; omega
        have hbw : Below w.heap.size w wr := HB1.out.trans (HT.out.2.1.mono HB1.out.size)
        obtain ⟨b, off, rfl, hat, hty⟩ := H.out.1.here hbw i hil
        have hsz := size_of_esz (List.getElem_mem hil)
        have hxw := H.out.2 _ (List.getElem_mem hil)
        have htyB := (H.out.1.ty i hil).keep (B' := w1.heap.size) (w' := wr) HB1.out.size fun b off hlt => hbw.cell (p := ⟨b, off, none⟩) hlt
        obtain ⟨x, hx⟩ : ∃ x, l[i] = x := ⟨_, rfl⟩
        rw [hx] at hat hty hsz hxw htyB
        obtain ⟨⟨k0, n0, ⟨u1, u2, u3⟩, F⟩, ⟨k1, n1, ⟨v1, v2, v3⟩, F'⟩, a0, a1⟩ := x
        obtain ⟨rt, hrt⟩ : ∃ rt, rtE ((k0, n0, (u1, u2, u3), F), (k1, n1, (v1, v2, v3), F'), a0, a1) = rt := ⟨_, rfl⟩
        have HX := Lib.hid (And.intro hx (And.intro hsz (And.intro hxw (And.intro htyB (And.intro hrt (And.intro hty hbw))))))
        have EXC : Hid (∀ W, Below w1.heap.size w1 W → W.cell? ⟨b, off + i * 8, none⟩ = some (.int .i64 k0) ∧ W.cell? ⟨b, off + i * 8 + 1, none⟩ = some (.int .i64 n0) ∧ W.cell? ⟨b, off + i * 8 + 2, none⟩ = some (.slice u1 u2 u3) ∧ W.cell? ⟨b, off + i * 8 + 3, none⟩ = some (.int .i64 k1) ∧ W.cell? ⟨b, off + i * 8 + 3 + 1, none⟩ = some (.int .i64 n1) ∧ W.cell? ⟨b, off + i * 8 + 3 + 2, none⟩ = some (.slice v1 v2 v3)) := Lib.hid fun W hW => by
          obtain ⟨_, _, e1, hat2, _⟩ := H.out.1.here (HB1.out.trans (hW.mono HB1.out.size)) i hil
          cases e1
          rw [hx] at hat2
          obtain ⟨y0, y1, y2, y3, y4, y5, _, _⟩ := hat2
          exact ⟨y0, y1, y2, y3, y4, y5⟩
        clear hx hsz hxw htyB hrt hty hat hbw
        go_upto_region 8 with fail
        go_cut [10] from 30 to 43 (fun s10 wx => s10 = .bool rt ∧ Below wr.heap.size wr wx)
        case first =>
          obtain ⟨x0, x1, x2, x3, x4, x5⟩ := EXC.out wr HT.out.2.1
          have hR := rright_any (F.size + 1) F k0 n0 (slv (u1, u2, u3)) wr (by omega) (by have h9 : F.size ≤ esz l := HX.out.2.1.1; have := HL1.out.2; omega) HX.out.2.2.2.2.2.1.1
          obtain ⟨r1, hr1⟩ : ∃ z, (alone k0 n0 F.len && allAlone F.pre) = z := ⟨_, rfl⟩
          rw [hr1] at hR
          have HR := Lib.hid hR
          have HR1 := Lib.hid hr1
          dsimp only [slv, tyVal] at HR
          clear hR hr1 x3 x4 x5
          go_wp2_with fail
          refine HR.out.mono ?_
          rintro e w3 ⟨rfl, hb3⟩
          have HB3 := Lib.hid hb3
          clear HR x0 x1 x2
          cases r1 with
          | false =>
            have hq : rt = false := by rw [← HX.out.2.2.2.2.1]; show (rt1 _ && rt1 _) = false; rw [show rt1 (k0, n0, (u1, u2, u3), F) = false from HR1.out]; rfl
            subst hq
            clear hb3
            go_wp2_with fail
            go_meet
            exact ⟨rfl, HB3.out⟩
          | true =>
            obtain ⟨x0, x1, x2, x3, x4, x5⟩ := EXC.out w3 (HT.out.2.1.trans (hb3.mono HT.out.2.1.size))
            have hR := rright_any (F'.size + 1) F' k1 n1 (slv (v1, v2, v3)) w3 (by omega) (by have h9 : F'.size ≤ esz l := HX.out.2.1.2; have := HL1.out.2; omega) (HX.out.2.2.2.2.2.1.2.keep hb3.size fun b off hlt => hb3.cell (p := ⟨b, off, none⟩) hlt)
            obtain ⟨r2, hr2⟩ : ∃ z, (alone k1 n1 F'.len && allAlone F'.pre) = z := ⟨_, rfl⟩
            rw [hr2] at hR
            have HR := Lib.hid hR
            have hq : rt = r2 := by rw [← HX.out.2.2.2.2.1]; show (rt1 _ && rt1 _) = r2; rw [show rt1 (k0, n0, (u1, u2, u3), F) = true from HR1.out, show rt1 (k1, n1, (v1, v2, v3), F') = r2 from hr2]; rfl
            subst hq
            dsimp only [slv, tyVal] at HR
            clear hR hr2 hb3 x0 x1 x2
            go_wp2_with fail
            refine HR.out.mono ?_
            rintro e w4 ⟨rfl, hb4⟩
            have HB4 := Lib.hid (HB3.out.trans (hb4.mono HB3.out.size))
            clear HR x3 x4 x5 hb4
            go_wp2_with fail
            go_meet
            exact ⟨rfl, HB4.out⟩
        case rest =>
          obtain ⟨rfl, hbc⟩ := hcut
          have HBC := Lib.hid hbc
          have HBC1 := Lib.hid (HT.out.2.1.trans (hbc.mono HT.out.2.1.size))
          have hln : (cls (rights (l.take i))).1.length + sz1 ((k0, n0, (u1, u2, u3), F), (k1, n1, (v1, v2, v3), F'), a0, a1) ≤ 8000 := by
            have h1 := cls_len (rights (l.take i))
            have h2 := esz_rights (l.take i)
            have h3 := esz_take l i
            have h4 := HL1.out.2
            obtain ⟨h5, h6⟩ := HX.out.2.1
            dsimp only at h5 h6
            unfold sz1
            dsimp only
            omega
          have hql : (rights (l.take i)).length ≤ 100 := by
            have h1 := rights_len (l.take i)
            rw [List.length_take] at h1
            have := HL1.out.1
            omega
          have HEQ := Lib.hid (ueq cl rt ((HT.out.1.below hbc).below (Below.refl wc.heap.size wc).drew) (show w1.heap.size ≤ wc.drew.heap.size from Nat.le_trans HT.out.2.1.size hbc.size) ((k0, n0, (u1, u2, u3), F), (k1, n1, (v1, v2, v3), F'), a0, a1) (HX.out.2.2.2.1.keep (Nat.le_refl _) fun b off hlt => (hbc.cell (p := ⟨b, off, none⟩) (Nat.lt_of_lt_of_le hlt HT.out.2.1.size))) HX.out.2.2.1 HX.out.2.2.2.2.1 hln hql)
          dsimp only [t1V, tyVal, slv] at HEQ
          have HLN := Lib.hid (And.intro hln hql)
          clear hbc hln hql
          go_wp2_with fail
          have hS : Below w1.heap.size w1 wc.drew := HBC1.out.drew
          refine wp_region_held (S := (fun W => Below w1.heap.size w1 W)) (by kernel_rfl) ?_
          change wpAnyH _ _ _ _ _ 13 (List.replicate 13 false).toArray _ wc.drew
          simp only [List.replicate_succ, List.replicate_zero]
          refine any_take (i := 0) (some 44) (.pointer (some ⟨c, 0, none⟩)) rfl (by rfl) (by kernel_rfl) (by kernel_rfl) (by kernel_rfl) (fun _ _ _ h => h) (Or.inl ⟨by kernel_rfl, (fun W hw => by clear hw; go_simp)⟩) hS ?_
          simp only [Act.put, List.setIfInBounds_toArray, List.set_cons_zero, List.set_cons_succ]
          refine any_take (i := 1) (some 45) (.slice (some ⟨b, off, none⟩) l.length cA) rfl (by rfl) (by kernel_rfl) (by kernel_rfl) (by kernel_rfl) (fun _ _ _ h => h) (Or.inl ⟨by kernel_rfl, (fun W hw => by clear hw; go_simp)⟩) hS ?_
          simp only [Act.put, List.setIfInBounds_toArray, List.set_cons_zero, List.set_cons_succ]
          refine any_take (i := 2) (some 46) (.int .i64 (i : Nat)) rfl (by rfl) (by kernel_rfl) (by kernel_rfl) (by kernel_rfl) (fun _ _ _ h => h) (Or.inl ⟨by kernel_rfl, (fun W hw => by clear hw; go_simp)⟩) hS ?_
          simp only [Act.put, List.setIfInBounds_toArray, List.set_cons_zero, List.set_cons_succ]
          refine any_take (i := 3) (some 47) (.pointer (some ⟨b, off + i * 8, none⟩)) rfl (by rfl) (by kernel_rfl) (by kernel_rfl) (by kernel_rfl) (fun _ _ _ h => h) (Or.inl ⟨by kernel_rfl, (fun W hw => by clear hw; go_simp)⟩) hS ?_
          simp only [Act.put, List.setIfInBounds_toArray, List.set_cons_zero, List.set_cons_succ]
          refine any_take (i := 4) (some 48) (.pointer (some ⟨b, off + i * 8, none⟩)) rfl (by rfl) (by kernel_rfl) (by kernel_rfl) (by kernel_rfl) (fun _ _ _ h => h) (Or.inl ⟨by kernel_rfl, (fun W hw => by clear hw; go_simp)⟩) hS ?_
          simp only [Act.put, List.setIfInBounds_toArray, List.set_cons_zero, List.set_cons_succ]
          refine any_take (i := 5) (some 49) (.agg #[.int .i64 k0, .int .i64 n0, .slice u1 u2 u3]) rfl (by rfl) (by kernel_rfl) (by kernel_rfl) (by kernel_rfl) (fun _ _ _ h => h) (Or.inl ⟨by kernel_rfl, (fun W hw => by obtain ⟨x0, x1, x2, x3, x4, x5⟩ := EXC.out W hw; clear hw; go_simp)⟩) hS ?_
          simp only [Act.put, List.setIfInBounds_toArray, List.set_cons_zero, List.set_cons_succ]
          refine any_take (i := 6) (some 50) (.slice (some ⟨b, off, none⟩) l.length cA) rfl (by rfl) (by kernel_rfl) (by kernel_rfl) (by kernel_rfl) (fun _ _ _ h => h) (Or.inl ⟨by kernel_rfl, (fun W hw => by clear hw; go_simp)⟩) hS ?_
          simp only [Act.put, List.setIfInBounds_toArray, List.set_cons_zero, List.set_cons_succ]
          refine any_take (i := 7) (some 51) (.int .i64 (i : Nat)) rfl (by rfl) (by kernel_rfl) (by kernel_rfl) (by kernel_rfl) (fun _ _ _ h => h) (Or.inl ⟨by kernel_rfl, (fun W hw => by clear hw; go_simp)⟩) hS ?_
          simp only [Act.put, List.setIfInBounds_toArray, List.set_cons_zero, List.set_cons_succ]
          refine any_take (i := 8) (some 52) (.pointer (some ⟨b, off + i * 8, none⟩)) rfl (by rfl) (by kernel_rfl) (by kernel_rfl) (by kernel_rfl) (fun _ _ _ h => h) (Or.inl ⟨by kernel_rfl, (fun W hw => by clear hw; go_simp)⟩) hS ?_
          simp only [Act.put, List.setIfInBounds_toArray, List.set_cons_zero, List.set_cons_succ]
          refine any_take (i := 9) (some 53) (.pointer (some ⟨b, off + i * 8 + 3, none⟩)) rfl (by rfl) (by kernel_rfl) (by kernel_rfl) (by kernel_rfl) (fun _ _ _ h => h) (Or.inl ⟨by kernel_rfl, (fun W hw => by clear hw; go_simp)⟩) hS ?_
          simp only [Act.put, List.setIfInBounds_toArray, List.set_cons_zero, List.set_cons_succ]
          refine any_take (i := 10) (some 54) (.agg #[.int .i64 k1, .int .i64 n1, .slice v1 v2 v3]) rfl (by rfl) (by kernel_rfl) (by kernel_rfl) (by kernel_rfl) (fun _ _ _ h => h) (Or.inl ⟨by kernel_rfl, (fun W hw => by obtain ⟨x0, x1, x2, x3, x4, x5⟩ := EXC.out W hw; clear hw; go_simp)⟩) hS ?_
          simp only [Act.put, List.setIfInBounds_toArray, List.set_cons_zero, List.set_cons_succ]
          refine wpAnyH_all (rs := [11]) (by kernel_rfl) (by simp) fun q' hq' => ?_
          obtain rfl : q' = 11 := by simpa using hq'
          refine ops_call (d := some 55) rfl (by rfl) (by kernel_rfl) (by go_simp) (HEQ.out.mono ?_)
          rintro e w5 ⟨r, rfl, hb5, hO⟩
          have hS5 : Below w1.heap.size w1 w5 := hS.trans hb5
          refine ⟨_, rfl, hS5, ?_⟩
          simp only [Act.put, List.setIfInBounds_toArray, List.set_cons_zero, List.set_cons_succ]
          refine any_take (i := 12) (some 11) (.int .i64 r) rfl (by rfl) (by kernel_rfl) (by kernel_rfl) (by kernel_rfl) (fun _ _ _ h => h) (Or.inl ⟨by kernel_rfl, (fun W hw => by clear hw; go_simp)⟩) hS5 ?_
          simp only [Act.put, List.setIfInBounds_toArray, List.set_cons_zero, List.set_cons_succ]
          refine wpAnyH_done (by kernel_rfl) ?_ _
          have HS5 := Lib.hid hS5
          have HIL := Lib.hid hil
          have hst := rights_step l i hil
          rw [HX.out.1, HX.out.2.2.2.2.1] at hst
          have HST := Lib.hid hst
          clear hS hb5 HEQ hst hS5
          rcases hO with ⟨rfl, rfl, st', hx⟩ | ⟨rfl, rfl, rfl, hO⟩ | ⟨rfl, rfl, st', t1, t2, t3, t4, hO⟩
          · have HX5 := Lib.hid hx
            clear hx
            go_wp2_with fail
            refine (err_cx HX5.out).mono ?_
            rintro e w6 ⟨rfl, rfl⟩
            go_wp2_with fail
            go_roundw
            case rel => exact ⟨i + 1, by go_num, HIL.out, ⟨true, st, rfl, (fun h => by cases h), .inr ⟨rfl, st', HX5.out⟩⟩, HS5.out⟩
            case measure => have := HIL.out; simp [intOf]; omega
          · have HX5 := Lib.hid hO
            obtain ⟨h6, h7⟩ := HT.out.2.2 rfl
            subst h6 h7
            clear hO
            go_wp2_with fail
            refine (err_ok HX5.out).mono ?_
            rintro e w6 ⟨rfl, rfl⟩
            go_wp2_with fail
            go_roundw
            case rel =>
              have e9 : rights (l.take (i + 1)) = rights (l.take i) := by rw [HST.out]; simp
              exact ⟨i + 1, by go_num, HIL.out, ⟨false, st, rfl, fun _ => ⟨by rw [e9]; simp, rfl⟩, .inl ⟨rfl, by rw [e9]; exact HX5.out⟩⟩, HS5.out⟩
            case measure => have := HIL.out; simp [intOf]; omega
          · have HX5 := Lib.hid hO
            have HT5 := Lib.hid (And.intro t1 (And.intro t2 (And.intro t3 t4)))
            obtain ⟨h6, h7⟩ := HT.out.2.2 rfl
            subst h6 h7
            clear hO t1 t2 t3 t4
            obtain ⟨s0, hs0⟩ : ∃ z, 1 + esz (rights (l.take i)) = z := ⟨_, rfl⟩
            obtain ⟨z1, hz1⟩ : ∃ z, 1 + F.size = z := ⟨_, rfl⟩
            obtain ⟨z2, hz2⟩ : ∃ z, 1 + F'.size = z := ⟨_, rfl⟩
            have hb0 : s0 ≤ 161 ∧ z1 ≤ 161 ∧ z2 ≤ 161 := by
              have h2 := esz_rights (l.take i)
              have h3 := esz_take l i
              have h4 := HL1.out.2
              have h5 : F.size ≤ esz l := HX.out.2.1.1
              have h6 : F'.size ≤ esz l := HX.out.2.1.2
              omega
            have hsx : 1 + esz (rights (l.take (i + 1))) = s0 + z1 + z2 := by
              rw [HST.out, if_pos rfl]
              simp only [esz, List.map_append, List.sum_append, List.map_cons, List.map_nil, List.sum_cons, List.sum_nil]
              have : esz (rights (l.take i)) = ((rights (l.take i)).map sz1).sum := rfl
              unfold sz1
              dsimp only
              unfold esz at hs0
              unfold sz1 at hs0
              omega
            rw [hs0]
            have i1 : IntKind.i64.wrap ((s0 : Int) + (z1 : Int)) = ((s0 + z1 : Nat) : Int) := by rw [IntWalk.i64_in _ (by omega)]; push_cast; rfl
            have i2 : IntKind.i64.wrap (((s0 + z1 : Nat) : Int) + (z2 : Int)) = ((s0 + z1 + z2 : Nat) : Int) := by rw [IntWalk.i64_in _ (by omega)]; push_cast; rfl
            obtain ⟨y1, hy1⟩ : ∃ z, s0 + z1 = z := ⟨_, rfl⟩
            obtain ⟨y2, hy2⟩ : ∃ z, y1 + z2 = z := ⟨_, rfl⟩
            rw [hy1] at i1 i2
            rw [hy2] at i2
            have HSZ : Hid (∀ W, Below w1.heap.size w1 W → Calls Tryz.prog 10 #[.agg #[.int .i64 k0, .int .i64 n0, .slice u1 u2 u3]] W fun e w' => e = .returned (.int .i64 (z1 : Nat)) ∧ Below W.heap.size W w') := Lib.hid fun W hW => by
              have h := rsize_any (F.size + 1) F k0 n0 (slv (u1, u2, u3)) W (by omega) (by omega) (HX.out.2.2.2.1.1.keep hW.size fun b off hlt => (hW.cell (p := ⟨b, off, none⟩) hlt).trans (HT.out.2.1.cell (p := ⟨b, off, none⟩) hlt).symm)
              rw [show (1 + (F.size : Int)) = (z1 : Nat) by omega] at h
              exact h
            have HSZ2 : Hid (∀ W, Below w1.heap.size w1 W → Calls Tryz.prog 10 #[.agg #[.int .i64 k1, .int .i64 n1, .slice v1 v2 v3]] W fun e w' => e = .returned (.int .i64 (z2 : Nat)) ∧ Below W.heap.size W w') := Lib.hid fun W hW => by
              have h := rsize_any (F'.size + 1) F' k1 n1 (slv (v1, v2, v3)) W (by omega) (by omega) (HX.out.2.2.2.1.2.keep hW.size fun b off hlt => (hW.cell (p := ⟨b, off, none⟩) hlt).trans (HT.out.2.1.cell (p := ⟨b, off, none⟩) hlt).symm)
              rw [show (1 + (F'.size : Int)) = (z2 : Nat) by omega] at h
              exact h
            have HZ := Lib.hid (And.intro hs0 (And.intro hb0 (And.intro hsx (And.intro hy1 hy2))))
            clear hs0 hz1 hz2 hb0 hsx hy1 hy2
            go_wp2_with fail
            have hS : Below w1.heap.size w1 w5.drew := HS5.out.drew
            refine wp_region_held (S := (fun W => Below w1.heap.size w1 W)) (by kernel_rfl) ?_
            change wpAnyH _ _ _ _ _ 16 (List.replicate 16 false).toArray _ w5.drew
            simp only [List.replicate_succ, List.replicate_zero]
            refine any_take (i := 0) (some 73) (.int .i64 (s0 : Nat)) rfl (by rfl) (by kernel_rfl) (by kernel_rfl) (by kernel_rfl) (fun _ _ _ h => h) (Or.inl ⟨by kernel_rfl, (fun W hw => by clear hw; go_simp)⟩) hS ?_
            simp only [Act.put, List.setIfInBounds_toArray, List.set_cons_zero, List.set_cons_succ]
            refine any_take (i := 1) (some 74) (.slice (some ⟨b, off, none⟩) l.length cA) rfl (by rfl) (by kernel_rfl) (by kernel_rfl) (by kernel_rfl) (fun _ _ _ h => h) (Or.inl ⟨by kernel_rfl, (fun W hw => by clear hw; go_simp)⟩) hS ?_
            simp only [Act.put, List.setIfInBounds_toArray, List.set_cons_zero, List.set_cons_succ]
            refine any_take (i := 2) (some 75) (.int .i64 (i : Nat)) rfl (by rfl) (by kernel_rfl) (by kernel_rfl) (by kernel_rfl) (fun _ _ _ h => h) (Or.inl ⟨by kernel_rfl, (fun W hw => by clear hw; go_simp)⟩) hS ?_
            simp only [Act.put, List.setIfInBounds_toArray, List.set_cons_zero, List.set_cons_succ]
            refine any_take (i := 3) (some 76) (.pointer (some ⟨b, off + i * 8, none⟩)) rfl (by rfl) (by kernel_rfl) (by kernel_rfl) (by kernel_rfl) (fun _ _ _ h => h) (Or.inl ⟨by kernel_rfl, (fun W hw => by clear hw; go_simp)⟩) hS ?_
            simp only [Act.put, List.setIfInBounds_toArray, List.set_cons_zero, List.set_cons_succ]
            refine any_take (i := 4) (some 77) (.pointer (some ⟨b, off + i * 8, none⟩)) rfl (by rfl) (by kernel_rfl) (by kernel_rfl) (by kernel_rfl) (fun _ _ _ h => h) (Or.inl ⟨by kernel_rfl, (fun W hw => by clear hw; go_simp)⟩) hS ?_
            simp only [Act.put, List.setIfInBounds_toArray, List.set_cons_zero, List.set_cons_succ]
            refine any_take (i := 5) (some 78) (.agg #[.int .i64 k0, .int .i64 n0, .slice u1 u2 u3]) rfl (by rfl) (by kernel_rfl) (by kernel_rfl) (by kernel_rfl) (fun _ _ _ h => h) (Or.inl ⟨by kernel_rfl, (fun W hw => by obtain ⟨x0, x1, x2, x3, x4, x5⟩ := EXC.out W hw; clear hw; go_simp)⟩) hS ?_
            simp only [Act.put, List.setIfInBounds_toArray, List.set_cons_zero, List.set_cons_succ]
            refine any_take (i := 8) (some 81) (.slice (some ⟨b, off, none⟩) l.length cA) rfl (by rfl) (by kernel_rfl) (by kernel_rfl) (by kernel_rfl) (fun _ _ _ h => h) (Or.inl ⟨by kernel_rfl, (fun W hw => by clear hw; go_simp)⟩) hS ?_
            simp only [Act.put, List.setIfInBounds_toArray, List.set_cons_zero, List.set_cons_succ]
            refine any_take (i := 9) (some 82) (.int .i64 (i : Nat)) rfl (by rfl) (by kernel_rfl) (by kernel_rfl) (by kernel_rfl) (fun _ _ _ h => h) (Or.inl ⟨by kernel_rfl, (fun W hw => by clear hw; go_simp)⟩) hS ?_
            simp only [Act.put, List.setIfInBounds_toArray, List.set_cons_zero, List.set_cons_succ]
            refine any_take (i := 10) (some 83) (.pointer (some ⟨b, off + i * 8, none⟩)) rfl (by rfl) (by kernel_rfl) (by kernel_rfl) (by kernel_rfl) (fun _ _ _ h => h) (Or.inl ⟨by kernel_rfl, (fun W hw => by clear hw; go_simp)⟩) hS ?_
            simp only [Act.put, List.setIfInBounds_toArray, List.set_cons_zero, List.set_cons_succ]
            refine any_take (i := 11) (some 84) (.pointer (some ⟨b, off + i * 8 + 3, none⟩)) rfl (by rfl) (by kernel_rfl) (by kernel_rfl) (by kernel_rfl) (fun _ _ _ h => h) (Or.inl ⟨by kernel_rfl, (fun W hw => by clear hw; go_simp)⟩) hS ?_
            simp only [Act.put, List.setIfInBounds_toArray, List.set_cons_zero, List.set_cons_succ]
            refine any_take (i := 12) (some 85) (.agg #[.int .i64 k1, .int .i64 n1, .slice v1 v2 v3]) rfl (by rfl) (by kernel_rfl) (by kernel_rfl) (by kernel_rfl) (fun _ _ _ h => h) (Or.inl ⟨by kernel_rfl, (fun W hw => by obtain ⟨x0, x1, x2, x3, x4, x5⟩ := EXC.out W hw; clear hw; go_simp)⟩) hS ?_
            simp only [Act.put, List.setIfInBounds_toArray, List.set_cons_zero, List.set_cons_succ]
            refine wpAnyH_all (rs := [6]) (by kernel_rfl) (by simp) fun q' hq' => ?_
            obtain rfl : q' = 6 := by simpa using hq'
            refine ops_call (d := some 79) rfl (by rfl) (by kernel_rfl) (by go_simp) ((HSZ.out _ hS).mono ?_)
            rintro e w6 ⟨rfl, hb6⟩
            have hS6 : Below w1.heap.size w1 w6 := hS.trans (hb6.mono hS.size)
            refine ⟨_, rfl, hS6, ?_⟩
            simp only [Act.put, List.setIfInBounds_toArray, List.set_cons_zero, List.set_cons_succ]
            refine any_take (i := 7) (some 80) (.int .i64 (y1 : Nat)) rfl (by rfl) (by kernel_rfl) (by kernel_rfl) (by kernel_rfl) (fun _ _ _ h => h) (Or.inl ⟨by kernel_rfl, (fun W hw => by clear hw; go_simp)⟩) hS6 ?_
            simp only [Act.put, List.setIfInBounds_toArray, List.set_cons_zero, List.set_cons_succ]
            refine wpAnyH_all (rs := [13]) (by kernel_rfl) (by simp) fun q' hq' => ?_
            obtain rfl : q' = 13 := by simpa using hq'
            refine ops_call (d := some 86) rfl (by rfl) (by kernel_rfl) (by go_simp) ((HSZ2.out _ hS6).mono ?_)
            rintro e w7 ⟨rfl, hb7⟩
            have hS7 : Below w1.heap.size w1 w7 := hS6.trans (hb7.mono hS6.size)
            refine ⟨_, rfl, hS7, ?_⟩
            simp only [Act.put, List.setIfInBounds_toArray, List.set_cons_zero, List.set_cons_succ]
            refine any_take (i := 14) (some 87) (.int .i64 (y2 : Nat)) rfl (by rfl) (by kernel_rfl) (by kernel_rfl) (by kernel_rfl) (fun _ _ _ h => h) (Or.inl ⟨by kernel_rfl, (fun W hw => by clear hw; go_simp)⟩) hS7 ?_
            simp only [Act.put, List.setIfInBounds_toArray, List.set_cons_zero, List.set_cons_succ]
            refine any_take (i := 15) (some 6) (.int .i64 (y2 : Nat)) rfl (by rfl) (by kernel_rfl) (by kernel_rfl) (by kernel_rfl) (fun _ _ _ h => h) (Or.inl ⟨by kernel_rfl, (fun W hw => by clear hw; go_simp)⟩) hS7 ?_
            simp only [Act.put, List.setIfInBounds_toArray, List.set_cons_zero, List.set_cons_succ]
            refine wpAnyH_done (by kernel_rfl) ?_ _
            have HX7 : Hid (Below w5.heap.size w5 w7) := Lib.hid (((Below.refl _ w5).drew.trans hb6).trans (hb7.mono hb6.size))
            have HS7 := Lib.hid hS7
            clear hS hS6 hS7 hb6 hb7 i1 i2 HSZ HSZ2
            obtain ⟨hcap, hcm⟩ := H.out.1.capt (by omega)
            obtain ⟨L, hL⟩ : ∃ L, rights (l.take (i + 1)) = L := ⟨_, rfl⟩
            have hLl : L.length ≤ 20 := by
              have h1 := rights_len (l.take (i + 1))
              rw [List.length_take] at h1
              have := HL1.out.1
              rw [hL] at h1
              omega
            have hLe : esz L ≤ 160 := by
              have h2 := esz_rights (l.take (i + 1))
              have h3 := esz_take l (i + 1)
              have h4 := HL1.out.2
              rw [hL] at h2
              omega
            have hLr : ∀ y ∈ L, rtE y = true := hL ▸ rights_all _
            have hLs : cls L = stp (cls (rights (l.take i))) ((k0, n0, (u1, u2, u3), F), (k1, n1, (v1, v2, v3), F'), a0, a1) := by
              rw [← hL, HST.out, if_pos trivial, cls_app]
              rfl
            have hLq : L.length = (rights (l.take i)).length + 1 := by rw [← hL, HST.out, if_pos trivial]; simp
            have hLy : 1 + esz L = y2 := by
              obtain ⟨_, _, h3, h4, h5⟩ := HZ.out
              rw [hL] at h3
              omega
            have HRI := Lib.hid (rights12_any w7 (l.take (i + 1)) (.slice (some ⟨b, off, none⟩) (i + 1) cA) ((H.out.1.later (HB1.out.trans (HS7.out.mono HB1.out.size))).upto (i + 1) (by omega)) (by rw [List.length_take]; have := HL1.out.1; omega) (by have h3 := esz_take l (i + 1); have h4 := HL1.out.2; omega))
            rw [hL] at HRI
            have HL := Lib.hid (And.intro hL (And.intro hLl (And.intro hLe (And.intro hLr (And.intro hLs (And.intro hLq hLy))))))
            have i3 : (i : Int) + 1 ≤ (cA : Int) := by omega
            clear hL hLl hLe hLr hLs hLq hLy
            go_wp2_with fail
            refine HRI.out.mono ?_
            rintro e w8 ⟨v8, rfl, hv8, hb8⟩
            obtain ⟨A8, c8, rfl⟩ := hv8.form
            have HCL := Lib.hid (close_any w8 L _ hv8 HL.out.2.2.2.1 HL.out.2.1 HL.out.2.2.1)
            have HB8 := Lib.hid hb8
            clear HRI hv8 hb8 hcap hcm i3
            go_wp2_with fail
            refine HCL.out.mono ?_
            rintro e w9 ⟨vm, vs, M, cc, rfl, hR9, hs9, hrc, hec, hcl, hb9⟩
            have h0 : 0 < (cls L).1.length := by
              have h9 := cls_len2 L
              have h8 := HL.out.2.2.2.2.2.1
              obtain ⟨⟨a, b⟩, hab⟩ := List.exists_mem_of_length_pos (show 0 < (cls L).2.length by omega)
              have := (hec a b hab).1
              omega
            have h1 : (cls L).1.length ≤ 1000000 := by have := cls_len L; have := HL.out.2.2.1; omega
            have HCS := Lib.hid (clash_rc _ _ w8.heap.size w9 vm vs M _ _ cc hR9 hs9 h1 h0 hrc hec hcl)
            have HB9 := Lib.hid (HB8.out.trans (hb9.mono HB8.out.size))
            clear HCL hR9 hs9 hrc hec hcl hb9 h0 h1
            go_wp2_with fail
            refine HCS.out.mono ?_
            rintro e w10 ⟨bb, rfl, hbb, hb10⟩
            have hb7 : Below w7.heap.size w7 w10 := HB9.out.trans (hb10.mono HB9.out.size)
            have HS10 := Lib.hid (HS7.out.trans (hb7.mono HS7.out.size))
            have HS5X := Lib.hid (HX7.out.trans (hb7.mono HX7.out.size))
            have hn1 := cls_len L
            have hst1 := steps_ok (n := (cls L).1.length) (q := L.length) (e := esz L) (st := st') (by rw [HL.out.2.2.2.2.2.1, HL.out.2.2.2.2.1]; exact HT5.out.2.2.2) hn1 (rights_two HL.out.2.2.2.1)
            rw [HL.out.2.2.2.2.2.2] at hst1
            have hy2b : y2 ≤ 1000 := by have := HZ.out.2.1; have := HZ.out.2.2.2; omega
            have hD : dgt y2 ≤ 21 := by unfold dgt; split; omega; exact Un.dg_le (by omega)
            have HDG := Lib.hid fun W => digits12_any W y2 (by omega)
            obtain ⟨D, hDD⟩ : ∃ D, dgt y2 = D := ⟨_, rfl⟩
            rw [hDD] at hst1 hD HDG
            have hP1 : 0 ≤ 40 * (y2 : Int) * ((D : Int) + 2) := Int.le_trans HT5.out.2.1 hst1
            have hP2 : 40 * (y2 : Int) * ((D : Int) + 2) ≤ 10000000 := by
              have := Int.mul_le_mul (show 40 * (y2 : Int) ≤ 40000 by omega) (show ((D : Int) + 2) ≤ 23 by omega) (by omega) (by omega)
              omega
            have m3 : wrap64 (40 * (y2 : Int) * ((D : Int) + 2)) = 40 * (y2 : Int) * ((D : Int) + 2) := IntWalk.wrap64_in _ (by omega)
            have m4 : IntKind.i64.wrap (40 * (y2 : Int) * ((D : Int) + 2)) = 40 * (y2 : Int) * ((D : Int) + 2) := IntWalk.i64_in _ (by omega)
            have f2 : decide (st' < st) = false := decide_eq_false (by have := HT5.out.1; omega)
            have f3 : decide (40 * (y2 : Int) * ((D : Int) + 2) < st') = false := decide_eq_false (by omega)
            clear HCS hn1 hst1 hb7 hb10 hDD
            rcases HX5.out with ⟨rfl, hc, hx⟩ | ⟨rfl, hc, hx⟩
            · obtain rfl : bb = true := hbb.2 (by rw [HL.out.2.2.2.2.1]; exact hc)
              have HC := Lib.hid (hx.below HS5X.out)
              have HSP := Lib.hid (steps_cx HC.out)
              clear hc hx hbb
              go_wp2_with fail
              refine HSP.out.mono ?_
              rintro e w11 ⟨rfl, rfl⟩
              go_wp2_with fail
              refine HSP.out.mono ?_
              rintro e w12 ⟨rfl, rfl⟩
              go_wp2_with fail
              refine (HDG.out _).mono ?_
              rintro e w13 ⟨rfl, rfl⟩
              go_wp2_with fail
              refine HSP.out.mono ?_
              rintro e w14 ⟨rfl, rfl⟩
              go_wp2_with fail
              go_roundw
              case rel => exact ⟨i + 1, by go_num, HIL.out, ⟨true, st', rfl, (fun h => by cases h), .inr ⟨rfl, st', HC.out⟩⟩, HS10.out⟩
              case measure => have := HIL.out; simp [intOf]; omega
            · obtain rfl : bb = false := by
                cases bb with
                | false => rfl
                | true => exact absurd (hbb.1 rfl) (by rw [HL.out.2.2.2.2.1]; exact hc)
              have HC := Lib.hid (hx.below HS5X.out)
              have HSP := Lib.hid (steps_okc HC.out)
              clear hc hx hbb
              go_wp2_with fail
              refine HSP.out.mono ?_
              rintro e w11 ⟨rfl, rfl⟩
              go_wp2_with fail
              refine HSP.out.mono ?_
              rintro e w12 ⟨rfl, rfl⟩
              go_wp2_with fail
              refine (HDG.out _).mono ?_
              rintro e w13 ⟨rfl, rfl⟩
              go_wp2_with fail
              refine HSP.out.mono ?_
              rintro e w14 ⟨rfl, rfl⟩
              go_wp2_with fail
              go_roundw
              case rel =>
                have e1 := HL.out.2.2.2.2.2.2
                have e2 := HL.out.1
                refine ⟨i + 1, by go_num, HIL.out, ⟨false, st', rfl, fun _ => ⟨by rw [e2, e1], rfl⟩, .inl ⟨rfl, ?_⟩⟩, HS10.out⟩
                rw [e2, HL.out.2.2.2.2.1, HL.out.2.2.2.2.2.1]
                exact HC.out
              case measure => have := HIL.out; simp [intOf]; omega
      · have f1 : decide ((i : Int) < (l.length : Int)) = false := decide_eq_false (by omega)
        have hie : i = l.length := by omega
        obtain ⟨hU, hb, hs67⟩ := HT.out
        rw [hie, List.take_length] at hU hs67
        have HBR := Lib.hid (And.intro hb (HB1.out.trans (hb.mono HB1.out.size)))
        subst hie
        rcases hU with ⟨rfl, hO⟩ | ⟨rfl, st', hx⟩
        · obtain ⟨h6, h7⟩ := hs67 rfl
          subst h6 h7
          obtain ⟨Oc, fs, m, J, hC, ⟨g1, g2, g3, g4⟩, hJ, hOb⟩ := id hO
          obtain ⟨L, hL⟩ : ∃ L, rights l = L := ⟨_, rfl⟩
          have hLl : L.length ≤ 20 := by have h1 := rights_len l; rw [hL] at h1; have := HL1.out.1; omega
          have hLe : esz L ≤ 160 := by have h2 := esz_rights l; rw [hL] at h2; have := HL1.out.2; omega
          have hLr : ∀ y ∈ L, rtE y = true := hL ▸ rights_all _
          have hGn : GN (cls L).1 := hL ▸ cls_GN (rights l) H.out.2.rights
          rw [hL] at hC g2 g4 hJ
          have hcl160 : (cls L).1.length ≤ 160 := Nat.le_trans (cls_len L) hLe
          have hfs : fs ≤ 10000000 := by
            have hd : dg (cls L).1.length ≤ 21 := Un.dg_le (by omega)
            have := mul22 (d := dg (cls L).1.length) (J := (J : Nat)) (by omega) (by omega) (by omega) (by omega)
            omega
          have hnc : ¬ Clash (cls L).1 (cls L).2 := hC.noClash
          have HRI := Lib.hid (rights12_any wr l (.slice A l.length cA) (H.out.1.later HBR.out.2) HL1.out.1 HL1.out.2)
          rw [hL] at HRI
          have HLL := Lib.hid (And.intro hL (And.intro hLl (And.intro hLe (And.intro hLr (And.intro hGn (And.intro hcl160 hnc))))))
          have HC := Lib.hid (And.intro hC (And.intro g3 (And.intro hfs hOb)))
          clear hO hb hs67 HT hC g1 g2 g3 g4 hJ hOb hL hLl hLe hLr hGn hcl160 hfs hnc
          go_wp2_with fail
          refine HRI.out.mono ?_
          rintro e w3 ⟨v3, rfl, hv3, hb3⟩
          obtain ⟨A3, c3, rfl⟩ := hv3.form
          have HCL := Lib.hid (close_any w3 L _ hv3 HLL.out.2.2.2.1 HLL.out.2.1 HLL.out.2.2.1)
          have HB3 := Lib.hid hb3
          clear HRI hv3 hb3
          go_wp2_with fail
          refine HCL.out.mono ?_
          clear HCL
          rintro e w4 ⟨vm, vs, M, cc, rfl, hR, hs, hrc, hec, hcl, hb4⟩
          obtain ⟨Am, cm, rfl⟩ := hR.1.row.1.form
          obtain ⟨As, cs, rfl⟩ := Un.row_form hs
          have hlen := hR.len
          have hgM : gM M = (cls L).1 := hR.2.1
          obtain ⟨G, hG⟩ : ∃ G, (cls L).1 = G := ⟨_, rfl⟩
          obtain ⟨E, hE⟩ : ∃ E, (cls L).2 = E := ⟨_, rfl⟩
          obtain ⟨N, hN⟩ : ∃ N, M.length = N := ⟨_, rfl⟩
          rw [hG] at hlen hgM hs hrc hec hcl
          rw [hE] at hrc hec
          rw [hN] at hlen
          have hrow : RdD (fun b => w3.heap.size ≤ b) w4 4 (.slice Am N cm) M.length (M.flatMap rmC) := by have := hR.1.row; rw [hN] at this; rw [hN]; exact this
          have hs : w4.ownsRow w3.heap.size 3 1 (.slice As N cs) N (rowI N cc) := by rw [hlen]; exact hs
          rw [hG, hN, ← hlen]
          have hN160 : N ≤ 160 := by have := HLL.out.2.2.2.2.2.1; rw [hG] at this; omega
          have HM := Lib.hid (And.intro hrow (And.intro hs (And.intro hrc (And.intro hec (And.intro hcl (And.intro hgM (And.intro hlen hN)))))))
          have HB4 := Lib.hid (And.intro hb4 (HB3.out.trans (hb4.mono HB3.out.size)))
          have HGE := Lib.hid (And.intro hG hE)
          clear hR hs hrc hec hcl hb4 hlen hgM hrow hG hE hN
          go_upto_region 25 with fail
          refine wp_world (fun Z => Z.heap[w4.heap.size]? = some (Obj.cells #[.slice Am N cm, .slice As N cs] 44) ∧ Below w4.heap.size w4 Z) ⟨heap_alloc_new w4 _, (Below.refl _ _).alloc (Nat.le_refl _) _⟩ ?_
          rintro Z ⟨hz, hbZ⟩
          have hzl := (Array.getElem?_eq_some_iff.1 hz).1
          have z0 : Z.cell? ⟨w4.heap.size, 0, none⟩ = some (.slice Am N cm) := cell_of_row Z _ 0 _ _ (0, 0) hz
          have HVA := Lib.hid (rvars11o Z (.slice Am N cm) M (HM.out.1.1.below hbZ) (by rw [HM.out.2.2.2.2.2.2.2]; omega))
          rw [HM.out.2.2.2.2.2.1] at HVA
          have HZ := Lib.hid (And.intro hz (And.intro hbZ (HB4.out.2.trans (hbZ.mono HB4.out.2.size))))
          clear hz hbZ
          go_wp2_with fail
          refine HVA.out.mono ?_
          clear HVA
          rintro e w5 ⟨v5, rfl, ho5, hb5⟩
          obtain ⟨VS, hVS⟩ : ∃ VS, vsort G = VS := ⟨_, rfl⟩
          rw [hVS] at ho5
          obtain ⟨Av, cv, rfl⟩ := Un.row_form ho5
          obtain ⟨n, hn⟩ : ∃ n, VS.length = n := ⟨_, rfl⟩
          rw [hn] at ho5 ⊢
          have hn160 : n ≤ 160 := by have := vsort_len G; rw [hVS, hn] at this; have := HM.out.2.2.2.2.2.2.1; omega
          have hb5r : Below wr.heap.size wr w5 := HZ.out.2.2.trans (hb5.mono HZ.out.2.2.size)
          have hC5 := HC.out.1.below hb5r
          have HVC := Lib.hid (vars_cs hC5 (by have := HLL.out.2.2.2.2.2.1; omega) HLL.out.2.2.2.2.1)
          rw [HGE.out.1, hVS] at HVC
          have HV := Lib.hid (And.intro ho5 (And.intro hb5 (And.intro hb5r (And.intro hVS hn))))
          clear ho5 hb5 hb5r hC5 hVS hn z0 hzl
          go_wp2_with fail
          refine HVC.out.mono ?_
          clear HVC
          rintro e w6 ⟨v6, rfl, ho6, hb6⟩
          have ho56 := own_below HV.out.1 hb6
          have HEQ := rints_any VS VS v6 (.slice Av n cv) w6 (Rd.of_own ho6) (by rw [HV.out.2.2.2.2]; exact Rd.of_own ho56) (by rw [HV.out.2.2.2.2]; omega) (by rw [HV.out.2.2.2.2]; omega)
          rw [show (VS == VS) = true from by simp] at HEQ
          have HIN := Lib.hid HEQ
          obtain ⟨A6, c6, rfl⟩ := Un.row_form ho6
          have HO6 := Lib.hid (And.intro ho56 hb6)
          clear HEQ ho6 hb6 ho56
          go_wp2_with fail
          refine HIN.out.mono ?_
          clear HIN
          rintro e w7 ⟨rfl, hb7⟩
          have h7r : Below wr.heap.size wr w7 := (HV.out.2.2.1.trans (HO6.out.2.mono HV.out.2.2.1.size)).trans (hb7.mono (Nat.le_trans HV.out.2.2.1.size HO6.out.2.size))
          have h7Z : Below Z.heap.size Z w7 := (HV.out.2.1.trans (HO6.out.2.mono HV.out.2.1.size)).trans (hb7.mono (Nat.le_trans HV.out.2.1.size HO6.out.2.size))
          have HQ7 : Hid (CQ Oc w7 c (G, E) 10000000 ∧ (∀ k, Oc k → w1.heap.size ≤ k ∧ k < wr.heap.size) ∧ ¬ Clash G E ∧ GN G ∧ Below w.heap.size w w7) := Lib.hid (by
            have h1 := HC.out.1.below h7r
            have h2 := HLL.out.2.2.2.2
            rw [HGE.out.1, HGE.out.2] at h1 h2
            exact ⟨⟨_, fs, m, h1, HC.out.2.1, HC.out.2.2.1⟩, HC.out.2.2.2, h2.2.2, h2.1, HBR.out.2.trans (h7r.mono HBR.out.2.size)⟩)
          have hsz3 : wr.heap.size ≤ w3.heap.size := HB3.out.size
          have hsz4 : w3.heap.size ≤ w4.heap.size := HB4.out.1.size
          have hszZ : w4.heap.size ≤ Z.heap.size := HZ.out.2.1.size
          have h74 : Below w4.heap.size w4 w7 := HZ.out.2.1.trans (h7Z.mono hszZ)
          have FR : Hid (∀ W, Else Oc w7 W → Rd W 4 (.slice Am N cm) M.length (M.flatMap rmC)) := Lib.hid fun W hE => ((HM.out.1.to h74.size fun b _ hlt => h74.block b hlt).to hE.size fun b hd hlt => hE.block b hlt fun hk => by have := (HQ7.out.2.1 b hk).2; omega).1
          have FS : Hid (∀ W, Else Oc w7 W → W.ownsRow w3.heap.size 3 1 (.slice As N cs) N (rowI N cc)) := Lib.hid fun W hE => own_else (own_below HM.out.2.1 h74) hE fun k hk hOk => by have h1 := (HM.out.2.1.lt k hk).1; have := (HQ7.out.2.1 k hOk).2; omega
          have FV : Hid (∀ W, Else Oc w7 W → W.ownsRow Z.heap.size 3 1 (.slice Av n cv) n (ints VS)) := Lib.hid fun W hE => own_else (own_below HO6.out.1 hb7) hE fun k hk hOk => by have h1 := (HV.out.1.lt k hk).1; have := (HQ7.out.2.1 k hOk).2; omega
          have FB : Hid (∀ W, Else Oc w7 W → W.cell? ⟨w4.heap.size, 0, none⟩ = some (.slice Am N cm) ∧ W.cell? ⟨w4.heap.size, 1, none⟩ = some (.slice As N cs)) := Lib.hid fun W hE => by
            have hl := (Array.getElem?_eq_some_iff.1 HZ.out.1).1
            have hx := (hE.block w4.heap.size (Nat.lt_of_lt_of_le hl h7Z.size) fun hk => by have := (HQ7.out.2.1 _ hk).2; omega).trans ((h7Z.block w4.heap.size hl).trans HZ.out.1)
            exact ⟨cell_of_row W _ 0 _ _ (0, 0) hx, cell_of_row W _ 1 _ _ (0, 0) hx⟩
          have HW := Lib.hid (And.intro h7r h7Z)
          clear hb7 h7r h7Z h74 hsz3 hsz4 hszZ
          go_wp2_with fail
          go_loopw [16, 17, 18] (fun s16 _ _ wz => ∃ i : Nat, s16 = .int .i64 (i : Nat) ∧ i ≤ n ∧ CQ Oc wz c (G, E) (10000000 + 10000 * (i : Nat)) ∧ Else Oc w7 wz) (fun s _ _ _ => n - (intOf s).toNat)
          case atStart => exact ⟨0, rfl, Nat.zero_le _, HQ7.out.1.more (by simp), Else.refl _ _⟩
          case round =>
            obtain ⟨i, rfl, hin, hcq, hE⟩ := hrel
            generalize wr = wo at *
            have HI := Lib.hid (And.intro hcq hE)
            clear hcq hE
            by_cases hil : i < n
            · have f1 : decide ((i : Int) < (n : Int)) = true := decide_eq_true (by omega)
              have HIL := Lib.hid hil
              obtain ⟨a, ha⟩ : ∃ a, VS[i]? = some a := ⟨_, List.getElem?_eq_getElem (by rw [HV.out.2.2.2.2]; exact hil)⟩
              obtain ⟨j, hj, hjv, hjl⟩ := ivar_of (G := G) (a := a) (by rw [HV.out.2.2.2.1]; exact List.mem_of_getElem? ha)
              have hjN : j < N := by rw [HM.out.2.2.2.2.2.2.1]; exact hjl
              have hwa : (Lit.int .i64 a).wf = true := HQ7.out.2.2.2.1.2 a ((gvar_names G a).1 (by rw [hj]; rfl))
              obtain ⟨bv, cvv, hshape, _, _⟩ := Un.own_shape (FV.out wo HI.out.2) (by omega)
              injection hshape with hA1 _ hcc1
              subst hA1; subst hcc1
              have EX : Hid (∀ W, Else Oc w7 W → W.cell? ⟨w4.heap.size, 0, none⟩ = some (.slice Am N cm) ∧ W.cell? ⟨w4.heap.size, 1, none⟩ = some (.slice As N cs) ∧ W.cell? ⟨bv, i, none⟩ = some (.int .i64 a)) := Lib.hid fun W hE => by
                obtain ⟨h0, h1⟩ := FB.out W hE
                refine ⟨h0, h1, ?_⟩
                rw [(FV.out W hE).cellAt i (by omega)]
                simp [ints, ha]
              have HJ := Lib.hid (And.intro ha (And.intro hj (And.intro hjv (And.intro hjl (And.intro hjN hwa)))))
              have HRV : Hid (∀ W, Else Oc w7 W → Calls Tryz.prog 23 #[.slice Am N cm, .int .i64 a] W fun e w' => e = .returned (.int .i64 (j : Nat)) ∧ Below W.heap.size W w') := Lib.hid fun W hE => by
                have h := rvar_graph W (.slice Am N cm) M (FR.out W hE) (by have := HM.out.2.2.2.2.2.2.2; omega) a
                rw [HM.out.2.2.2.2.2.1, HJ.out.2.2.1] at h
                exact h
              clear ha hj hjv hjl hjN hwa
              go_wp2_with fail
              have hS : Else Oc w7 wo.drew := Un.Else.drew HI.out.2
              refine wp_region_held (S := (fun W => Else Oc w7 W)) (by kernel_rfl) ?_
              change wpAnyH _ _ _ _ _ 8 (List.replicate 8 false).toArray _ wo.drew
              simp only [List.replicate_succ, List.replicate_zero]
              refine any_take (i := 0) (some 181) (.pointer (some ⟨w4.heap.size, 0, none⟩)) rfl (by rfl) (by kernel_rfl) (by kernel_rfl) (by kernel_rfl) (fun _ _ _ h => h) (Or.inl ⟨by kernel_rfl, (fun W hw => by clear hw; go_simp)⟩) hS ?_
              simp only [Act.put, List.setIfInBounds_toArray, List.set_cons_zero, List.set_cons_succ]
              refine any_take (i := 1) (some 182) (.slice Am N cm) rfl (by rfl) (by kernel_rfl) (by kernel_rfl) (by kernel_rfl) (fun _ _ _ h => h) (Or.inl ⟨by kernel_rfl, (fun W hw => by obtain ⟨n0_, n1_, n2_⟩ := EX.out W hw; clear hw; go_simp)⟩) hS ?_
              simp only [Act.put, List.setIfInBounds_toArray, List.set_cons_zero, List.set_cons_succ]
              refine any_take (i := 2) (some 183) (.slice (some ⟨bv, 0, none⟩) n cv) rfl (by rfl) (by kernel_rfl) (by kernel_rfl) (by kernel_rfl) (fun _ _ _ h => h) (Or.inl ⟨by kernel_rfl, (fun W hw => by clear hw; go_simp)⟩) hS ?_
              simp only [Act.put, List.setIfInBounds_toArray, List.set_cons_zero, List.set_cons_succ]
              refine any_take (i := 3) (some 184) (.int .i64 (i : Nat)) rfl (by rfl) (by kernel_rfl) (by kernel_rfl) (by kernel_rfl) (fun _ _ _ h => h) (Or.inl ⟨by kernel_rfl, (fun W hw => by clear hw; go_simp)⟩) hS ?_
              simp only [Act.put, List.setIfInBounds_toArray, List.set_cons_zero, List.set_cons_succ]
              refine any_take (i := 4) (some 185) (.pointer (some ⟨bv, i, none⟩)) rfl (by rfl) (by kernel_rfl) (by kernel_rfl) (by kernel_rfl) (fun _ _ _ h => h) (Or.inl ⟨by kernel_rfl, (fun W hw => by clear hw; go_simp)⟩) hS ?_
              simp only [Act.put, List.setIfInBounds_toArray, List.set_cons_zero, List.set_cons_succ]
              refine any_take (i := 5) (some 186) (.int .i64 a) rfl (by rfl) (by kernel_rfl) (by kernel_rfl) (by kernel_rfl) (fun _ _ _ h => h) (Or.inl ⟨by kernel_rfl, (fun W hw => by obtain ⟨n0_, n1_, n2_⟩ := EX.out W hw; clear hw; go_simp)⟩) hS ?_
              simp only [Act.put, List.setIfInBounds_toArray, List.set_cons_zero, List.set_cons_succ]
              refine wpAnyH_all (rs := [6]) (by kernel_rfl) (by simp) fun q' hq' => ?_
              obtain rfl : q' = 6 := by simpa using hq'
              refine ops_call (d := some 187) rfl (by rfl) (by kernel_rfl) (by go_simp) ((HRV.out _ hS).mono ?_)
              rintro e w8 ⟨rfl, hb8⟩
              have hS8 : Else Oc w7 w8 := hS.trans (Else.of_below hb8)
              refine ⟨_, rfl, hS8, ?_⟩
              simp only [Act.put, List.setIfInBounds_toArray, List.set_cons_zero, List.set_cons_succ]
              refine any_take (i := 7) (some 17) (.int .i64 (j : Nat)) rfl (by rfl) (by kernel_rfl) (by kernel_rfl) (by kernel_rfl) (fun _ _ _ h => h) (Or.inl ⟨by kernel_rfl, (fun W hw => by clear hw; go_simp)⟩) hS8 ?_
              simp only [Act.put, List.setIfInBounds_toArray, List.set_cons_zero, List.set_cons_succ]
              refine wpAnyH_done (by kernel_rfl) ?_ _
              have HQ8 := Lib.hid (And.intro ((HI.out.1.below (Below.refl _ wo).drew).below hb8) hS8)
              have HKC := Lib.hid (kind_cq (HQ8.out.1.below (Below.refl _ w8).drew) (by omega) (by show G.length ≤ 500000; have := HM.out.2.2.2.2.2.2.1; omega) a HJ.out.2.2.2.2.2)
              clear hS hS8 hb8
              go_wp2_with fail
              have hS : Else Oc w7 w8.drew := Un.Else.drew HQ8.out.2
              refine wp_region_held (S := (fun W => Else Oc w7 W)) (by kernel_rfl) ?_
              change wpAnyH _ _ _ _ _ 23 (List.replicate 23 false).toArray _ w8.drew
              simp only [List.replicate_succ, List.replicate_zero]
              refine any_take (i := 0) (some 188) (.pointer (some ⟨c, 0, none⟩)) rfl (by rfl) (by kernel_rfl) (by kernel_rfl) (by kernel_rfl) (fun _ _ _ h => h) (Or.inl ⟨by kernel_rfl, (fun W hw => by clear hw; go_simp)⟩) hS ?_
              simp only [Act.put, List.setIfInBounds_toArray, List.set_cons_zero, List.set_cons_succ]
              refine any_take (i := 1) (some 189) (.slice (some ⟨bv, 0, none⟩) n cv) rfl (by rfl) (by kernel_rfl) (by kernel_rfl) (by kernel_rfl) (fun _ _ _ h => h) (Or.inl ⟨by kernel_rfl, (fun W hw => by clear hw; go_simp)⟩) hS ?_
              simp only [Act.put, List.setIfInBounds_toArray, List.set_cons_zero, List.set_cons_succ]
              refine any_take (i := 2) (some 190) (.int .i64 (i : Nat)) rfl (by rfl) (by kernel_rfl) (by kernel_rfl) (by kernel_rfl) (fun _ _ _ h => h) (Or.inl ⟨by kernel_rfl, (fun W hw => by clear hw; go_simp)⟩) hS ?_
              simp only [Act.put, List.setIfInBounds_toArray, List.set_cons_zero, List.set_cons_succ]
              refine any_take (i := 3) (some 191) (.pointer (some ⟨bv, i, none⟩)) rfl (by rfl) (by kernel_rfl) (by kernel_rfl) (by kernel_rfl) (fun _ _ _ h => h) (Or.inl ⟨by kernel_rfl, (fun W hw => by clear hw; go_simp)⟩) hS ?_
              simp only [Act.put, List.setIfInBounds_toArray, List.set_cons_zero, List.set_cons_succ]
              refine any_take (i := 4) (some 192) (.int .i64 a) rfl (by rfl) (by kernel_rfl) (by kernel_rfl) (by kernel_rfl) (fun _ _ _ h => h) (Or.inl ⟨by kernel_rfl, (fun W hw => by obtain ⟨n0_, n1_, n2_⟩ := EX.out W hw; clear hw; go_simp)⟩) hS ?_
              simp only [Act.put, List.setIfInBounds_toArray, List.set_cons_zero, List.set_cons_succ]
              refine any_take (i := 6) (some 194) (.agg #[.slice Am N cm, .slice As N cs]) rfl (by rfl) (by kernel_rfl) (by kernel_rfl) (by kernel_rfl) (fun _ _ _ h => h) (Or.inl ⟨by kernel_rfl, (fun W hw => by obtain ⟨n0_, n1_, n2_⟩ := EX.out W hw; clear hw; go_simp)⟩) hS ?_
              simp only [Act.put, List.setIfInBounds_toArray, List.set_cons_zero, List.set_cons_succ]
              refine any_take (i := 7) (some 195) (.int .i64 (j : Nat)) rfl (by rfl) (by kernel_rfl) (by kernel_rfl) (by kernel_rfl) (fun _ _ _ h => h) (Or.inl ⟨by kernel_rfl, (fun W hw => by clear hw; go_simp)⟩) hS ?_
              simp only [Act.put, List.setIfInBounds_toArray, List.set_cons_zero, List.set_cons_succ]
              refine wpAnyH_all (rs := [5]) (by kernel_rfl) (by simp) fun q' hq' => ?_
              obtain rfl : q' = 5 := by simpa using hq'
              refine ops_call (d := some 193) rfl (by rfl) (by kernel_rfl) (by go_simp) (HKC.out.mono ?_)
              rintro e w9 ⟨r, rfl, hr, hq9, hE9⟩
              have hS9 : Else Oc w7 w9 := hS.trans hE9
              have HRK := Lib.hid (rkind_any w9 M (.slice Am N cm) (.slice As N cs) cc w3.heap.size (FR.out w9 hS9) (by rw [HM.out.2.2.2.2.2.2.2]; exact FS.out w9 hS9) (by have := HM.out.2.2.2.2.2.2.2; omega) j (by rw [HM.out.2.2.2.2.2.2.2]; exact HJ.out.2.2.2.2.1))
              have H9 := Lib.hid (And.intro hr (And.intro hq9 hS9))
              clear hr hq9 hE9 HKC
              refine ⟨_, rfl, hS9, ?_⟩
              simp only [Act.put, List.setIfInBounds_toArray, List.set_cons_zero, List.set_cons_succ]
              refine wpAnyH_all (rs := [8]) (by kernel_rfl) (by simp) fun q' hq' => ?_
              obtain rfl : q' = 8 := by simpa using hq'
              refine ops_call (d := some 196) rfl (by rfl) (by kernel_rfl) (by go_simp) (HRK.out.mono ?_)
              rintro e w10 ⟨r', rfl, hr', hb10⟩
              have hrr : r = r' := kind_eq HJ.out.2.1 HQ7.out.2.2.1 HM.out.2.2.1 HM.out.2.2.2.1 HM.out.2.2.2.2.1 H9.out.1 (by have := hr'; rw [HM.out.2.2.2.2.2.1] at this; exact this)
              subst hrr
              have hS10 : Else Oc w7 w10 := H9.out.2.2.trans (Else.of_below hb10)
              have H10 := Lib.hid (And.intro (H9.out.2.1.below hb10) hS10)
              have HCC := Lib.hid (class_cq H10.out.1 (by show G.length ≤ 500000; have := HM.out.2.2.2.2.2.2.1; omega) HQ7.out.2.2.2.1 a HJ.out.2.2.2.2.2)
              clear hr' hb10 HRK
              refine ⟨_, rfl, hS10, ?_⟩
              simp only [Act.put, List.setIfInBounds_toArray, List.set_cons_zero, List.set_cons_succ]
              refine any_take (i := 9) (some 197) (.bool false) rfl (by rfl) (by kernel_rfl) (by kernel_rfl) (by kernel_rfl) (fun _ _ _ h => h) (Or.inl ⟨by kernel_rfl, (fun W hw => by clear hw; go_simp)⟩) hS10 ?_
              simp only [Act.put, List.setIfInBounds_toArray, List.set_cons_zero, List.set_cons_succ]
              refine any_take (i := 10) (some 198) (.bool false) rfl (by rfl) (by kernel_rfl) (by kernel_rfl) (by kernel_rfl) (fun _ _ _ h => h) (Or.inl ⟨by kernel_rfl, (fun W hw => by clear hw; go_simp)⟩) hS10 ?_
              simp only [Act.put, List.setIfInBounds_toArray, List.set_cons_zero, List.set_cons_succ]
              refine any_take (i := 11) (some 199) (.pointer (some ⟨c, 0, none⟩)) rfl (by rfl) (by kernel_rfl) (by kernel_rfl) (by kernel_rfl) (fun _ _ _ h => h) (Or.inl ⟨by kernel_rfl, (fun W hw => by clear hw; go_simp)⟩) hS10 ?_
              simp only [Act.put, List.setIfInBounds_toArray, List.set_cons_zero, List.set_cons_succ]
              refine any_take (i := 12) (some 200) (.slice (some ⟨bv, 0, none⟩) n cv) rfl (by rfl) (by kernel_rfl) (by kernel_rfl) (by kernel_rfl) (fun _ _ _ h => h) (Or.inl ⟨by kernel_rfl, (fun W hw => by clear hw; go_simp)⟩) hS10 ?_
              simp only [Act.put, List.setIfInBounds_toArray, List.set_cons_zero, List.set_cons_succ]
              refine any_take (i := 13) (some 201) (.int .i64 (i : Nat)) rfl (by rfl) (by kernel_rfl) (by kernel_rfl) (by kernel_rfl) (fun _ _ _ h => h) (Or.inl ⟨by kernel_rfl, (fun W hw => by clear hw; go_simp)⟩) hS10 ?_
              simp only [Act.put, List.setIfInBounds_toArray, List.set_cons_zero, List.set_cons_succ]
              refine any_take (i := 14) (some 202) (.pointer (some ⟨bv, i, none⟩)) rfl (by rfl) (by kernel_rfl) (by kernel_rfl) (by kernel_rfl) (fun _ _ _ h => h) (Or.inl ⟨by kernel_rfl, (fun W hw => by clear hw; go_simp)⟩) hS10 ?_
              simp only [Act.put, List.setIfInBounds_toArray, List.set_cons_zero, List.set_cons_succ]
              refine any_take (i := 15) (some 203) (.int .i64 a) rfl (by rfl) (by kernel_rfl) (by kernel_rfl) (by kernel_rfl) (fun _ _ _ h => h) (Or.inl ⟨by kernel_rfl, (fun W hw => by obtain ⟨n0_, n1_, n2_⟩ := EX.out W hw; clear hw; go_simp)⟩) hS10 ?_
              simp only [Act.put, List.setIfInBounds_toArray, List.set_cons_zero, List.set_cons_succ]
              refine any_take (i := 17) (some 205) (.agg #[.slice Am N cm, .slice As N cs]) rfl (by rfl) (by kernel_rfl) (by kernel_rfl) (by kernel_rfl) (fun _ _ _ h => h) (Or.inl ⟨by kernel_rfl, (fun W hw => by obtain ⟨n0_, n1_, n2_⟩ := EX.out W hw; clear hw; go_simp)⟩) hS10 ?_
              simp only [Act.put, List.setIfInBounds_toArray, List.set_cons_zero, List.set_cons_succ]
              refine any_take (i := 18) (some 206) (.int .i64 (j : Nat)) rfl (by rfl) (by kernel_rfl) (by kernel_rfl) (by kernel_rfl) (fun _ _ _ h => h) (Or.inl ⟨by kernel_rfl, (fun W hw => by clear hw; go_simp)⟩) hS10 ?_
              simp only [Act.put, List.setIfInBounds_toArray, List.set_cons_zero, List.set_cons_succ]
              refine wpAnyH_all (rs := [16]) (by kernel_rfl) (by simp) fun q' hq' => ?_
              obtain rfl : q' = 16 := by simpa using hq'
              refine ops_call (d := some 204) rfl (by rfl) (by kernel_rfl) (by go_simp) (HCC.out.mono ?_)
              rintro e w11 ⟨vc, ys, rfl, hrd, hci, hyl, hb11⟩
              obtain ⟨Ac, cyc, rfl⟩ := hrd.form
              have hS11 : Else Oc w7 w11 := H10.out.2.trans (Else.of_below hb11)
              have HRC := Lib.hid (rclass_any w11 M (.slice Am N cm) (.slice As N cs) cc w3.heap.size (FR.out w11 hS11) (by rw [HM.out.2.2.2.2.2.2.2]; exact FS.out w11 hS11) (by have := HM.out.2.2.2.2.2.2.2; omega) j (by rw [HM.out.2.2.2.2.2.2.2]; exact HJ.out.2.2.2.2.1))
              have hyy : (vsort (gM M)).filter (selC (gM M) cc j) = ys := by
                rw [HM.out.2.2.2.2.2.1]
                exact (class_of HJ.out.2.1 HQ7.out.2.2.2.1 HM.out.2.2.1 HM.out.2.2.2.1 HM.out.2.2.2.2.1).uniq hci fun _ => Iff.rfl
              rw [hyy] at HRC
              have H11 := Lib.hid (And.intro hrd (And.intro hyl (And.intro hb11 hS11)))
              clear hrd hci hyl hb11 hyy HCC
              refine ⟨_, rfl, hS11, ?_⟩
              simp only [Act.put, List.setIfInBounds_toArray, List.set_cons_zero, List.set_cons_succ]
              refine wpAnyH_all (rs := [19]) (by kernel_rfl) (by simp) fun q' hq' => ?_
              obtain rfl : q' = 19 := by simpa using hq'
              refine ops_call (d := some 207) rfl (by rfl) (by kernel_rfl) (by go_simp) (HRC.out.mono ?_)
              rintro e w12 ⟨vd, rfl, hrd, hb12⟩
              obtain ⟨Ad, cyd, rfl⟩ := hrd.form
              have hyl : ys.length ≤ 1000000 := by have := H11.out.2.1; have := HM.out.2.2.2.2.2.2.1; show ys.length ≤ _; have h : ys.length ≤ G.length := H11.out.2.1; omega
              have HEQ := rints_any ys ys _ _ w12 (H11.out.1.below hb12) hrd hyl hyl
              rw [show (ys == ys) = true from by simp] at HEQ
              have HIN := Lib.hid HEQ
              have hS12 : Else Oc w7 w12 := H11.out.2.2.2.trans (Else.of_below hb12)
              have H12 := Lib.hid (And.intro (H11.out.2.2.1.trans (hb12.mono H11.out.2.2.1.size)) hS12)
              clear hrd hb12 hyl HEQ HRC
              refine ⟨_, rfl, hS12, ?_⟩
              simp only [Act.put, List.setIfInBounds_toArray, List.set_cons_zero, List.set_cons_succ]
              refine wpAnyH_all (rs := [20]) (by kernel_rfl) (by simp) fun q' hq' => ?_
              obtain rfl : q' = 20 := by simpa using hq'
              refine ops_call (d := some 208) rfl (by rfl) (by kernel_rfl) (by go_simp) (HIN.out.mono ?_)
              rintro e w13 ⟨rfl, hb13⟩
              have hS13 : Else Oc w7 w13 := H12.out.2.trans (Else.of_below hb13)
              have H13 := Lib.hid (And.intro (H10.out.1.below (H12.out.1.trans (hb13.mono H12.out.1.size))) hS13)
              clear hb13 HIN
              refine ⟨_, rfl, hS13, ?_⟩
              simp only [Act.put, List.setIfInBounds_toArray, List.set_cons_zero, List.set_cons_succ]
              refine any_take (i := 21) (some 209) (.bool false) rfl (by rfl) (by kernel_rfl) (by kernel_rfl) (by kernel_rfl) (fun _ _ _ h => h) (Or.inl ⟨by kernel_rfl, (fun W hw => by clear hw; go_simp)⟩) hS13 ?_
              simp only [Act.put, List.setIfInBounds_toArray, List.set_cons_zero, List.set_cons_succ]
              refine any_take (i := 22) (some 210) (.bool false) rfl (by rfl) (by kernel_rfl) (by kernel_rfl) (by kernel_rfl) (fun _ _ _ h => h) (Or.inl ⟨by kernel_rfl, (fun W hw => by clear hw; go_simp)⟩) hS13 ?_
              simp only [Act.put, List.setIfInBounds_toArray, List.set_cons_zero, List.set_cons_succ]
              refine wpAnyH_done (by kernel_rfl) ?_ _
              clear hS hS9 hS10 hS11 hS12 hS13
              go_wp2_with fail
              go_loopw [18] (fun s18 wz => ∃ k : Nat, s18 = .int .i64 (k : Nat) ∧ k ≤ n ∧ CQ Oc wz c (G, E) (10000000 + 10000 * (i : Nat) + 100 + 50 * (k : Nat)) ∧ Else Oc w7 wz) (fun s _ => n - (intOf s).toNat)
              case atStart => exact ⟨0, rfl, Nat.zero_le _, H13.out.1.more (by simp), H13.out.2⟩
              case round =>
                obtain ⟨k, rfl, hkn, hcq, hE⟩ := hrel
                generalize wr = wp at *
                have HK := Lib.hid (And.intro hcq hE)
                clear hcq hE
                by_cases hkl : k < n
                · have f2 : decide ((k : Int) < (n : Int)) = true := decide_eq_true (by omega)
                  have HKL := Lib.hid hkl
                  obtain ⟨a2, ha2⟩ : ∃ a, VS[k]? = some a := ⟨_, List.getElem?_eq_getElem (by rw [HV.out.2.2.2.2]; exact hkl)⟩
                  obtain ⟨j2, hj2, hjv2, hjl2⟩ := ivar_of (G := G) (a := a2) (by rw [HV.out.2.2.2.1]; exact List.mem_of_getElem? ha2)
                  have hjN2 : j2 < N := by rw [HM.out.2.2.2.2.2.2.1]; exact hjl2
                  have hwa2 : (Lit.int .i64 a2).wf = true := HQ7.out.2.2.2.1.2 a2 ((gvar_names G a2).1 (by rw [hj2]; rfl))
                  obtain ⟨gs, css, hshape, _, _⟩ := Un.own_shape (FS.out wp HK.out.2) (by omega)
                  injection hshape with hA2 _ hcc2
                  subst hA2; subst hcc2
                  have EY : Hid (∀ W, Else Oc w7 W → W.cell? ⟨w4.heap.size, 0, none⟩ = some (.slice Am N cm) ∧ W.cell? ⟨w4.heap.size, 1, none⟩ = some (.slice (some ⟨gs, 0, none⟩) N cs) ∧ W.cell? ⟨bv, i, none⟩ = some (.int .i64 a) ∧ W.cell? ⟨bv, k, none⟩ = some (.int .i64 a2) ∧ W.cell? ⟨gs, j, none⟩ = some (.int .i64 (cc j : Nat)) ∧ W.cell? ⟨gs, j2, none⟩ = some (.int .i64 (cc j2 : Nat))) := Lib.hid fun W hE => by
                    obtain ⟨h0, h1, h2⟩ := EX.out W hE
                    refine ⟨h0, h1, h2, ?_, ((FS.out W hE).cellAt j (by have := HJ.out.2.2.2.2.1; omega)).trans (rowI_get HJ.out.2.2.2.2.1), ((FS.out W hE).cellAt j2 (by omega)).trans (rowI_get hjN2)⟩
                    rw [(FV.out W hE).cellAt k (by omega)]
                    simp [ints, ha2]
                  have HRV2 : Hid (∀ W, Else Oc w7 W → Calls Tryz.prog 23 #[.slice Am N cm, .int .i64 a2] W fun e w' => e = .returned (.int .i64 (j2 : Nat)) ∧ Below W.heap.size W w') := Lib.hid fun W hE => by
                    have h := rvar_graph W (.slice Am N cm) M (FR.out W hE) (by have := HM.out.2.2.2.2.2.2.2; omega) a2
                    rw [HM.out.2.2.2.2.2.1, hjv2] at h
                    exact h
                  have HSC := Lib.hid (same_cq (HK.out.1.below (Below.refl _ wp).drew) (by omega) (by show G.length ≤ 500000; have := HM.out.2.2.2.2.2.2.1; omega) a a2 HJ.out.2.2.2.2.2 hwa2)
                  have HJ2 := Lib.hid (And.intro hj2 hjN2)
                  obtain ⟨bb, hbb⟩ : ∃ bb, (cc j == cc j2) = bb := ⟨_, rfl⟩
                  have e1 : ((cc j : Int) == (cc j2 : Int)) = bb := by
                    rw [← hbb, Bool.eq_iff_iff, beq_iff_eq, beq_iff_eq]; omega
                  have HBB := Lib.hid hbb
                  have hjb : j < N := HJ.out.2.2.2.2.1
                  clear ha2 hj2 hjv2 hjl2 hwa2 hbb
                  go_wp2_with fail
                  have hS : Else Oc w7 wp.drew := Un.Else.drew HK.out.2
                  refine wp_region_held (S := (fun W => Else Oc w7 W)) (by kernel_rfl) ?_
                  change wpAnyH _ _ _ _ _ 28 (List.replicate 28 false).toArray _ wp.drew
                  simp only [List.replicate_succ, List.replicate_zero]
                  refine any_take (i := 0) (some 217) (.pointer (some ⟨c, 0, none⟩)) rfl (by rfl) (by kernel_rfl) (by kernel_rfl) (by kernel_rfl) (fun _ _ _ h => h) (Or.inl ⟨by kernel_rfl, (fun W hw => by clear hw; go_simp)⟩) hS ?_
                  simp only [Act.put, List.setIfInBounds_toArray, List.set_cons_zero, List.set_cons_succ]
                  refine any_take (i := 1) (some 218) (.slice (some ⟨bv, 0, none⟩) n cv) rfl (by rfl) (by kernel_rfl) (by kernel_rfl) (by kernel_rfl) (fun _ _ _ h => h) (Or.inl ⟨by kernel_rfl, (fun W hw => by clear hw; go_simp)⟩) hS ?_
                  simp only [Act.put, List.setIfInBounds_toArray, List.set_cons_zero, List.set_cons_succ]
                  refine any_take (i := 2) (some 219) (.int .i64 (i : Nat)) rfl (by rfl) (by kernel_rfl) (by kernel_rfl) (by kernel_rfl) (fun _ _ _ h => h) (Or.inl ⟨by kernel_rfl, (fun W hw => by clear hw; go_simp)⟩) hS ?_
                  simp only [Act.put, List.setIfInBounds_toArray, List.set_cons_zero, List.set_cons_succ]
                  refine any_take (i := 3) (some 220) (.pointer (some ⟨bv, i, none⟩)) rfl (by rfl) (by kernel_rfl) (by kernel_rfl) (by kernel_rfl) (fun _ _ _ h => h) (Or.inl ⟨by kernel_rfl, (fun W hw => by clear hw; go_simp)⟩) hS ?_
                  simp only [Act.put, List.setIfInBounds_toArray, List.set_cons_zero, List.set_cons_succ]
                  refine any_take (i := 4) (some 221) (.int .i64 a) rfl (by rfl) (by kernel_rfl) (by kernel_rfl) (by kernel_rfl) (fun _ _ _ h => h) (Or.inl ⟨by kernel_rfl, (fun W hw => by obtain ⟨n0_, n1_, n2_, n3_, n4_, n5_⟩ := EY.out W hw; clear hw; go_simp)⟩) hS ?_
                  simp only [Act.put, List.setIfInBounds_toArray, List.set_cons_zero, List.set_cons_succ]
                  refine any_take (i := 5) (some 222) (.slice (some ⟨bv, 0, none⟩) n cv) rfl (by rfl) (by kernel_rfl) (by kernel_rfl) (by kernel_rfl) (fun _ _ _ h => h) (Or.inl ⟨by kernel_rfl, (fun W hw => by clear hw; go_simp)⟩) hS ?_
                  simp only [Act.put, List.setIfInBounds_toArray, List.set_cons_zero, List.set_cons_succ]
                  refine any_take (i := 6) (some 223) (.int .i64 (k : Nat)) rfl (by rfl) (by kernel_rfl) (by kernel_rfl) (by kernel_rfl) (fun _ _ _ h => h) (Or.inl ⟨by kernel_rfl, (fun W hw => by clear hw; go_simp)⟩) hS ?_
                  simp only [Act.put, List.setIfInBounds_toArray, List.set_cons_zero, List.set_cons_succ]
                  refine any_take (i := 7) (some 224) (.pointer (some ⟨bv, k, none⟩)) rfl (by rfl) (by kernel_rfl) (by kernel_rfl) (by kernel_rfl) (fun _ _ _ h => h) (Or.inl ⟨by kernel_rfl, (fun W hw => by clear hw; go_simp)⟩) hS ?_
                  simp only [Act.put, List.setIfInBounds_toArray, List.set_cons_zero, List.set_cons_succ]
                  refine any_take (i := 8) (some 225) (.int .i64 a2) rfl (by rfl) (by kernel_rfl) (by kernel_rfl) (by kernel_rfl) (fun _ _ _ h => h) (Or.inl ⟨by kernel_rfl, (fun W hw => by obtain ⟨n0_, n1_, n2_, n3_, n4_, n5_⟩ := EY.out W hw; clear hw; go_simp)⟩) hS ?_
                  simp only [Act.put, List.setIfInBounds_toArray, List.set_cons_zero, List.set_cons_succ]
                  refine any_take (i := 10) (some 227) (.pointer (some ⟨w4.heap.size, 1, none⟩)) rfl (by rfl) (by kernel_rfl) (by kernel_rfl) (by kernel_rfl) (fun _ _ _ h => h) (Or.inl ⟨by kernel_rfl, (fun W hw => by clear hw; go_simp)⟩) hS ?_
                  simp only [Act.put, List.setIfInBounds_toArray, List.set_cons_zero, List.set_cons_succ]
                  refine any_take (i := 11) (some 228) (.slice (some ⟨gs, 0, none⟩) N cs) rfl (by rfl) (by kernel_rfl) (by kernel_rfl) (by kernel_rfl) (fun _ _ _ h => h) (Or.inl ⟨by kernel_rfl, (fun W hw => by obtain ⟨n0_, n1_, n2_, n3_, n4_, n5_⟩ := EY.out W hw; clear hw; go_simp)⟩) hS ?_
                  simp only [Act.put, List.setIfInBounds_toArray, List.set_cons_zero, List.set_cons_succ]
                  refine any_take (i := 12) (some 229) (.int .i64 (j : Nat)) rfl (by rfl) (by kernel_rfl) (by kernel_rfl) (by kernel_rfl) (fun _ _ _ h => h) (Or.inl ⟨by kernel_rfl, (fun W hw => by clear hw; go_simp)⟩) hS ?_
                  simp only [Act.put, List.setIfInBounds_toArray, List.set_cons_zero, List.set_cons_succ]
                  refine any_take (i := 13) (some 230) (.pointer (some ⟨gs, j, none⟩)) rfl (by rfl) (by kernel_rfl) (by kernel_rfl) (by kernel_rfl) (fun _ _ _ h => h) (Or.inl ⟨by kernel_rfl, (fun W hw => by clear hw; go_simp)⟩) hS ?_
                  simp only [Act.put, List.setIfInBounds_toArray, List.set_cons_zero, List.set_cons_succ]
                  refine any_take (i := 14) (some 231) (.int .i64 (cc j : Nat)) rfl (by rfl) (by kernel_rfl) (by kernel_rfl) (by kernel_rfl) (fun _ _ _ h => h) (Or.inl ⟨by kernel_rfl, (fun W hw => by obtain ⟨n0_, n1_, n2_, n3_, n4_, n5_⟩ := EY.out W hw; clear hw; go_simp)⟩) hS ?_
                  simp only [Act.put, List.setIfInBounds_toArray, List.set_cons_zero, List.set_cons_succ]
                  refine any_take (i := 15) (some 232) (.pointer (some ⟨w4.heap.size, 1, none⟩)) rfl (by rfl) (by kernel_rfl) (by kernel_rfl) (by kernel_rfl) (fun _ _ _ h => h) (Or.inl ⟨by kernel_rfl, (fun W hw => by clear hw; go_simp)⟩) hS ?_
                  simp only [Act.put, List.setIfInBounds_toArray, List.set_cons_zero, List.set_cons_succ]
                  refine any_take (i := 16) (some 233) (.slice (some ⟨gs, 0, none⟩) N cs) rfl (by rfl) (by kernel_rfl) (by kernel_rfl) (by kernel_rfl) (fun _ _ _ h => h) (Or.inl ⟨by kernel_rfl, (fun W hw => by obtain ⟨n0_, n1_, n2_, n3_, n4_, n5_⟩ := EY.out W hw; clear hw; go_simp)⟩) hS ?_
                  simp only [Act.put, List.setIfInBounds_toArray, List.set_cons_zero, List.set_cons_succ]
                  refine any_take (i := 17) (some 234) (.pointer (some ⟨w4.heap.size, 0, none⟩)) rfl (by rfl) (by kernel_rfl) (by kernel_rfl) (by kernel_rfl) (fun _ _ _ h => h) (Or.inl ⟨by kernel_rfl, (fun W hw => by clear hw; go_simp)⟩) hS ?_
                  simp only [Act.put, List.setIfInBounds_toArray, List.set_cons_zero, List.set_cons_succ]
                  refine any_take (i := 18) (some 235) (.slice Am N cm) rfl (by rfl) (by kernel_rfl) (by kernel_rfl) (by kernel_rfl) (fun _ _ _ h => h) (Or.inl ⟨by kernel_rfl, (fun W hw => by obtain ⟨n0_, n1_, n2_, n3_, n4_, n5_⟩ := EY.out W hw; clear hw; go_simp)⟩) hS ?_
                  simp only [Act.put, List.setIfInBounds_toArray, List.set_cons_zero, List.set_cons_succ]
                  refine any_take (i := 19) (some 236) (.slice (some ⟨bv, 0, none⟩) n cv) rfl (by rfl) (by kernel_rfl) (by kernel_rfl) (by kernel_rfl) (fun _ _ _ h => h) (Or.inl ⟨by kernel_rfl, (fun W hw => by clear hw; go_simp)⟩) hS ?_
                  simp only [Act.put, List.setIfInBounds_toArray, List.set_cons_zero, List.set_cons_succ]
                  refine any_take (i := 20) (some 237) (.int .i64 (k : Nat)) rfl (by rfl) (by kernel_rfl) (by kernel_rfl) (by kernel_rfl) (fun _ _ _ h => h) (Or.inl ⟨by kernel_rfl, (fun W hw => by clear hw; go_simp)⟩) hS ?_
                  simp only [Act.put, List.setIfInBounds_toArray, List.set_cons_zero, List.set_cons_succ]
                  refine any_take (i := 21) (some 238) (.pointer (some ⟨bv, k, none⟩)) rfl (by rfl) (by kernel_rfl) (by kernel_rfl) (by kernel_rfl) (fun _ _ _ h => h) (Or.inl ⟨by kernel_rfl, (fun W hw => by clear hw; go_simp)⟩) hS ?_
                  simp only [Act.put, List.setIfInBounds_toArray, List.set_cons_zero, List.set_cons_succ]
                  refine any_take (i := 22) (some 239) (.int .i64 a2) rfl (by rfl) (by kernel_rfl) (by kernel_rfl) (by kernel_rfl) (fun _ _ _ h => h) (Or.inl ⟨by kernel_rfl, (fun W hw => by obtain ⟨n0_, n1_, n2_, n3_, n4_, n5_⟩ := EY.out W hw; clear hw; go_simp)⟩) hS ?_
                  simp only [Act.put, List.setIfInBounds_toArray, List.set_cons_zero, List.set_cons_succ]
                  refine wpAnyH_all (rs := [9]) (by kernel_rfl) (by simp) fun q' hq' => ?_
                  obtain rfl : q' = 9 := by simpa using hq'
                  refine ops_call (d := some 226) rfl (by rfl) (by kernel_rfl) (by go_simp) (HSC.out.mono ?_)
                  rintro e w14 ⟨t, rfl, ht, hq14, hE14⟩
                  have htb : t = bb := by rw [← HBB.out]; exact same_eq HJ.out.2.1 HJ2.out.1 HM.out.2.2.1 HM.out.2.2.2.1 HM.out.2.2.2.2.1 ht
                  subst htb
                  have hS14 : Else Oc w7 w14 := hS.trans hE14
                  have H14 := Lib.hid (And.intro hq14 hS14)
                  clear ht hq14 hE14 HSC
                  refine ⟨_, rfl, hS14, ?_⟩
                  simp only [Act.put, List.setIfInBounds_toArray, List.set_cons_zero, List.set_cons_succ]
                  refine wpAnyH_all (rs := [23]) (by kernel_rfl) (by simp) fun q' hq' => ?_
                  obtain rfl : q' = 23 := by simpa using hq'
                  refine ops_call (d := some 240) rfl (by rfl) (by kernel_rfl) (by go_simp) ((HRV2.out _ hS14).mono ?_)
                  rintro e w15 ⟨rfl, hb15⟩
                  have hS15 : Else Oc w7 w15 := H14.out.2.trans (Else.of_below hb15)
                  have H15 := Lib.hid (And.intro (H14.out.1.below hb15) hS15)
                  clear hb15
                  refine ⟨_, rfl, hS15, ?_⟩
                  simp only [Act.put, List.setIfInBounds_toArray, List.set_cons_zero, List.set_cons_succ]
                  refine any_take (i := 24) (some 241) (.pointer (some ⟨gs, j2, none⟩)) rfl (by rfl) (by kernel_rfl) (by kernel_rfl) (by kernel_rfl) (fun _ _ _ h => h) (Or.inl ⟨by kernel_rfl, (fun W hw => by clear hw; go_simp)⟩) hS15 ?_
                  simp only [Act.put, List.setIfInBounds_toArray, List.set_cons_zero, List.set_cons_succ]
                  refine any_take (i := 25) (some 242) (.int .i64 (cc j2 : Nat)) rfl (by rfl) (by kernel_rfl) (by kernel_rfl) (by kernel_rfl) (fun _ _ _ h => h) (Or.inl ⟨by kernel_rfl, (fun W hw => by obtain ⟨n0_, n1_, n2_, n3_, n4_, n5_⟩ := EY.out W hw; clear hw; go_simp)⟩) hS15 ?_
                  simp only [Act.put, List.setIfInBounds_toArray, List.set_cons_zero, List.set_cons_succ]
                  refine any_take (i := 26) (some 243) (.bool t) rfl (by rfl) (by kernel_rfl) (by kernel_rfl) (by kernel_rfl) (fun _ _ _ h => h) (Or.inl ⟨by kernel_rfl, (fun W hw => by clear hw; go_simp)⟩) hS15 ?_
                  simp only [Act.put, List.setIfInBounds_toArray, List.set_cons_zero, List.set_cons_succ]
                  refine any_take (i := 27) (some 244) (.bool false) rfl (by rfl) (by kernel_rfl) (by kernel_rfl) (by kernel_rfl) (fun _ _ _ h => h) (Or.inl ⟨by kernel_rfl, (fun W hw => by clear hw; go_simp)⟩) hS15 ?_
                  simp only [Act.put, List.setIfInBounds_toArray, List.set_cons_zero, List.set_cons_succ]
                  refine wpAnyH_done (by kernel_rfl) ?_ _
                  clear hS hS14 hS15 e1 EY HRV2
                  go_wp2_with fail
                  go_roundw
                  case rel => exact ⟨k + 1, by go_num, HKL.out, H15.out.1.more (by push_cast; omega), H15.out.2⟩
                  case measure => have := HKL.out; simp [intOf]; omega
                · have f2 : decide ((k : Int) < (n : Int)) = false := decide_eq_false (by omega)
                  go_wp2_with fail
                  go_roundw
                  case rel => exact ⟨i + 1, by go_num, HIL.out, HK.out.1.more (by push_cast; omega), HK.out.2⟩
                  case measure => have := HIL.out; simp [intOf]; omega
            · have f1 : decide ((i : Int) < (n : Int)) = false := decide_eq_false (by omega)
              have hxb : wo.cell? ⟨w4.heap.size, 0, none⟩ = some (.slice Am N cm) := (FB.out wo HI.out.2).1
              have HRV := Lib.hid (rvar_graph wo (.slice Am N cm) M (FR.out wo HI.out.2) (by have := HM.out.2.2.2.2.2.2.2; omega) ask)
              rw [HM.out.2.2.2.2.2.1] at HRV
              have HWO : Hid (Below w.heap.size w wo) := Lib.hid (HQ7.out.2.2.2.2.trans (HI.out.2.below (fun k hk => Nat.le_trans HB1.out.size (HQ7.out.2.1 k hk).1) HQ7.out.2.2.2.2.size))
              have HKE : Hid (∀ k, Oc k → w.heap.size ≤ k) := Lib.hid fun k hk => Nat.le_trans HB1.out.size (HQ7.out.2.1 k hk).1
              have HG5 : Hid (G.length ≤ 500000) := Lib.hid (by have := HM.out.2.2.2.2.2.2.1; omega)
              cases hv : gvar G ask with
              | some j =>
                have hiv : ivar G ask = (j : Nat) := by rw [ivar, hv]
                rw [hiv] at HRV
                have t1 : decide (0 ≤ (j : Int)) = true := decide_eq_true (by omega)
                have HVJ := Lib.hid hv
                clear hiv hv
                go_wp2_with fail
                refine HRV.out.mono ?_
                clear HRV hxb
                rintro e w8 ⟨rfl, hb8⟩
                have HSC := Lib.hid (same_cq (HI.out.1.below hb8) (by omega) HG5.out ask ask HA.out HA.out)
                have HB8 := Lib.hid (HWO.out.trans (hb8.mono HWO.out.size))
                clear hb8
                go_wp2_with fail
                refine HSC.out.mono ?_
                clear HSC
                rintro e w9 ⟨t, rfl, ht, hq, hE⟩
                obtain rfl : t = true := ht.2 ⟨j, j, HVJ.out, HVJ.out, .refl _⟩
                have HB9 := Lib.hid (HB8.out.trans (hE.below HKE.out HB8.out.size))
                clear ht hq hE
                go_wp2_with fail
                refine (HAW.out _).mono ?_
                rintro e w10 ⟨rfl, hb10⟩
                have HB10 := Lib.hid (HB9.out.trans (hb10.mono HB9.out.size))
                clear hb10
                go_wp2_with fail
                go_ret
                exact ⟨rfl, HB10.out⟩
              | none =>
                have hiv : ivar G ask = -1 := by rw [ivar, hv]
                rw [hiv] at HRV
                have HVJ := Lib.hid hv
                clear hiv hv
                go_wp2_with fail
                refine HRV.out.mono ?_
                clear HRV hxb
                rintro e w8 ⟨rfl, hb8⟩
                have HSC := Lib.hid (same_cq (HI.out.1.below hb8) (by omega) HG5.out ask ask HA.out HA.out)
                have HB8 := Lib.hid (HWO.out.trans (hb8.mono HWO.out.size))
                clear hb8
                go_wp2_with fail
                refine HSC.out.mono ?_
                clear HSC
                rintro e w9 ⟨t, rfl, ht, hq, hE⟩
                obtain rfl : t = false := by
                  cases t with
                  | false => rfl
                  | true =>
                    obtain ⟨p, _, hp, _⟩ := ht.1 rfl
                    rw [HVJ.out] at hp
                    cases hp
                have HB9 := Lib.hid (HB8.out.trans (hE.below HKE.out HB8.out.size))
                have HKC := Lib.hid (kind_cq hq (by omega) HG5.out ask HA.out)
                clear ht hq hE
                go_wp2_with fail
                refine HKC.out.mono ?_
                clear HKC
                rintro e w10 ⟨r, rfl, hr, hq, hE⟩
                obtain rfl : r = 0 := by
                  unfold KindIs at hr
                  rw [HVJ.out] at hr
                  exact hr
                have HB10 := Lib.hid (HB9.out.trans (hE.below HKE.out HB9.out.size))
                have HCC := Lib.hid (class_cq hq HG5.out HQ7.out.2.2.2.1 ask HA.out)
                clear hr hq hE
                go_wp2_with fail
                refine HCC.out.mono ?_
                clear HCC
                rintro e w11 ⟨vc, ys, rfl, hrd, hci, hyl, hb11⟩
                obtain ⟨Ac, cyc, rfl⟩ := hrd.form
                obtain rfl : ys = [] := List.eq_nil_iff_forall_not_mem.2 fun b hb => by
                  obtain ⟨p, _, hp, _⟩ := (hci.2.2 b).1 hb
                  rw [HVJ.out] at hp
                  cases hp
                have HB11 := Lib.hid (HB10.out.trans (hb11.mono HB10.out.size))
                clear hrd hci hyl hb11
                simp only [List.length_nil]
                go_wp2_with fail
                refine (HAW.out _).mono ?_
                rintro e w12 ⟨rfl, hb12⟩
                have HB12 := Lib.hid (HB11.out.trans (hb12.mono HB11.out.size))
                clear hb12
                go_wp2_with fail
                go_ret
                exact ⟨rfl, HB12.out⟩
        · have HX0 := Lib.hid hx
          clear hb hs67 hx HT
          go_wp2_with fail
          refine (cparts_cx HX0.out ask).mono ?_
          rintro e w3 ⟨rfl, hb3⟩
          have HX3 := Lib.hid (And.intro (HX0.out.below hb3) (HBR.out.2.trans (hb3.mono HBR.out.2.size)))
          clear hb3
          go_wp2_with fail
          refine (vars_cx HX3.out.1).mono ?_
          rintro e w4 ⟨rfl, hb4⟩
          have HX4 := Lib.hid (And.intro (HX3.out.1.below hb4) (HX3.out.2.trans (hb4.mono HX3.out.2.size)))
          clear hb4
          go_wp2_with fail
          refine (ckind_cx HX4.out.1 ask).mono ?_
          rintro e w5 ⟨rfl, hb5⟩
          have HX5 := Lib.hid (And.intro (HX4.out.1.below hb5) (HX4.out.2.trans (hb5.mono HX4.out.2.size)))
          clear hb5
          go_wp2_with fail
          refine (same_cx HX5.out.1 ask ask).mono ?_
          rintro e w6 ⟨rfl, hb6⟩
          have HX6 := Lib.hid (And.intro (HX5.out.1.below hb6) (HX5.out.2.trans (hb6.mono HX5.out.2.size)))
          clear hb6
          go_wp2_with fail
          refine (class_cx HX6.out.1 ask).mono ?_
          rintro e w7 ⟨rfl, hb7⟩
          have HX7 := Lib.hid (HX6.out.2.trans (hb7.mono HX6.out.2.size))
          clear hb7
          go_wp2_with fail
          refine (HAW.out w7).mono ?_
          rintro e w8 ⟨rfl, hb8⟩
          have HB8 := Lib.hid (HX7.out.trans (hb8.mono HX7.out.size))
          clear hb8
          go_wp2_with fail
          go_ret
          exact ⟨rfl, HB8.out⟩
end Go.Proofs.YtbnpmeaaaecciaaGreat
