/- Texts of one proof, one behind the other. -/
import Derived.Test.YtbnpmeaaaecciaaMgUnifyParts30
import Derived.Test.YtbnpmeaaaecciaaMgUnifyParts32
/- UnifyParts, walked. -/
namespace Go.Proofs.Ytbnpmeaaaecciaa
open Go.RowKit
open Un (Else dg cnt own_else rowI rowI_get wp_world)
set_option maxRecDepth 100000
attribute [local go_sem] Oper.semAt_some
attribute [local go_sem ↓] builtin_app
/-- No node: no clash. -/
theorem rclash_nil (w : World) (Am As : Option Addr) (cm cs : Nat) :
    Calls Try.prog 14 #[.agg #[.slice Am 0 cm, .slice As 0 cs]] w fun e w' => e = .returned (.bool false) ∧ Below w.heap.size w w' := by
  go_enter Try.func14, Try.ntmps14
  go_wp2_with fail
  go_loopw [3, 4, 5, 6] (fun t _ _ _ wr => t = .int .i64 0 ∧ wr = w.alloc (.cells #[.slice Am 0 cm, .slice As 0 cs] 46)) (fun _ _ _ _ _ => 0)
  case atStart => exact ⟨rfl, rfl⟩
  case round =>
    obtain ⟨rfl, rfl⟩ := hrel
    go_wp2_with fail
    go_ret
    exact ⟨rfl, (Below.refl _ _).alloc (Nat.le_refl _) _⟩
/-- What stands ahead of each round. -/
def PRel (L : List Eqn) (B c : Nat) (w : World) (j : Nat) : Prop :=
  ∃ (cl : Bool) (st : Int), USt B w c (cls (L.take j)) (L.take j).length st cl ∧ (cl = true → Clash (cls (L.take j)).1 (cls (L.take j)).2)
theorem PRel.next {L : List Eqn} {B c j : Nat} {w' : World} {cl : Bool} {st : Int} {r : Int} (hj : j < L.length) (hc : cl = true → Clash (cls (L.take j)).1 (cls (L.take j)).2) (h : EqOut B w' c (cls (L.take j)) (L.take j).length st L[j] cl true r) : PRel L B c w' (j + 1) := by
  have hst := cls_step L j hj
  have hln : (L.take (j + 1)).length = (L.take j).length + 1 := by rw [List.length_take, List.length_take]; omega
  unfold PRel
  rw [hst, hln]
  rcases h with ⟨rfl, _, st', hx⟩ | ⟨_, h, _⟩ | ⟨rfl, _, st', _, _, _, _, h⟩
  · exact ⟨true, st, .inr ⟨rfl, st', hx⟩, fun _ => (hc rfl).later (by obtain ⟨X, hX, _⟩ := (stp_pre (cls (L.take j)) L[j]).1; exact ⟨X, hX⟩) (stp_pre (cls (L.take j)) L[j]).2⟩
  · cases h
  · rcases h with ⟨_, hcl, hx⟩ | ⟨_, _, hx⟩
    · exact ⟨true, st', .inr ⟨rfl, st', hx⟩, fun _ => hcl⟩
    · exact ⟨false, st', .inl ⟨rfl, hx⟩, fun h => by cases h⟩
/-- Both tell the same parts of a variable. -/
theorem cpost_cases {G : List Gn} {col ro : Nat → Nat} {kn : Kn} {E : List (Nat × Nat)} {cc : Nat → Nat} {i : Nat} {r : Int} {b : Bool} {vv : Value} {w' : World} {B c : Nat} (hb : Both G col ro kn E cc) (hi : i < G.length) (hr : WholeIs G cc i r)
    (h : (b = false ∧ vv = .slice none 0 0 ∧ kindO G (kn (ro i)).1 = 0) ∨ (b = true ∧ kindO G (kn (ro i)).1 ≠ 0 ∧ w'.ownsRow B 57 2 vv (partsO G (kn (ro i)).1).length (ptC c ((partsO G (kn (ro i)).1).map ro)))) :
    ∃ Q : List Nat, w'.ownsRow B 57 2 vv Q.length (ptC c (Q.map ro)) ∧ ((b = false ∧ r = -1 ∧ Q = []) ∨ (b = true ∧ ∃ (k : Nat) (p : Gn), r = k ∧ G[k]? = some p ∧ Q = p.2.2.2)) := by
  rcases hb.whole hi hr with ⟨rfl, h1, h2⟩ | ⟨k, p, rfl, hp, _, h3, h4⟩
  · rcases h with ⟨rfl, rfl, _⟩ | ⟨rfl, h5, _⟩
    · exact ⟨[], World.ownsRow_nil _ _ _ _, .inl ⟨rfl, rfl, rfl⟩⟩
    · rw [h1] at h5
      exact absurd rfl h5
  · rcases h with ⟨_, _, h5⟩ | ⟨rfl, _, h6⟩
    · exact absurd h5 h3
    · refine ⟨p.2.2.2, ?_, .inr ⟨rfl, k, p, rfl, hp, rfl⟩⟩
      have hl := congrArg List.length h4
      simp only [List.length_map] at hl
      rw [← h4, ← hl]
      exact h6
set_option maxHeartbeats 16000000 in
theorem uparts_law (w : World) (l : List Eqn) (v : Value) (hl : ArgE w v l) (deep : Nat) (hdp : deep < 256) :
    Calls Try.prog 4 #[v, .int .u8 (deep : Nat)] w fun e w' => e = .returned (.bool true) ∧ Below w.heap.size w w' := by
  have HG1 := Lib.hid (great12_any w l v hl.1 hl.1.lenle)
  have H := Lib.hid hl
  have HAW := Lib.hid awake12
  have HDP := Lib.hid hdp
  obtain ⟨A0, cA, rfl⟩ := hl.1.form
  clear hl hdp
  go_enter Try.func4, Try.ntmps4
  go_wp2_with fail
  refine HG1.out.mono ?_
  clear HG1
  rintro e w1 ⟨g1, rfl, hg1, hb1⟩
  have HB1 := Lib.hid hb1
  cases g1 with
  | true =>
    clear hg1 hb1
    go_wp2_with fail
    refine (HAW.out w1).mono ?_
    rintro e w2 ⟨rfl, hb2⟩
    have HB2 := Lib.hid (HB1.out.trans (hb2.mono HB1.out.size))
    clear hb2
    go_wp2_with fail
    go_ret
    exact ⟨rfl, HB2.out⟩
  | false =>
    have hl1 := hg1 rfl
    have HRI := Lib.hid (rights12_any w1 l (.slice A0 l.length cA) (H.out.1.later hb1) hl1.1 hl1.2)
    obtain ⟨L, hL⟩ : ∃ L, rights l = L := ⟨_, rfl⟩
    have hLl : L.length ≤ 20 := by have h1 := rights_len l; rw [hL] at h1; omega
    have hLe : esz L ≤ 160 := by have h2 := esz_rights l; rw [hL] at h2; omega
    have hLr : ∀ y ∈ L, rtE y = true := hL ▸ rights_all _
    have hLw : EqW L := hL ▸ H.out.2.rights
    rw [hL] at HRI
    have HLL := Lib.hid (And.intro hLl (And.intro hLe (And.intro hLr hLw)))
    clear hg1 hl1 hb1 hL hLl hLe hLr hLw
    go_wp2_with fail
    refine HRI.out.mono ?_
    clear HRI
    rintro e w2 ⟨v2, rfl, hv2, hb2⟩
    obtain ⟨A2, c2, rfl⟩ := hv2.form
    have HV := Lib.hid (And.intro hv2 (HB1.out.trans (hb2.mono HB1.out.size)))
    have HNW := Lib.hid (new_cs w2)
    clear hv2 hb2
    go_wp2_with fail
    refine HNW.out.mono ?_
    clear HNW
    rintro e w3 ⟨c, rfl, hC3, hb3⟩
    have HOK : Hid (OkC w2.heap.size w3 c ([], []) 0 0 ∧ Below w2.heap.size w2 w3) := Lib.hid (by
      obtain ⟨O', a1, a2⟩ := hC3.tight
      exact ⟨⟨O', 0, 0, 0, a2, by simp, by simp, fun k hk => a1 k hk⟩, hb3⟩)
    clear hC3 hb3
    go_wp2_with fail
    go_loopw [6] (fun s6 wr => ∃ j : Nat, s6 = .int .i64 (j : Nat) ∧ j ≤ L.length ∧ PRel L w2.heap.size c wr j ∧ Below w2.heap.size w2 wr) (fun s _ => L.length - (intOf s).toNat)
    case atStart => exact ⟨0, rfl, Nat.zero_le _, ⟨false, 0, .inl ⟨rfl, HOK.out.1⟩, fun h => by cases h⟩, HOK.out.2⟩
    case round =>
      obtain ⟨j, rfl, hj, hP, hb⟩ := hrel
      have HT := Lib.hid (And.intro hP hb)
      clear hP hb HOK
      have hL20 : L.length ≤ 20 := HLL.out.1
      by_cases hjl : j < L.length
      · have f1 : decide ((j : Int) < (L.length : Int)) = true := decide_eq_true (by omega)
        obtain ⟨cl, st, hU, hcl⟩ := HT.out.1
        obtain ⟨b, off, rfl, hat, hty⟩ := HV.out.1.here HT.out.2 j hjl
        have htyB := (HV.out.1.ty j hjl)
        have hln : (cls (L.take j)).1.length + sz1 L[j] ≤ 8000 := by
          have h1 := cls_len (L.take j)
          have h2 := (show esz (L.take j) + sz1 L[j] ≤ esz L by rw [← esz_step L j hjl]; exact esz_take L (j + 1))
          have h3 := HLL.out.2.1
          omega
        obtain ⟨x, hx⟩ : ∃ x, L[j] = x := ⟨_, rfl⟩
        have hrt := HLL.out.2.2.1 _ (List.getElem_mem hjl)
        have hxw := HLL.out.2.2.2 _ (List.getElem_mem hjl)
        have HNX := Lib.hid fun (w' : World) (r : Int) => PRel.next (B := w2.heap.size) (c := c) (w' := w') (cl := cl) (st := st) (r := r) hjl hcl
        have EXC : Hid (∀ W, Below w2.heap.size w2 W → EqAt W b (off + j * 8) L[j]) := Lib.hid fun W hW => by
          obtain ⟨_, _, e1, hat2, _⟩ := HV.out.1.here hW j hjl
          cases e1
          exact hat2
        rw [hx] at hat hty hrt hxw htyB hln HNX EXC
        obtain ⟨⟨k0, n0, ⟨u1, u2, u3⟩, F⟩, ⟨k1, n1, ⟨v1, v2, v3⟩, F'⟩, a0, a1⟩ := x
        have EX : Hid (∀ W, Below w2.heap.size w2 W → W.cell? ⟨b, off + j * 8, none⟩ = some (.int .i64 k0) ∧ W.cell? ⟨b, off + j * 8 + 1, none⟩ = some (.int .i64 n0) ∧ W.cell? ⟨b, off + j * 8 + 2, none⟩ = some (.slice u1 u2 u3) ∧ W.cell? ⟨b, off + j * 8 + 3, none⟩ = some (.int .i64 k1) ∧ W.cell? ⟨b, off + j * 8 + 3 + 1, none⟩ = some (.int .i64 n1) ∧ W.cell? ⟨b, off + j * 8 + 3 + 2, none⟩ = some (.slice v1 v2 v3)) := Lib.hid fun W hW => by
          obtain ⟨y0, y1, y2, y3, y4, y5, _, _⟩ := EXC.out W hW
          exact ⟨y0, y1, y2, y3, y4, y5⟩
        have HEQ := Lib.hid (ueq cl true (hU.below (Below.refl wr.heap.size wr).drew) (show w2.heap.size ≤ wr.drew.heap.size from HT.out.2.size) ((k0, n0, (u1, u2, u3), F), (k1, n1, (v1, v2, v3), F'), a0, a1) (htyB.keep (Nat.le_refl _) fun b off hlt => HT.out.2.cell (p := ⟨b, off, none⟩) hlt) hxw hrt hln (by rw [List.length_take]; omega))
        dsimp only [t1V, tyVal, slv] at HEQ
        have HJL := Lib.hid hjl
        clear hU hcl hat hty htyB hln hx hrt hxw EXC
        go_wp2_with fail
        have hS : Below w2.heap.size w2 wr.drew := HT.out.2.drew
        refine wp_region_held (S := (fun W => Below w2.heap.size w2 W)) (by kernel_rfl) ?_
        change wpAnyH _ _ _ _ _ 12 (List.replicate 12 false).toArray _ wr.drew
        simp only [List.replicate_succ, List.replicate_zero]
        refine any_take (i := 0) (some 33) (.pointer (some ⟨c, 0, none⟩)) rfl (by rfl) (by kernel_rfl) (by kernel_rfl) (by kernel_rfl) (fun _ _ _ h => h) (Or.inl ⟨by kernel_rfl, (fun W hw => by clear hw; go_simp)⟩) hS ?_
        simp only [Act.put, List.setIfInBounds_toArray, List.set_cons_zero, List.set_cons_succ]
        refine any_take (i := 1) (some 34) (.slice (some ⟨b, off, none⟩) L.length c2) rfl (by rfl) (by kernel_rfl) (by kernel_rfl) (by kernel_rfl) (fun _ _ _ h => h) (Or.inl ⟨by kernel_rfl, (fun W hw => by clear hw; go_simp)⟩) hS ?_
        simp only [Act.put, List.setIfInBounds_toArray, List.set_cons_zero, List.set_cons_succ]
        refine any_take (i := 2) (some 35) (.int .i64 (j : Nat)) rfl (by rfl) (by kernel_rfl) (by kernel_rfl) (by kernel_rfl) (fun _ _ _ h => h) (Or.inl ⟨by kernel_rfl, (fun W hw => by clear hw; go_simp)⟩) hS ?_
        simp only [Act.put, List.setIfInBounds_toArray, List.set_cons_zero, List.set_cons_succ]
        refine any_take (i := 3) (some 36) (.pointer (some ⟨b, off + j * 8, none⟩)) rfl (by rfl) (by kernel_rfl) (by kernel_rfl) (by kernel_rfl) (fun _ _ _ h => h) (Or.inl ⟨by kernel_rfl, (fun W hw => by clear hw; go_simp)⟩) hS ?_
        simp only [Act.put, List.setIfInBounds_toArray, List.set_cons_zero, List.set_cons_succ]
        refine any_take (i := 4) (some 37) (.pointer (some ⟨b, off + j * 8, none⟩)) rfl (by rfl) (by kernel_rfl) (by kernel_rfl) (by kernel_rfl) (fun _ _ _ h => h) (Or.inl ⟨by kernel_rfl, (fun W hw => by clear hw; go_simp)⟩) hS ?_
        simp only [Act.put, List.setIfInBounds_toArray, List.set_cons_zero, List.set_cons_succ]
        refine any_take (i := 5) (some 38) (.agg #[.int .i64 k0, .int .i64 n0, .slice u1 u2 u3]) rfl (by rfl) (by kernel_rfl) (by kernel_rfl) (by kernel_rfl) (fun _ _ _ h => h) (Or.inl ⟨by kernel_rfl, (fun W hw => by obtain ⟨x0, x1, x2, x3, x4, x5⟩ := EX.out W hw; clear hw; go_simp)⟩) hS ?_
        simp only [Act.put, List.setIfInBounds_toArray, List.set_cons_zero, List.set_cons_succ]
        refine any_take (i := 6) (some 39) (.slice (some ⟨b, off, none⟩) L.length c2) rfl (by rfl) (by kernel_rfl) (by kernel_rfl) (by kernel_rfl) (fun _ _ _ h => h) (Or.inl ⟨by kernel_rfl, (fun W hw => by clear hw; go_simp)⟩) hS ?_
        simp only [Act.put, List.setIfInBounds_toArray, List.set_cons_zero, List.set_cons_succ]
        refine any_take (i := 7) (some 40) (.int .i64 (j : Nat)) rfl (by rfl) (by kernel_rfl) (by kernel_rfl) (by kernel_rfl) (fun _ _ _ h => h) (Or.inl ⟨by kernel_rfl, (fun W hw => by clear hw; go_simp)⟩) hS ?_
        simp only [Act.put, List.setIfInBounds_toArray, List.set_cons_zero, List.set_cons_succ]
        refine any_take (i := 8) (some 41) (.pointer (some ⟨b, off + j * 8, none⟩)) rfl (by rfl) (by kernel_rfl) (by kernel_rfl) (by kernel_rfl) (fun _ _ _ h => h) (Or.inl ⟨by kernel_rfl, (fun W hw => by clear hw; go_simp)⟩) hS ?_
        simp only [Act.put, List.setIfInBounds_toArray, List.set_cons_zero, List.set_cons_succ]
        refine any_take (i := 9) (some 42) (.pointer (some ⟨b, off + j * 8 + 3, none⟩)) rfl (by rfl) (by kernel_rfl) (by kernel_rfl) (by kernel_rfl) (fun _ _ _ h => h) (Or.inl ⟨by kernel_rfl, (fun W hw => by clear hw; go_simp)⟩) hS ?_
        simp only [Act.put, List.setIfInBounds_toArray, List.set_cons_zero, List.set_cons_succ]
        refine any_take (i := 10) (some 43) (.agg #[.int .i64 k1, .int .i64 n1, .slice v1 v2 v3]) rfl (by rfl) (by kernel_rfl) (by kernel_rfl) (by kernel_rfl) (fun _ _ _ h => h) (Or.inl ⟨by kernel_rfl, (fun W hw => by obtain ⟨x0, x1, x2, x3, x4, x5⟩ := EX.out W hw; clear hw; go_simp)⟩) hS ?_
        simp only [Act.put, List.setIfInBounds_toArray, List.set_cons_zero, List.set_cons_succ]
        refine wpAnyH_all (rs := [11]) (by kernel_rfl) (by simp) fun q' hq' => ?_
        obtain rfl : q' = 11 := by simpa using hq'
        refine ops_call (d := some 44) rfl (by rfl) (by kernel_rfl) (by go_simp) (HEQ.out.mono ?_)
        rintro e w5 ⟨r, rfl, hb5, hO⟩
        have hS5 : Below w2.heap.size w2 w5 := hS.trans hb5
        have HN5 := Lib.hid (And.intro (HNX.out w5 r hO) hS5)
        clear hb5 hO HEQ
        refine ⟨_, rfl, hS5, ?_⟩
        simp only [Act.put, List.setIfInBounds_toArray, List.set_cons_zero, List.set_cons_succ]
        refine wpAnyH_done (by kernel_rfl) ?_ _
        clear hS hS5 EX HNX
        go_wp2_with fail
        go_roundw
        case rel => exact ⟨j + 1, by go_num, HJL.out, HN5.out.1, HN5.out.2⟩
        case measure => have := HJL.out; simp [intOf]; omega
      · have f1 : decide ((j : Int) < (L.length : Int)) = false := decide_eq_false (by omega)
        have hje : j = L.length := by omega
        obtain ⟨cl, st, hU, hcl⟩ := HT.out.1
        rw [hje, List.take_length] at hU hcl
        have HBR := Lib.hid (And.intro HT.out.2 (HV.out.2.trans (HT.out.2.mono HV.out.2.size)))
        have HCL := Lib.hid (close_any wr L (.slice A2 L.length c2) (HV.out.1.later HT.out.2) HLL.out.2.2.1 HLL.out.1 HLL.out.2.1)
        have HU := Lib.hid (And.intro hU hcl)
        have hcl160 := cls_len L
        have hLe := HLL.out.2.1
        have hlenE := cls_len2 L
        obtain ⟨G, hG⟩ : ∃ G, (cls L).1 = G := ⟨_, rfl⟩
        obtain ⟨E, hE⟩ : ∃ E, (cls L).2 = E := ⟨_, rfl⟩
        rw [hG, hE] at HCL
        rw [hG] at hcl160
        have HGE := Lib.hid (And.intro hG (And.intro hE (show G.length ≤ 160 by omega)))
        clear hje hU hcl HT hcl160 hLe hG hE
        go_wp2_with fail
        refine HCL.out.mono ?_
        clear HCL
        rintro e w4 ⟨vm, vs, M, cc, rfl, hR, hs, hrc, hec, hcl, hb4⟩
        obtain ⟨Am, cm, rfl⟩ := hR.1.row.1.form
        obtain ⟨As, cs, rfl⟩ := Un.row_form hs
        have hlen := hR.len
        obtain ⟨N, hN⟩ : ∃ N, M.length = N := ⟨_, rfl⟩
        rw [hN] at hlen
        have hHC : Hid (∀ W, Below w4.heap.size w4 W → Calls Try.prog 14 #[.agg #[.slice Am N cm, .slice As N cs]] W fun e w' => ∃ b : Bool, e = .returned (.bool b) ∧ (b = true ↔ Clash G E) ∧ Below W.heap.size W w') := Lib.hid fun W hW => by
          by_cases h0 : 0 < G.length
          · have := clash_rc _ _ wr.heap.size W (.slice Am M.length cm) (.slice As G.length cs) M G E cc (hR.below hb4.size hW) (own_below hs hW) (by have := HGE.out.2.2; omega) h0 hrc hec hcl
            rw [hN, ← hlen] at this
            exact this
          · have hN0 : N = 0 := by omega
            subst hN0
            refine (rclash_nil W Am As cm cs).mono ?_
            rintro e w' ⟨rfl, hb⟩
            exact ⟨false, rfl, ⟨(fun h => by cases h), (fun ⟨x, _, p, _, _, hp, _⟩ => by have := lt_of_get hp; omega)⟩, hb⟩
        rw [hN, ← hlen]
        have hA4 : AnM (fun b => wr.heap.size ≤ b) wr.heap.size w4 (.slice Am N cm) (.slice As N cs) M cc := by
          refine ⟨?_, fun x hx => (hR.1.nodes x hx).2, ?_⟩
          · have := hR.1.row; rw [hN] at this; rw [hN]; exact this
          · rw [hN, hlen]; rw [← hlen]; rw [hlen]; exact hs
        have HM := Lib.hid (And.intro hA4 (And.intro hrc (And.intro hec (And.intro hcl (And.intro hR.2.1 (And.intro hlen (And.intro hN hR.rows)))))))
        have HB4 := Lib.hid hb4
        clear hR hs hrc hec hcl hb4 hlen hN hA4
        go_upto_region 10 with fail
        refine wp_world (fun Z => Z.heap[w4.heap.size]? = some (Obj.cells #[.slice Am N cm, .slice As N cs] 46) ∧ Below w4.heap.size w4 Z) ⟨heap_alloc_new w4 _, (Below.refl _ _).alloc (Nat.le_refl _) _⟩ ?_
        rintro Z ⟨hz, hbZ⟩
        have hzl := (Array.getElem?_eq_some_iff.1 hz).1
        have z0 : Z.cell? ⟨w4.heap.size, 0, none⟩ = some (.slice Am N cm) := cell_of_row Z _ 0 _ _ (0, 0) hz
        have z1 : Z.cell? ⟨w4.heap.size, 1, none⟩ = some (.slice As N cs) := cell_of_row Z _ 1 _ _ (0, 0) hz
        have HCZ := Lib.hid (hHC.out Z hbZ)
        have HZ := Lib.hid (And.intro hz (And.intro hbZ (HB4.out.trans (hbZ.mono HB4.out.size))))
        clear hz hbZ hHC
        go_wp2_with fail
        refine HCZ.out.mono ?_
        clear HCZ
        rintro e w5 ⟨bb, rfl, hbb, hb5⟩
        have hx5 := (hb5.block _ hzl).trans HZ.out.1
        have HB5 := Lib.hid (And.intro hx5 (And.intro (HZ.out.2.1.trans (hb5.mono HZ.out.2.1.size)) (HZ.out.2.2.trans (hb5.mono HZ.out.2.2.size))))
        clear hb5 hx5 z0 z1 hzl
        cases bb with
        | true =>
          have HW := Lib.hid (HBR.out.2.trans (HB5.out.2.2.mono HBR.out.2.size))
          clear hbb
          go_wp2_with fail
          refine (HAW.out w5).mono ?_
          rintro e w6 ⟨rfl, hb6⟩
          have HB6 := Lib.hid (HW.out.trans (hb6.mono HW.out.size))
          clear hb6
          go_wp2_with fail
          go_ret
          exact ⟨rfl, HB6.out⟩
        | false =>
          have hnc : ¬ Clash G E := fun h => by have := hbb.2 h; cases this
          obtain ⟨hU, hclash⟩ := HU.out
          have hO : OkC w2.heap.size wr c (G, E) L.length st := by
            rcases hU with ⟨_, h⟩ | ⟨rfl, _⟩
            · obtain ⟨Oc, fs, m, J, h1, h2, h3, h4⟩ := h
              rw [HGE.out.1, HGE.out.2.1] at h1
              rw [HGE.out.1] at h2 h3
              exact ⟨Oc, fs, m, J, h1, h2, h3, h4⟩
            · have := hclash rfl
              rw [HGE.out.1, HGE.out.2.1] at this
              exact absurd this hnc
          obtain ⟨Oc, fs, m, J, ⟨⟨A, kn, nx, col, ro, hC, hJs, _, _, _⟩, hGI, hGp⟩, ⟨g1, g2, g3, g4⟩, hJJ, hOb⟩ := hO
          have hfs : fs ≤ 10000000 := by
            have hd : dg G.length ≤ 21 := Un.dg_le (by have := HGE.out.2.2; omega)
            have := mul22 (d := dg G.length) (J := (J : Nat)) (by omega) (by omega) (by omega) (by have := HGE.out.2.2; have := HLL.out.1; show (J : Int) ≤ _; have h := hJJ; dsimp only at h; omega)
            dsimp only at g4
            omega
          have hBo : Both G col ro kn E cc := ⟨hJs, HM.out.2.1, HM.out.2.2.1, HM.out.2.2.2.1, HGE.out.1 ▸ cls_GN L HLL.out.2.2.2, HGE.out.1 ▸ cls_GK L HLL.out.2.2.1, hnc⟩
          have hSw : ∀ k, A.S k → w2.heap.size ≤ k ∧ k < wr.heap.size := fun k hk => ⟨(hOb k (hC.own k (.inr (.inl hk)))).1, hC.lt (.inr (.inl hk))⟩
          have HBo := Lib.hid (And.intro hBo (And.intro hGp (And.intro hSw (And.intro hC (And.intro g3 hfs)))))
          have hA5 : AnM (fun b => wr.heap.size ≤ b) wr.heap.size w5 (.slice Am N cm) (.slice As N cs) M cc := HM.out.1.to (S := fun _ => False) (Else.of_below HB5.out.2.1) (fun k h => h.elim) fun k h => h.elim
          have HVA := Lib.hid (rvars11o w5 (.slice Am N cm) M hA5.row.1 (by have := HM.out.2.2.2.2.2.1; have := HM.out.2.2.2.2.2.2.1; have := HGE.out.2.2; omega))
          rw [HM.out.2.2.2.2.1] at HVA
          have HA5 := Lib.hid hA5
          obtain ⟨y0, y1⟩ : w5.cell? ⟨w4.heap.size, 0, none⟩ = some (.slice Am N cm) ∧ w5.cell? ⟨w4.heap.size, 1, none⟩ = some (.slice As N cs) := ⟨cell_of_row w5 _ 0 _ _ (0, 0) HB5.out.1, cell_of_row w5 _ 1 _ _ (0, 0) HB5.out.1⟩
          clear hbb hnc hU hclash hC hJs hGI hGp g1 g2 g3 g4 hJJ hOb hfs hBo hSw hA5
          go_wp2_with fail
          refine HVA.out.mono ?_
          clear HVA
          rintro e w6 ⟨v6, rfl, ho6, hb6⟩
          obtain ⟨VS, hVS⟩ : ∃ VS, vsort G = VS := ⟨_, rfl⟩
          rw [hVS] at ho6
          obtain ⟨Av, cv, rfl⟩ := Un.row_form ho6
          obtain ⟨n, hn⟩ : ∃ n, VS.length = n := ⟨_, rfl⟩
          rw [hn] at ho6 ⊢
          have hn160 : n ≤ 160 := by have := vsort_len G; rw [hVS, hn] at this; have := HGE.out.2.2; omega
          have h6r : Below wr.heap.size wr w6 := HB5.out.2.2.trans (hb6.mono HB5.out.2.2.size)
          have HW6 := Lib.hid (And.intro h6r (And.intro (HBR.out.2.trans (h6r.mono HBR.out.2.size)) (And.intro hVS (And.intro hn (HBo.out.2.2.2.1.below h6r)))))
          have FA : Hid (∀ W, Else A.S w6 W → AnM (fun b => wr.heap.size ≤ b) wr.heap.size W (.slice Am N cm) (.slice As N cs) M cc) := Lib.hid fun W hE => (HA5.out.to (S := fun _ => False) (Else.of_below hb6) (fun k h => h.elim) fun k h => h.elim).to hE (fun k hk hd => by have := (HBo.out.2.2.1 k hk).2; omega) fun k hk => (HBo.out.2.2.1 k hk).2
          have FB : Hid (∀ W, Else A.S w6 W → W.cell? ⟨w4.heap.size, 0, none⟩ = some (.slice Am N cm) ∧ W.cell? ⟨w4.heap.size, 1, none⟩ = some (.slice As N cs)) := Lib.hid fun W hE => by
            have hl := (Array.getElem?_eq_some_iff.1 HB5.out.1).1
            have hx := (hE.block w4.heap.size (Nat.lt_of_lt_of_le hl hb6.size) fun hk => by have := (HBo.out.2.2.1 _ hk).2; have := HB4.out.size; omega).trans ((hb6.block _ hl).trans HB5.out.1)
            exact ⟨cell_of_row W _ 0 _ _ (0, 0) hx, cell_of_row W _ 1 _ _ (0, 0) hx⟩
          have FV : Hid (∀ W, Else A.S w6 W → W.ownsRow w5.heap.size 3 1 (.slice Av n cv) n (ints VS)) := Lib.hid fun W hE => own_else ho6 hE fun k hk hs => by have h1 := (ho6.lt k hk).1; have := (HBo.out.2.2.1 k hs).2; have := HB5.out.2.2.size; omega
          obtain ⟨dm, hdm⟩ : ∃ dm, deep % 3 = dm := ⟨_, rfl⟩
          have hdm2 : dm ≤ 2 := by omega
          have HPA : Hid (PartsOk Oc c A st G kn nx col ro (fun b => wr.heap.size ≤ b) wr.heap.size (.slice Am N cm) (.slice As N cs) M cc dm) := Lib.hid (parts_any HBo.out.1 HBo.out.2.1 HGE.out.2.2 HM.out.2.2.2.2.1 (by have := HM.out.2.2.2.2.2.1; have := HM.out.2.2.2.2.2.2.1; omega) HM.out.2.2.2.2.2.2.2 (fun k hk hd => by have := (HBo.out.2.2.1 k hk).2; omega) (fun k hk => (HBo.out.2.2.1 k hk).2) dm hdm2)
          have m1 : ((deep : Nat) : Int).tmod 3 = (dm : Nat) := by rw [← hdm]; rfl
          have m2 : IntKind.u8.wrap (dm : Int) = (dm : Nat) := IntWalk.u8_in _ (by omega)
          have m3 : IntKind.i64.wrap (dm : Int) = (dm : Nat) := IntWalk.i64_in _ (by omega)
          have m4 : ((deep : Nat) : Int) % 3 = (dm : Nat) := by omega
          have HMM := Lib.hid (And.intro m1 (And.intro m2 (And.intro m3 (And.intro m4 hdm2))))
          clear hVS hn ho6 hb6 h6r hdm m1 m2 m3 m4 y0 y1
          go_wp2_with fail
          go_loopw [9, 10, 11, 12, 13, 14, 15, 16, 17, 18, 19] (fun s9 _ _ _ _ _ _ _ _ _ _ wz => ∃ i K : Nat, s9 = .int .i64 (i : Nat) ∧ i ≤ n ∧ K ≤ 200000 * i ∧ ClM Oc wz c A st false G.length G kn nx col ro (fs + K) ∧ Else A.S w6 wz) (fun s _ _ _ _ _ _ _ _ _ _ _ => n - (intOf s).toNat)
          case atStart => exact ⟨0, 0, rfl, Nat.zero_le _, Nat.le_refl _, by simpa using HW6.out.2.2.2.2, Else.refl _ _⟩
          case round =>
            obtain ⟨i, K, rfl, hin, hK, hC, hE⟩ := hrel
            generalize wr = wo at *
            have HI := Lib.hid (And.intro hC (And.intro hE hK))
            clear hC hE hK
            by_cases hil : i < n
            · have f1 : decide ((i : Int) < (n : Int)) = true := decide_eq_true (by omega)
              have HIL := Lib.hid hil
              obtain ⟨a, ha⟩ : ∃ a, VS[i]? = some a := ⟨_, List.getElem?_eq_getElem (by rw [HW6.out.2.2.2.1]; exact hil)⟩
              obtain ⟨j, hj, hjv, hjl⟩ := ivar_of (G := G) (a := a) (by rw [HW6.out.2.2.1]; exact List.mem_of_getElem? ha)
              have hwa : (Lit.int .i64 a).wf = true := HBo.out.1.gn.2 a ((gvar_names G a).1 (by rw [hj]; rfl))
              obtain ⟨bv, cvv, hshape, _, _⟩ := Un.own_shape (FV.out wo HI.out.2.1) (by omega)
              injection hshape with hA1 _ hcc1
              subst hA1; subst hcc1
              have EX : Hid (∀ W, Else A.S w6 W → W.cell? ⟨w4.heap.size, 0, none⟩ = some (.slice Am N cm) ∧ W.cell? ⟨w4.heap.size, 1, none⟩ = some (.slice As N cs) ∧ W.cell? ⟨bv, i, none⟩ = some (.int .i64 a)) := Lib.hid fun W hE => by
                obtain ⟨h0, h1⟩ := FB.out W hE
                refine ⟨h0, h1, ?_⟩
                rw [(FV.out W hE).cellAt i (by omega)]
                simp [ints, ha]
              have hdg : dg G.length ≤ 21 := Un.dg_le (by have := HGE.out.2.2; omega)
              have hjr : ro j < G.length := (HBo.out.1.js.rt j hjl).1
              have HJ := Lib.hid (And.intro ha (And.intro hj (And.intro hjv (And.intro hjl (And.intro hwa (And.intro hdg hjr))))))
              have HRV : Hid (∀ W, Else A.S w6 W → Calls Try.prog 16 #[.slice Am N cm, .int .i64 a] W fun e w' => e = .returned (.int .i64 (j : Nat)) ∧ Below W.heap.size W w') := Lib.hid fun W hE => by
                have h := rvar_graph W (.slice Am N cm) M (FA.out W hE).row.1 (by have := HM.out.2.2.2.2.2.1; have := HM.out.2.2.2.2.2.2.1; have := HGE.out.2.2; omega) a
                rw [HM.out.2.2.2.2.1, HJ.out.2.2.1] at h
                exact h
              clear ha hj hjv hjl hwa hdg hjr
              go_wp2_with fail
              have hS : Else A.S w6 wo.drew := Un.Else.drew HI.out.2.1
              refine wp_region_held (S := (fun W => Else A.S w6 W)) (by kernel_rfl) ?_
              change wpAnyH _ _ _ _ _ 8 (List.replicate 8 false).toArray _ wo.drew
              simp only [List.replicate_succ, List.replicate_zero]
              refine any_take (i := 0) (some 59) (.pointer (some ⟨w4.heap.size, 0, none⟩)) rfl (by rfl) (by kernel_rfl) (by kernel_rfl) (by kernel_rfl) (fun _ _ _ h => h) (Or.inl ⟨by kernel_rfl, (fun W hw => by clear hw; go_simp)⟩) hS ?_
              simp only [Act.put, List.setIfInBounds_toArray, List.set_cons_zero, List.set_cons_succ]
              refine any_take (i := 1) (some 60) (.slice Am N cm) rfl (by rfl) (by kernel_rfl) (by kernel_rfl) (by kernel_rfl) (fun _ _ _ h => h) (Or.inl ⟨by kernel_rfl, (fun W hw => by obtain ⟨n0_, n1_, n2_⟩ := EX.out W hw; clear hw; go_simp)⟩) hS ?_
              simp only [Act.put, List.setIfInBounds_toArray, List.set_cons_zero, List.set_cons_succ]
              refine any_take (i := 2) (some 61) (.slice (some ⟨bv, 0, none⟩) n cv) rfl (by rfl) (by kernel_rfl) (by kernel_rfl) (by kernel_rfl) (fun _ _ _ h => h) (Or.inl ⟨by kernel_rfl, (fun W hw => by clear hw; go_simp)⟩) hS ?_
              simp only [Act.put, List.setIfInBounds_toArray, List.set_cons_zero, List.set_cons_succ]
              refine any_take (i := 3) (some 62) (.int .i64 (i : Nat)) rfl (by rfl) (by kernel_rfl) (by kernel_rfl) (by kernel_rfl) (fun _ _ _ h => h) (Or.inl ⟨by kernel_rfl, (fun W hw => by clear hw; go_simp)⟩) hS ?_
              simp only [Act.put, List.setIfInBounds_toArray, List.set_cons_zero, List.set_cons_succ]
              refine any_take (i := 4) (some 63) (.pointer (some ⟨bv, i, none⟩)) rfl (by rfl) (by kernel_rfl) (by kernel_rfl) (by kernel_rfl) (fun _ _ _ h => h) (Or.inl ⟨by kernel_rfl, (fun W hw => by clear hw; go_simp)⟩) hS ?_
              simp only [Act.put, List.setIfInBounds_toArray, List.set_cons_zero, List.set_cons_succ]
              refine any_take (i := 5) (some 64) (.int .i64 a) rfl (by rfl) (by kernel_rfl) (by kernel_rfl) (by kernel_rfl) (fun _ _ _ h => h) (Or.inl ⟨by kernel_rfl, (fun W hw => by obtain ⟨n0_, n1_, n2_⟩ := EX.out W hw; clear hw; go_simp)⟩) hS ?_
              simp only [Act.put, List.setIfInBounds_toArray, List.set_cons_zero, List.set_cons_succ]
              refine wpAnyH_all (rs := [6]) (by kernel_rfl) (by simp) fun q' hq' => ?_
              obtain rfl : q' = 6 := by simpa using hq'
              refine ops_call (d := some 65) rfl (by rfl) (by kernel_rfl) (by go_simp) ((HRV.out _ hS).mono ?_)
              rintro e w8 ⟨rfl, hb8⟩
              have hS8 : Else A.S w6 w8 := hS.trans (Else.of_below hb8)
              refine ⟨_, rfl, hS8, ?_⟩
              simp only [Act.put, List.setIfInBounds_toArray, List.set_cons_zero, List.set_cons_succ]
              refine any_take (i := 7) (some 10) (.int .i64 (j : Nat)) rfl (by rfl) (by kernel_rfl) (by kernel_rfl) (by kernel_rfl) (fun _ _ _ h => h) (Or.inl ⟨by kernel_rfl, (fun W hw => by clear hw; go_simp)⟩) hS8 ?_
              simp only [Act.put, List.setIfInBounds_toArray, List.set_cons_zero, List.set_cons_succ]
              refine wpAnyH_done (by kernel_rfl) ?_ _
              have HQ8 := Lib.hid (And.intro ((HI.out.1.below (Below.refl _ wo).drew).below hb8) hS8)
              have hA8 := FA.out w8 hS8
              obtain ⟨n0_, n1_, n2_⟩ := EX.out w8 hS8
              have HWH := Lib.hid (whole_any w8 M (.slice Am N cm) (.slice As N cs) cc _ hA8.row.1 hA8.col (by have := HM.out.2.2.2.2.2.1; have := HM.out.2.2.2.2.2.2.1; have := HGE.out.2.2; omega) j (by have := HM.out.2.2.2.2.2.1; have := HM.out.2.2.2.2.2.2.1; have := HJ.out.2.2.2.1; omega))
              clear hS hS8 hb8 hA8
              go_wp2_with fail
              refine HWH.out.mono ?_
              clear HWH
              rintro e w9 ⟨rw_, rfl, hrw, hb9⟩
              rw [HM.out.2.2.2.2.1] at hrw
              have HR9 := Lib.hid hrw
              have hS9 : Else A.S w6 w9 := HQ8.out.2.trans (Else.of_below hb9)
              have HQ9 := Lib.hid (And.intro (HQ8.out.1.below hb9) hS9)
              obtain ⟨n0_, n1_, n2_⟩ := EX.out w9 hS9
              have HCP := Lib.hid (cparts_cl HQ9.out.1 (by have := HBo.out.2.2.2.2.1; have := HBo.out.2.2.2.2.2; have := HI.out.2.2; omega) HJ.out.2.2.2.2.2.1 a HJ.out.2.2.2.2.1 j HJ.out.2.1 HJ.out.2.2.2.1 HJ.out.2.2.2.2.2.2 fun p hp => HBo.out.2.1 p hp)
              clear hrw hS9 hb9
              go_wp2_with fail
              refine HCP.out.mono ?_
              clear HCP
              rintro e w10 ⟨vv, b, k10, rfl, hk10, hC10, hE10, hcase⟩
              obtain ⟨Q, hQ, hQc⟩ := cpost_cases HBo.out.1 HJ.out.2.2.2.1 HR9.out hcase
              obtain ⟨Ap, cp, rfl, _, _⟩ := Un.own_form hQ
              have HQ10 := Lib.hid (And.intro hC10 (And.intro (HQ9.out.2.trans hE10) (And.intro hk10 (And.intro hQ hQc))))
              obtain ⟨n0_, n1_, n2_⟩ := EX.out w10 HQ10.out.2.1
              obtain ⟨q, hq⟩ : ∃ q, Q.length = q := ⟨_, rfl⟩
              have HQL := Lib.hid hq
              rw [hq]
              clear hC10 hE10 hk10 hQ hcase hq
              go_upto_region 19 with fail
              go_cut [105] from 78 to 105 (fun s105 wx => s105 = .bool false ∧ wx = w10)
              case first =>
                rcases hQc with ⟨rfl, rfl, rfl⟩ | ⟨rfl, k, p, rfl, hp, rfl⟩
                · obtain rfl : q = 0 := HQL.out.symm
                  go_wp2_with fail
                  go_meet
                  exact ⟨rfl, rfl⟩
                · have hkG := lt_of_get hp
                  have hkM : k < M.length := by have := HM.out.2.2.2.2.2.1; have := HM.out.2.2.2.2.2.2.1; omega
                  have hA10 := FA.out w10 HQ10.out.2.1
                  obtain ⟨b1, o1, cap1, hv1, _, _, _, _⟩ := hA10.row.1.2.resolve_left (by rintro ⟨h, _⟩; omega)
                  injection hv1 with hA1 hN1 hcc1
                  subst hA1; subst hcc1
                  clear hN1
                  obtain ⟨⟨P1, P2, P3⟩, hRR⟩ : ∃ R, M[k].2 = R := ⟨_, rfl⟩
                  obtain ⟨hP2, hcell, _⟩ := hA10.node HM.out.2.2.2.2.2.2.2 k hkM rfl _ hRR p (by rw [HM.out.2.2.2.2.1]; exact hp)
                  dsimp only [slv] at hcell hP2
                  have hkN : k < N := by have := HM.out.2.2.2.2.2.1; omega
                  have hqP : P2 = q := by have := HQL.out; omega
                  subst hqP
                  have t4 : decide (0 ≤ (k : Int)) = true := decide_eq_true (by omega)
                  have t6 : ((P2 : Int) != (P2 : Int)) = false := by simp
                  clear hA10 hRR hP2 hp hkM hkG
                  go_wp2_with fail
                  go_meet
                  exact ⟨rfl, rfl⟩
              case rest =>
                obtain ⟨rfl, hwc⟩ := hcut
                have hwc := hwc.symm
                subst hwc
                clear hQc n0_ n1_ n2_
                have h9d : 200 * 9 ^ dm ≤ 16200 := by
                  have : 9 ^ dm ≤ 9 ^ 2 := Nat.pow_le_pow_right (by omega) HMM.out.2.2.2.2
                  omega
                have H9D := Lib.hid h9d
                have hq8 : q ≤ 8 := by
                  have h1 := HQL.out
                  rcases HQ10.out.2.2.2.2 with ⟨_, _, h⟩ | ⟨_, k, p, _, hp, h⟩
                  · rw [h] at h1; simp at h1; omega
                  · have := (HBo.out.2.1 p (List.mem_of_getElem? hp)).1; rw [h] at h1; omega
                clear h9d
                go_wp2_with fail
                go_loopw [14] (fun s14 wz => ∃ j3 kk : Nat, s14 = .int .i64 (j3 : Nat) ∧ j3 ≤ q ∧ kk ≤ j3 * 16200 ∧ ClM Oc wz c A st false G.length G kn nx col ro (fs + K + k10 + kk) ∧ Else A.S w10 wz) (fun s _ => q - (intOf s).toNat)
                case atStart => exact ⟨0, 0, rfl, Nat.zero_le _, by simp, by simpa using HQ10.out.1, Else.refl _ _⟩
                case round =>
                  obtain ⟨j3, kk, rfl, hj3, hkk, hC, hE⟩ := hrel
                  have HT := Lib.hid (And.intro hC (And.intro hE hkk))
                  clear hC hE hkk
                  by_cases hjl : j3 < q
                  · have f2 : decide ((j3 : Int) < (q : Int)) = true := decide_eq_true (by omega)
                    have HJL := Lib.hid hjl
                    have hcs := HQ10.out.2.2.2.2
                    have hvp := HQ10.out.2.2.2.1
                    rw [HQL.out] at hvp
                    rcases hcs with ⟨_, _, h0⟩ | ⟨rfl, k, p, rfl, hp, hQp⟩
                    · have := HQL.out; rw [h0] at this; simp at this; omega
                    · obtain ⟨y, hy⟩ : ∃ y, p.2.2.2[j3]? = some y := ⟨_, List.getElem?_eq_getElem (by have := HQL.out; rw [hQp] at this; omega)⟩
                      have hyG : y < G.length := (HBo.out.2.1 p (List.mem_of_getElem? hp)).2 y (List.mem_of_getElem? hy)
                      have hry : (Q.map ro)[j3]? = some (ro y) := by rw [hQp, List.getElem?_map, hy]; rfl
                      obtain ⟨q2, hq2⟩ : ∃ q, ro y = q := ⟨_, rfl⟩
                      rw [hq2] at hry
                      obtain ⟨gp, cpp, hsh, _, hgl⟩ := Un.own_shape hvp (by omega)
                      injection hsh with hA2 _ hcc2
                      subst hA2; subst hcc2
                      have hgS : ¬ A.S gp := fun hs => by have h1 := (hvp.lt gp rfl).1; have h2 := (HBo.out.2.2.1 gp hs).2; have := HW6.out.1.size; have := HQ9.out.2.size; omega
                      obtain ⟨q0, q1⟩ := ptC_at c (Q.map ro) j3 q2 hry
                      have hkM : k < M.length := by have := lt_of_get hp; have := HM.out.2.2.2.2.2.1; have := HM.out.2.2.2.2.2.2.1; omega
                      have hpM : (gM M)[k]? = some p := by rw [HM.out.2.2.2.2.1]; exact hp
                      have hAr := FA.out wr (HQ10.out.2.1.trans HT.out.2.1)
                      obtain ⟨b1, o1, cap1, hv1, _, _, _, _⟩ := hAr.row.1.2.resolve_left (by rintro ⟨h, _⟩; omega)
                      injection hv1 with hA1 hN1 hcc1
                      subst hA1; subst hcc1
                      clear hN1
                      obtain ⟨⟨R1, R2, R3⟩, hRR⟩ : ∃ R, M[k].2 = R := ⟨_, rfl⟩
                      obtain ⟨hR2, _, hprt⟩ := hAr.node HM.out.2.2.2.2.2.2.2 k hkM rfl _ hRR p hpM
                      obtain ⟨bp, op, hR1, _⟩ := hprt j3 y hy
                      dsimp only [slv] at hR2 hR1
                      subst hR1
                      have hRq : R2 = q := by have := HQL.out; rw [hQp] at this; omega
                      subst hRq
                      have EY : Hid (∀ W, Else A.S w10 W → W.cell? ⟨w4.heap.size, 0, none⟩ = some (.slice (some ⟨b1, o1, none⟩) N cm) ∧ W.cell? ⟨w4.heap.size, 1, none⟩ = some (.slice As N cs) ∧ W.cell? ⟨gp, j3 * 2, none⟩ = some (.pointer (some ⟨c, 0, none⟩)) ∧ W.cell? ⟨gp, j3 * 2 + 1, none⟩ = some (.int .i64 (q2 : Nat)) ∧ W.cell? ⟨b1, o1 + k * 4 + 3, none⟩ = some (.slice (some ⟨bp, op, none⟩) R2 R3) ∧ W.cell? ⟨bp, op + j3, none⟩ = some (.int .i64 (y : Nat))) := Lib.hid fun W hE => by
                        obtain ⟨h2, h3, _⟩ := EX.out W (HQ10.out.2.1.trans hE)
                        have hv := own_else hvp hE fun k hk => by cases hk; exact hgS
                        have hAW := FA.out W (HQ10.out.2.1.trans hE)
                        obtain ⟨_, hcW, hpW⟩ := hAW.node HM.out.2.2.2.2.2.2.2 k hkM rfl _ hRR p hpM
                        obtain ⟨b', o', hR1, hyW⟩ := hpW j3 y hy
                        dsimp only [slv] at hcW hR1
                        cases hR1
                        exact ⟨h2, h3, (hv.cellAt (j3 * 2) (by omega)).trans q0, (hv.cellAt (j3 * 2 + 1) (by omega)).trans q1, hcW, hyW⟩
                      have hfb : 0 ≤ fs + (K : Int) + (k10 : Int) + (kk : Int) ∧ fs + (K : Int) + (k10 : Int) + (kk : Int) + 100000 * (dm : Nat) ≤ 1000000000 := by
                        have h1 := HBo.out.2.2.2.2.1
                        have h2 := HBo.out.2.2.2.2.2
                        have h3 := HI.out.2.2
                        have h4 := HT.out.2.2
                        have h5 := HQ10.out.2.2.1
                        have h6 := HMM.out.2.2.2.2
                        omega
                      have HIC := Lib.hid (HPA.out wr.drew y (fs + K + k10 + kk) hyG (HT.out.1.below (Below.refl _ wr).drew) hfb.1 hfb.2 (FA.out _ (HQ10.out.2.1.trans (Un.Else.drew HT.out.2.1))))
                      rw [hq2] at HIC
                      have HIC2 := Lib.hid (show Calls _ _ #[.agg #[.pointer (some ⟨c, 0, none⟩), .int .i64 (q2 : Nat)], .agg #[.slice (some ⟨b1, o1, none⟩) N cm, .slice As N cs], .int .i64 (y : Nat), .int .i64 (dm : Nat)] _ _ from HIC.out)
                      obtain ⟨m1, m2, m3, m4, _⟩ := HMM.out
                      have hkN : k < N := by have := HM.out.2.2.2.2.2.2.1; omega
                      clear hp hQp hy hyG hry hq2 hvp hgl hgS q0 q1 hkM hpM hAr hRR hR2 hprt hfb HIC
                      go_wp2_with fail
                      have hS : Else A.S w10 wr.drew := Un.Else.drew HT.out.2.1
                      refine wp_region_held (S := (fun W => Else A.S w10 W)) (by kernel_rfl) ?_
                      change wpAnyH _ _ _ _ _ 19 (List.replicate 19 false).toArray _ wr.drew
                      simp only [List.replicate_succ, List.replicate_zero]
                      refine any_take (i := 0) (some 112) (.slice (some ⟨gp, 0, none⟩) R2 cp) rfl (by rfl) (by kernel_rfl) (by kernel_rfl) (by kernel_rfl) (fun _ _ _ h => h) (Or.inl ⟨by kernel_rfl, (fun W hw => by clear hw; go_simp)⟩) hS ?_
                      simp only [Act.put, List.setIfInBounds_toArray, List.set_cons_zero, List.set_cons_succ]
                      refine any_take (i := 1) (some 113) (.int .i64 (j3 : Nat)) rfl (by rfl) (by kernel_rfl) (by kernel_rfl) (by kernel_rfl) (fun _ _ _ h => h) (Or.inl ⟨by kernel_rfl, (fun W hw => by clear hw; go_simp)⟩) hS ?_
                      simp only [Act.put, List.setIfInBounds_toArray, List.set_cons_zero, List.set_cons_succ]
                      refine any_take (i := 2) (some 114) (.pointer (some ⟨gp, j3 * 2, none⟩)) rfl (by rfl) (by kernel_rfl) (by kernel_rfl) (by kernel_rfl) (fun _ _ _ h => h) (Or.inl ⟨by kernel_rfl, (fun W hw => by clear hw; go_simp)⟩) hS ?_
                      simp only [Act.put, List.setIfInBounds_toArray, List.set_cons_zero, List.set_cons_succ]
                      refine any_take (i := 3) (some 115) (.agg #[.pointer (some ⟨c, 0, none⟩), .int .i64 (q2 : Nat)]) rfl (by rfl) (by kernel_rfl) (by kernel_rfl) (by kernel_rfl) (fun _ _ _ h => h) (Or.inl ⟨by kernel_rfl, (fun W hw => by obtain ⟨n0_, n1_, n2_, n3_, n4_, n5_⟩ := EY.out W hw; clear hw; go_simp)⟩) hS ?_
                      simp only [Act.put, List.setIfInBounds_toArray, List.set_cons_zero, List.set_cons_succ]
                      refine any_take (i := 4) (some 116) (.agg #[.slice (some ⟨b1, o1, none⟩) N cm, .slice As N cs]) rfl (by rfl) (by kernel_rfl) (by kernel_rfl) (by kernel_rfl) (fun _ _ _ h => h) (Or.inl ⟨by kernel_rfl, (fun W hw => by obtain ⟨n0_, n1_, n2_, n3_, n4_, n5_⟩ := EY.out W hw; clear hw; go_simp)⟩) hS ?_
                      simp only [Act.put, List.setIfInBounds_toArray, List.set_cons_zero, List.set_cons_succ]
                      refine any_take (i := 5) (some 117) (.pointer (some ⟨w4.heap.size, 0, none⟩)) rfl (by rfl) (by kernel_rfl) (by kernel_rfl) (by kernel_rfl) (fun _ _ _ h => h) (Or.inl ⟨by kernel_rfl, (fun W hw => by clear hw; go_simp)⟩) hS ?_
                      simp only [Act.put, List.setIfInBounds_toArray, List.set_cons_zero, List.set_cons_succ]
                      refine any_take (i := 6) (some 118) (.slice (some ⟨b1, o1, none⟩) N cm) rfl (by rfl) (by kernel_rfl) (by kernel_rfl) (by kernel_rfl) (fun _ _ _ h => h) (Or.inl ⟨by kernel_rfl, (fun W hw => by obtain ⟨n0_, n1_, n2_, n3_, n4_, n5_⟩ := EY.out W hw; clear hw; go_simp)⟩) hS ?_
                      simp only [Act.put, List.setIfInBounds_toArray, List.set_cons_zero, List.set_cons_succ]
                      refine any_take (i := 7) (some 119) (.int .i64 (k : Nat)) rfl (by rfl) (by kernel_rfl) (by kernel_rfl) (by kernel_rfl) (fun _ _ _ h => h) (Or.inl ⟨by kernel_rfl, (fun W hw => by clear hw; go_simp)⟩) hS ?_
                      simp only [Act.put, List.setIfInBounds_toArray, List.set_cons_zero, List.set_cons_succ]
                      refine any_take (i := 8) (some 120) (.pointer (some ⟨b1, o1 + k * 4, none⟩)) rfl (by rfl) (by kernel_rfl) (by kernel_rfl) (by kernel_rfl) (fun _ _ _ h => h) (Or.inl ⟨by kernel_rfl, (fun W hw => by clear hw; go_simp)⟩) hS ?_
                      simp only [Act.put, List.setIfInBounds_toArray, List.set_cons_zero, List.set_cons_succ]
                      refine any_take (i := 9) (some 121) (.pointer (some ⟨b1, o1 + k * 4 + 3, none⟩)) rfl (by rfl) (by kernel_rfl) (by kernel_rfl) (by kernel_rfl) (fun _ _ _ h => h) (Or.inl ⟨by kernel_rfl, (fun W hw => by clear hw; go_simp)⟩) hS ?_
                      simp only [Act.put, List.setIfInBounds_toArray, List.set_cons_zero, List.set_cons_succ]
                      refine any_take (i := 10) (some 122) (.slice (some ⟨bp, op, none⟩) R2 R3) rfl (by rfl) (by kernel_rfl) (by kernel_rfl) (by kernel_rfl) (fun _ _ _ h => h) (Or.inl ⟨by kernel_rfl, (fun W hw => by obtain ⟨n0_, n1_, n2_, n3_, n4_, n5_⟩ := EY.out W hw; clear hw; go_simp)⟩) hS ?_
                      simp only [Act.put, List.setIfInBounds_toArray, List.set_cons_zero, List.set_cons_succ]
                      refine any_take (i := 11) (some 123) (.int .i64 (j3 : Nat)) rfl (by rfl) (by kernel_rfl) (by kernel_rfl) (by kernel_rfl) (fun _ _ _ h => h) (Or.inl ⟨by kernel_rfl, (fun W hw => by clear hw; go_simp)⟩) hS ?_
                      simp only [Act.put, List.setIfInBounds_toArray, List.set_cons_zero, List.set_cons_succ]
                      refine any_take (i := 12) (some 124) (.pointer (some ⟨bp, op + j3, none⟩)) rfl (by rfl) (by kernel_rfl) (by kernel_rfl) (by kernel_rfl) (fun _ _ _ h => h) (Or.inl ⟨by kernel_rfl, (fun W hw => by clear hw; go_simp)⟩) hS ?_
                      simp only [Act.put, List.setIfInBounds_toArray, List.set_cons_zero, List.set_cons_succ]
                      refine any_take (i := 13) (some 125) (.int .i64 (y : Nat)) rfl (by rfl) (by kernel_rfl) (by kernel_rfl) (by kernel_rfl) (fun _ _ _ h => h) (Or.inl ⟨by kernel_rfl, (fun W hw => by obtain ⟨n0_, n1_, n2_, n3_, n4_, n5_⟩ := EY.out W hw; clear hw; go_simp)⟩) hS ?_
                      simp only [Act.put, List.setIfInBounds_toArray, List.set_cons_zero, List.set_cons_succ]
                      refine any_take (i := 14) (some 126) (.int .u8 (deep : Nat)) rfl (by rfl) (by kernel_rfl) (by kernel_rfl) (by kernel_rfl) (fun _ _ _ h => h) (Or.inl ⟨by kernel_rfl, (fun W hw => by clear hw; go_simp)⟩) hS ?_
                      simp only [Act.put, List.setIfInBounds_toArray, List.set_cons_zero, List.set_cons_succ]
                      refine any_take (i := 15) (some 127) (.int .u8 (dm : Nat)) rfl (by rfl) (by kernel_rfl) (by kernel_rfl) (by kernel_rfl) (fun _ _ _ h => h) (Or.inl ⟨by kernel_rfl, (fun W hw => by clear hw; go_simp)⟩) hS ?_
                      simp only [Act.put, List.setIfInBounds_toArray, List.set_cons_zero, List.set_cons_succ]
                      refine any_take (i := 16) (some 128) (.int .i64 (dm : Nat)) rfl (by rfl) (by kernel_rfl) (by kernel_rfl) (by kernel_rfl) (fun _ _ _ h => h) (Or.inl ⟨by kernel_rfl, (fun W hw => by clear hw; go_simp)⟩) hS ?_
                      simp only [Act.put, List.setIfInBounds_toArray, List.set_cons_zero, List.set_cons_succ]
                      refine wpAnyH_all (rs := [17]) (by kernel_rfl) (by simp) fun q' hq' => ?_
                      obtain rfl : q' = 17 := by simpa using hq'
                      refine ops_call (d := some 129) rfl (by rfl) (by kernel_rfl) (by go_simp) (HIC2.out.mono ?_)
                      rintro e w11 ⟨k11, rfl, hk11, hC11, hE11⟩
                      have hS11 : Else A.S w10 w11 := hS.trans hE11
                      have HF := Lib.hid (And.intro hk11 (And.intro hC11 hS11))
                      clear hk11 hC11 hE11 HIC2
                      refine ⟨_, rfl, hS11, ?_⟩
                      simp only [Act.put, List.setIfInBounds_toArray, List.set_cons_zero, List.set_cons_succ]
                      refine any_take (i := 18) (some 130) (.bool false) rfl (by rfl) (by kernel_rfl) (by kernel_rfl) (by kernel_rfl) (fun _ _ _ h => h) (Or.inl ⟨by kernel_rfl, (fun W hw => by clear hw; go_simp)⟩) hS11 ?_
                      simp only [Act.put, List.setIfInBounds_toArray, List.set_cons_zero, List.set_cons_succ]
                      refine wpAnyH_done (by kernel_rfl) ?_ _
                      clear hS hS11 EY m1 m2 m3 m4
                      go_wp2_with fail
                      go_roundw
                      case rel =>
                        refine ⟨j3 + 1, kk + k11, by go_num, HJL.out, ?_, ?_, HF.out.2.2⟩
                        · have h1 := HF.out.1
                          have h2 := HT.out.2.2
                          have h3 := H9D.out
                          omega
                        · have e : fs + (K : Int) + (k10 : Int) + ((kk + k11 : Nat) : Int) = fs + (K : Nat) + (k10 : Nat) + (kk : Nat) + (k11 : Nat) := by push_cast; omega
                          rw [e]
                          exact HF.out.2.1
                      case measure => have := HJL.out; simp [intOf]; omega
                  · have f2 : decide ((j3 : Int) < (q : Int)) = false := decide_eq_false (by omega)
                    have hkkb : kk ≤ 8 * 16200 := by have := HT.out.2.2; omega
                    have HT3 := Lib.hid (And.intro HT.out.1 (And.intro (HQ10.out.2.1.trans HT.out.2.1) hkkb))
                    clear hkkb HT
                    obtain ⟨rj, hrj⟩ : ∃ rj, ro j = rj := ⟨_, rfl⟩
                    have HPT := cpart_cl HT3.out.1 (by have := HBo.out.2.2.2.2.1; have := HBo.out.2.2.2.2.2; have := HI.out.2.2; have := HQ10.out.2.2.1; have := HT3.out.2.2; omega) a HJ.out.2.2.2.2.1 (fun z hz => by rw [HJ.out.2.1] at hz; cases hz; exact HJ.out.2.2.2.1)
                    rw [HJ.out.2.1] at HPT
                    dsimp only at HPT
                    rw [hrj] at HPT
                    simp only [ptV, Option.map_some] at HPT
                    have HPTH := Lib.hid HPT
                    have HRJ := Lib.hid hrj
                    obtain ⟨n0_, n1_, n2_⟩ := EX.out wr HT3.out.2.1
                    clear HPT hrj
                    go_wp2_with fail
                    refine HPTH.out.mono ?_
                    clear HPTH
                    rintro e w12 ⟨k12, rfl, hk12, hC12, hE12⟩
                    have hE12w : Else A.S w6 w12 := HT3.out.2.1.trans hE12
                    have H12 := Lib.hid (And.intro hk12 (And.intro hC12 hE12w))
                    clear hk12 hC12 hE12 hE12w n0_ n1_ n2_
                    go_upto_region 27 with fail
                    refine wp_world (fun Y => Y.heap[w12.heap.size]? = some (Obj.cells #[.pointer (some ⟨c, 0, none⟩), .int .i64 (rj : Nat)] 57) ∧ Below w12.heap.size w12 Y) ⟨heap_alloc_new w12 _, (Below.refl _ _).alloc (Nat.le_refl _) _⟩ ?_
                    rintro Y ⟨hy, hbY⟩
                    have hyl := (Array.getElem?_eq_some_iff.1 hy).1
                    have x0 : Y.cell? ⟨w12.heap.size, 0, none⟩ = some (.pointer (some ⟨c, 0, none⟩)) := cell_of_row Y _ 0 _ _ (0, 0) hy
                    have x1 : Y.cell? ⟨w12.heap.size, 1, none⟩ = some (.int .i64 (rj : Nat)) := cell_of_row Y _ 1 _ _ (0, 0) hy
                    have hEY : Else A.S w6 Y := H12.out.2.2.trans (Else.of_below hbY)
                    obtain ⟨n0_, n1_, n2_⟩ := EX.out Y hEY
                    have HIC := HPA.out Y j (fs + K + k10 + kk + k12) HJ.out.2.2.2.1 (H12.out.2.1.below hbY) (by have := HBo.out.2.2.2.2.1; omega) (by have := HBo.out.2.2.2.2.2; have := HI.out.2.2; have := HQ10.out.2.2.1; have := HT3.out.2.2; have := H12.out.1; have := HJ.out.2.2.2.2.2.1; have := HMM.out.2.2.2.2; omega) (FA.out Y hEY)
                    rw [HRJ.out] at HIC
                    have HIC2 := Lib.hid (show Calls _ _ #[.agg #[.pointer (some ⟨c, 0, none⟩), .int .i64 (rj : Nat)], .agg #[.slice Am N cm, .slice As N cs], .int .i64 (j : Nat), .int .i64 (dm : Nat)] _ _ from HIC)
                    have HY := Lib.hid (And.intro hy (And.intro hbY hEY))
                    obtain ⟨m1, m2, m3, m4, _⟩ := HMM.out
                    clear hy hbY hEY HIC hyl
                    go_wp2_with fail
                    refine HIC2.out.mono ?_
                    clear HIC2
                    rintro e w13 ⟨k13, rfl, hk13, hC13, hE13⟩
                    have hE13w : Else A.S w6 w13 := HY.out.2.2.trans hE13
                    have hyS : ¬ A.S w12.heap.size := fun hs => by have := (HBo.out.2.2.1 _ hs).2; have := HW6.out.1.size; have := H12.out.2.2.size; omega
                    have hx13 : w13.heap[w12.heap.size]? = some (Obj.cells #[.pointer (some ⟨c, 0, none⟩), .int .i64 (rj : Nat)] 57) := (hE13.block _ (Array.getElem?_eq_some_iff.1 HY.out.1).1 hyS).trans HY.out.1
                    obtain ⟨F, hF⟩ : ∃ F : Int, fs + (K : Int) + (k10 : Int) + (kk : Int) + (k12 : Int) + (k13 : Int) = F := ⟨_, rfl⟩
                    rw [hF] at hC13
                    have hFb : 0 ≤ F ∧ F ≤ 100000000 := by have := HBo.out.2.2.2.2.1; have := HBo.out.2.2.2.2.2; have := HI.out.2.2; have := HQ10.out.2.2.1; have := HT3.out.2.2; have := H12.out.1; have := HJ.out.2.2.2.2.2.1; have := H9D.out; omega
                    have H13 := Lib.hid (And.intro (Nat.le_trans hk13 H9D.out) (And.intro hC13 (And.intro hE13w (And.intro hx13 (And.intro hyS (And.intro hF hFb))))))
                    clear hk13 hC13 hE13 hE13w hyS hx13 hF hFb m1 m2 m3 m4 x0 x1 n0_ n1_ n2_
                    go_wp2_with fail
                    go_loopw [17, 18, 19] (fun s17 _ _ wz => ∃ j4 kk4 : Nat, s17 = .int .i64 (j4 : Nat) ∧ j4 ≤ n ∧ kk4 ≤ 63 * j4 ∧ ClM Oc wz c A st false G.length G kn nx col ro (F + kk4) ∧ Else A.S w13 wz) (fun s _ _ _ => n - (intOf s).toNat)
                    case atStart => exact ⟨0, 0, rfl, Nat.zero_le _, Nat.le_refl _, by simpa using H13.out.2.1, Else.refl _ _⟩
                    case round =>
                      obtain ⟨j4, kk4, rfl, hj4, hkk4, hC, hE⟩ := hrel
                      have HT := Lib.hid (And.intro hC (And.intro hE hkk4))
                      clear hC hE hkk4
                      by_cases hjl : j4 < n
                      · have f3 : decide ((j4 : Int) < (n : Int)) = true := decide_eq_true (by omega)
                        have HJL := Lib.hid hjl
                        obtain ⟨a2, ha2⟩ : ∃ a, VS[j4]? = some a := ⟨_, List.getElem?_eq_getElem (by rw [HW6.out.2.2.2.1]; exact hjl)⟩
                        obtain ⟨j2, hj2, hjv2, hjl2⟩ := ivar_of (G := G) (a := a2) (by rw [HW6.out.2.2.1]; exact List.mem_of_getElem? ha2)
                        have hwa2 : (Lit.int .i64 a2).wf = true := HBo.out.1.gn.2 a2 ((gvar_names G a2).1 (by rw [hj2]; rfl))
                        obtain ⟨rj2, hrj2⟩ : ∃ rj, ro j2 = rj := ⟨_, rfl⟩
                        have HPT := cpart_cl HT.out.1 (by have := H13.out.2.2.2.2.2.2; have := HT.out.2.2; omega) a2 hwa2 (fun z hz => by rw [hj2] at hz; cases hz; exact hjl2)
                        rw [hj2] at HPT
                        dsimp only at HPT
                        rw [hrj2] at HPT
                        simp only [ptV, Option.map_some] at HPT
                        have HPTH := Lib.hid HPT
                        have EA : Hid (∀ W, Else A.S w6 W → W.cell? ⟨bv, i, none⟩ = some (.int .i64 a) ∧ W.cell? ⟨bv, j4, none⟩ = some (.int .i64 a2)) := Lib.hid fun W hE => by
                          refine ⟨(EX.out W hE).2.2, ?_⟩
                          rw [(FV.out W hE).cellAt j4 (by omega)]
                          simp [ints, ha2]
                        have n3_ := (EA.out wr (H13.out.2.2.1.trans HT.out.2.1)).2
                        have HJ2 := Lib.hid (And.intro hj2 (And.intro hjl2 (And.intro hwa2 hrj2)))
                        clear ha2 hj2 hjv2 hjl2 hwa2 hrj2 HPT
                        go_wp2_with fail
                        refine HPTH.out.mono ?_
                        clear HPTH
                        rintro e w14 ⟨k14, rfl, hk14, hC14, hE14⟩
                        have H14 := Lib.hid (And.intro hk14 (And.intro hC14 (HT.out.2.1.trans hE14)))
                        clear hk14 hC14 hE14 n3_
                        go_upto_region 33 with fail
                        refine wp_world (fun X => X.heap[w14.heap.size]? = some (Obj.cells #[.pointer (some ⟨c, 0, none⟩), .int .i64 (rj2 : Nat)] 57) ∧ Below w14.heap.size w14 X) ⟨heap_alloc_new w14 _, (Below.refl _ _).alloc (Nat.le_refl _) _⟩ ?_
                        rintro X ⟨hx, hbX⟩
                        have hE13X : Else A.S w13 X := H14.out.2.2.trans (Else.of_below hbX)
                        have hxS : ¬ A.S w14.heap.size := fun hs => by have := (HBo.out.2.2.1 _ hs).2; have := HW6.out.1.size; have := H13.out.2.2.1.size; have := H14.out.2.2.size; omega
                        have EZ : Hid (∀ W, Else A.S X W → W.cell? ⟨w14.heap.size, 0, none⟩ = some (.pointer (some ⟨c, 0, none⟩)) ∧ W.cell? ⟨w14.heap.size, 1, none⟩ = some (.int .i64 (rj2 : Nat)) ∧ W.cell? ⟨w12.heap.size, 0, none⟩ = some (.pointer (some ⟨c, 0, none⟩)) ∧ W.cell? ⟨w12.heap.size, 1, none⟩ = some (.int .i64 (rj : Nat)) ∧ W.cell? ⟨bv, i, none⟩ = some (.int .i64 a) ∧ W.cell? ⟨bv, j4, none⟩ = some (.int .i64 a2)) := Lib.hid fun W hE => by
                          have h1 := (hE.block _ (Array.getElem?_eq_some_iff.1 hx).1 hxS).trans hx
                          have h2 := ((hE13X.trans hE).block _ (Array.getElem?_eq_some_iff.1 H13.out.2.2.2.1).1 H13.out.2.2.2.2.1).trans H13.out.2.2.2.1
                          obtain ⟨h3, h4⟩ := EA.out W (H13.out.2.2.1.trans (hE13X.trans hE))
                          exact ⟨cell_of_row W _ 0 _ _ (0, 0) h1, cell_of_row W _ 1 _ _ (0, 0) h1, cell_of_row W _ 0 _ _ (0, 0) h2, cell_of_row W _ 1 _ _ (0, 0) h2, h3, h4⟩
                        have HX := Lib.hid (And.intro (H14.out.2.1.below hbX) hE13X)
                        have HID : Hid (∀ W, Below X.heap.size X W → ∀ r : Nat, Calls Try.prog 21 #[.agg #[.pointer (some ⟨c, 0, none⟩), .int .i64 (r : Nat)]] W fun e w' => e = .returned (.int .i64 (r : Nat)) ∧ Below W.heap.size W w') := Lib.hid fun W hW r => pid_cl (HX.out.1.below hW) r
                        obtain ⟨bb, hbb⟩ : ∃ bb, (rj2 == rj) = bb := ⟨_, rfl⟩
                        have e1 : ((rj2 : Int) == (rj : Int)) = bb := by rw [← hbb, Bool.eq_iff_iff, beq_iff_eq, beq_iff_eq]; omega
                        have hsm : ((rootV G ro a).isSome && (rootV G ro a2).isSome && rootV G ro a == rootV G ro a2) = bb := by
                          unfold rootV
                          rw [HJ.out.2.1, HJ2.out.1]
                          simp only [Option.map_some, Option.isSome_some, Bool.true_and]
                          rw [HRJ.out, HJ2.out.2.2.2, ← hbb, Bool.eq_iff_iff, beq_iff_eq, beq_iff_eq]
                          simp only [Option.some.injEq]
                          exact eq_comm
                        have HSM : Hid (∀ W, Below X.heap.size X W → Calls Try.prog 22 #[.pointer (some ⟨c, 0, none⟩), .int .i64 a, .int .i64 a2] W fun e w' => ∃ k : Nat, e = .returned (.bool bb) ∧ k ≤ 42 ∧ ClM Oc w' c A st false G.length G kn nx col ro (F + kk4 + k14 + k) ∧ Else A.S W w') := Lib.hid fun W hW => by
                          refine (same_cl (HX.out.1.below hW) (by have := H13.out.2.2.2.2.2.2; have := HT.out.2.2; have := H14.out.1; have := HJ.out.2.2.2.2.2.1; omega) HJ.out.2.2.2.2.2.1 a a2 HJ.out.2.2.2.2.1 HJ2.out.2.2.1 (fun z hz => by rw [HJ.out.2.1] at hz; cases hz; exact HJ.out.2.2.2.1) (fun z hz => by rw [HJ2.out.1] at hz; cases hz; exact HJ2.out.2.1)).mono ?_
                          rintro e w' ⟨k, rfl, hk, hC, hE⟩
                          exact ⟨k, by rw [hsm], by have := HJ.out.2.2.2.2.2.1; omega, hC, hE⟩
                        have HSMH := Lib.hid HSM.out
                        clear hx hbX hE13X hxS hbb hsm HSM
                        go_wp2_with fail
                        have hB0 : Below X.heap.size X X.drew := (Below.refl _ _).drew
                        have hS : Else A.S X X.drew := Else.of_below hB0
                        refine wp_region_held (S := (fun W => Else A.S X W)) (by kernel_rfl) ?_
                        change wpAnyH _ _ _ _ _ 16 (List.replicate 16 false).toArray _ X.drew
                        simp only [List.replicate_succ, List.replicate_zero]
                        refine any_take (i := 0) (some 167) (.agg #[.pointer (some ⟨c, 0, none⟩), .int .i64 (rj2 : Nat)]) rfl (by rfl) (by kernel_rfl) (by kernel_rfl) (by kernel_rfl) (fun _ _ _ h => h) (Or.inl ⟨by kernel_rfl, (fun W hw => by obtain ⟨n0_, n1_, n2_, n3_, n4_, n5_⟩ := EZ.out W hw; clear hw; go_simp)⟩) hS ?_
                        simp only [Act.put, List.setIfInBounds_toArray, List.set_cons_zero, List.set_cons_succ]
                        refine any_take (i := 2) (some 169) (.agg #[.pointer (some ⟨c, 0, none⟩), .int .i64 (rj : Nat)]) rfl (by rfl) (by kernel_rfl) (by kernel_rfl) (by kernel_rfl) (fun _ _ _ h => h) (Or.inl ⟨by kernel_rfl, (fun W hw => by obtain ⟨n0_, n1_, n2_, n3_, n4_, n5_⟩ := EZ.out W hw; clear hw; go_simp)⟩) hS ?_
                        simp only [Act.put, List.setIfInBounds_toArray, List.set_cons_zero, List.set_cons_succ]
                        refine any_take (i := 5) (some 172) (.pointer (some ⟨c, 0, none⟩)) rfl (by rfl) (by kernel_rfl) (by kernel_rfl) (by kernel_rfl) (fun _ _ _ h => h) (Or.inl ⟨by kernel_rfl, (fun W hw => by clear hw; go_simp)⟩) hS ?_
                        simp only [Act.put, List.setIfInBounds_toArray, List.set_cons_zero, List.set_cons_succ]
                        refine any_take (i := 6) (some 173) (.slice (some ⟨bv, 0, none⟩) n cv) rfl (by rfl) (by kernel_rfl) (by kernel_rfl) (by kernel_rfl) (fun _ _ _ h => h) (Or.inl ⟨by kernel_rfl, (fun W hw => by clear hw; go_simp)⟩) hS ?_
                        simp only [Act.put, List.setIfInBounds_toArray, List.set_cons_zero, List.set_cons_succ]
                        refine any_take (i := 7) (some 174) (.int .i64 (i : Nat)) rfl (by rfl) (by kernel_rfl) (by kernel_rfl) (by kernel_rfl) (fun _ _ _ h => h) (Or.inl ⟨by kernel_rfl, (fun W hw => by clear hw; go_simp)⟩) hS ?_
                        simp only [Act.put, List.setIfInBounds_toArray, List.set_cons_zero, List.set_cons_succ]
                        refine any_take (i := 8) (some 175) (.pointer (some ⟨bv, i, none⟩)) rfl (by rfl) (by kernel_rfl) (by kernel_rfl) (by kernel_rfl) (fun _ _ _ h => h) (Or.inl ⟨by kernel_rfl, (fun W hw => by clear hw; go_simp)⟩) hS ?_
                        simp only [Act.put, List.setIfInBounds_toArray, List.set_cons_zero, List.set_cons_succ]
                        refine any_take (i := 9) (some 176) (.int .i64 a) rfl (by rfl) (by kernel_rfl) (by kernel_rfl) (by kernel_rfl) (fun _ _ _ h => h) (Or.inl ⟨by kernel_rfl, (fun W hw => by obtain ⟨n0_, n1_, n2_, n3_, n4_, n5_⟩ := EZ.out W hw; clear hw; go_simp)⟩) hS ?_
                        simp only [Act.put, List.setIfInBounds_toArray, List.set_cons_zero, List.set_cons_succ]
                        refine any_take (i := 10) (some 177) (.slice (some ⟨bv, 0, none⟩) n cv) rfl (by rfl) (by kernel_rfl) (by kernel_rfl) (by kernel_rfl) (fun _ _ _ h => h) (Or.inl ⟨by kernel_rfl, (fun W hw => by clear hw; go_simp)⟩) hS ?_
                        simp only [Act.put, List.setIfInBounds_toArray, List.set_cons_zero, List.set_cons_succ]
                        refine any_take (i := 11) (some 178) (.int .i64 (j4 : Nat)) rfl (by rfl) (by kernel_rfl) (by kernel_rfl) (by kernel_rfl) (fun _ _ _ h => h) (Or.inl ⟨by kernel_rfl, (fun W hw => by clear hw; go_simp)⟩) hS ?_
                        simp only [Act.put, List.setIfInBounds_toArray, List.set_cons_zero, List.set_cons_succ]
                        refine any_take (i := 12) (some 179) (.pointer (some ⟨bv, j4, none⟩)) rfl (by rfl) (by kernel_rfl) (by kernel_rfl) (by kernel_rfl) (fun _ _ _ h => h) (Or.inl ⟨by kernel_rfl, (fun W hw => by clear hw; go_simp)⟩) hS ?_
                        simp only [Act.put, List.setIfInBounds_toArray, List.set_cons_zero, List.set_cons_succ]
                        refine any_take (i := 13) (some 180) (.int .i64 a2) rfl (by rfl) (by kernel_rfl) (by kernel_rfl) (by kernel_rfl) (fun _ _ _ h => h) (Or.inl ⟨by kernel_rfl, (fun W hw => by obtain ⟨n0_, n1_, n2_, n3_, n4_, n5_⟩ := EZ.out W hw; clear hw; go_simp)⟩) hS ?_
                        simp only [Act.put, List.setIfInBounds_toArray, List.set_cons_zero, List.set_cons_succ]
                        refine wpAnyH_all (rs := [1]) (by kernel_rfl) (by simp) fun q' hq' => ?_
                        obtain rfl : q' = 1 := by simpa using hq'
                        refine ops_call (d := some 168) rfl (by rfl) (by kernel_rfl) (by go_simp) ((HID.out _ hB0 rj2).mono ?_)
                        rintro e w15 ⟨rfl, hb15⟩
                        have hB15 : Below X.heap.size X w15 := hB0.trans (hb15.mono hB0.size)
                        have hS15 : Else A.S X w15 := Else.of_below hB15
                        refine ⟨_, rfl, hS15, ?_⟩
                        simp only [Act.put, List.setIfInBounds_toArray, List.set_cons_zero, List.set_cons_succ]
                        refine wpAnyH_all (rs := [3]) (by kernel_rfl) (by simp) fun q' hq' => ?_
                        obtain rfl : q' = 3 := by simpa using hq'
                        refine ops_call (d := some 170) rfl (by rfl) (by kernel_rfl) (by go_simp) ((HID.out _ hB15 rj).mono ?_)
                        rintro e w16 ⟨rfl, hb16⟩
                        have hB16 : Below X.heap.size X w16 := hB15.trans (hb16.mono hB15.size)
                        have hS16 : Else A.S X w16 := Else.of_below hB16
                        refine ⟨_, rfl, hS16, ?_⟩
                        simp only [Act.put, List.setIfInBounds_toArray, List.set_cons_zero, List.set_cons_succ]
                        refine any_take (i := 4) (some 171) (.bool bb) rfl (by rfl) (by kernel_rfl) (by kernel_rfl) (by kernel_rfl) (fun _ _ _ h => h) (Or.inl ⟨by kernel_rfl, (fun W hw => by clear hw; go_simp)⟩) hS16 ?_
                        simp only [Act.put, List.setIfInBounds_toArray, List.set_cons_zero, List.set_cons_succ]
                        refine wpAnyH_all (rs := [14]) (by kernel_rfl) (by simp) fun q' hq' => ?_
                        obtain rfl : q' = 14 := by simpa using hq'
                        refine ops_call (d := some 181) rfl (by rfl) (by kernel_rfl) (by go_simp) ((HSMH.out _ hB16).mono ?_)
                        rintro e w17 ⟨k17, rfl, hk17, hC17, hE17⟩
                        have hS17 : Else A.S X w17 := hS16.trans hE17
                        have HF := Lib.hid (And.intro hk17 (And.intro hC17 (HX.out.2.trans hS17)))
                        clear hk17 hC17 hE17
                        refine ⟨_, rfl, hS17, ?_⟩
                        simp only [Act.put, List.setIfInBounds_toArray, List.set_cons_zero, List.set_cons_succ]
                        refine any_take (i := 15) (some 182) (.bool false) rfl (by rfl) (by kernel_rfl) (by kernel_rfl) (by kernel_rfl) (fun _ _ _ h => h) (Or.inl ⟨by kernel_rfl, (fun W hw => by clear hw; go_simp)⟩) hS17 ?_
                        simp only [Act.put, List.setIfInBounds_toArray, List.set_cons_zero, List.set_cons_succ]
                        refine wpAnyH_done (by kernel_rfl) ?_ _
                        clear hS hB0 hB15 hB16 hS15 hS16 hS17 hb15 hb16 EZ EA HID HSMH e1
                        go_wp2_with fail
                        go_roundw
                        case rel =>
                          refine ⟨j4 + 1, kk4 + k14 + k17, by go_num, HJL.out, ?_, ?_, HF.out.2.2⟩
                          · have h1 := HF.out.1
                            have h2 := HT.out.2.2
                            have h3 := H14.out.1
                            have h4 := HJ.out.2.2.2.2.2.1
                            omega
                          · have e : F + ((kk4 + k14 + k17 : Nat) : Int) = F + (kk4 : Nat) + (k14 : Nat) + (k17 : Nat) := by push_cast; omega
                            rw [e]
                            exact HF.out.2.1
                        case measure => have := HJL.out; simp [intOf]; omega
                      · have f3 : decide ((j4 : Int) < (n : Int)) = false := decide_eq_false (by omega)
                        have HT4 := Lib.hid (And.intro HT.out.1 (And.intro (H13.out.2.2.1.trans HT.out.2.1) HT.out.2.2))
                        clear HT
                        go_wp2_with fail
                        go_roundw
                        case rel =>
                          refine ⟨i + 1, K + k10 + kk + k12 + k13 + kk4, by go_num, HIL.out, ?_, ?_, HT4.out.2.1⟩
                          · have h1 := HI.out.2.2
                            have h2 := HQ10.out.2.2.1
                            have h3 := HT3.out.2.2
                            have h4 := H12.out.1
                            have h5 := HJ.out.2.2.2.2.2.1
                            have h6 := H13.out.1
                            have h7 := HT4.out.2.2
                            omega
                          · have e : fs + ((K + k10 + kk + k12 + k13 + kk4 : Nat) : Int) = F + (kk4 : Nat) := by rw [← H13.out.2.2.2.2.2.1]; push_cast; omega
                            rw [e]
                            exact HT4.out.1
                        case measure => have := HIL.out; simp [intOf]; omega
            · have f1 : decide ((i : Int) < (n : Int)) = false := decide_eq_false (by omega)
              have HWO : Hid (Below w.heap.size w wo) := Lib.hid (HW6.out.2.1.trans (HI.out.2.1.below (fun k hk => Nat.le_trans HV.out.2.size (HBo.out.2.2.1 k hk).1) HW6.out.2.1.size))
              have HZE : Hid (∀ f, (f = 21 → ∀ W, Calls Try.prog f #[.agg #[.pointer none, .int .i64 0]] W fun e w' => e = .returned (.int .i64 (-1)) ∧ Below W.heap.size W w')) := Lib.hid fun f hf W => by subst hf; exact id_zero W
              go_upto_region 36 with fail
              refine wp_world (fun X => X.heap[wo.heap.size]? = some (Obj.cells #[.pointer none, .int .i64 0] 57) ∧ Below wo.heap.size wo X) ⟨heap_alloc_new wo _, (Below.refl _ _).alloc (Nat.le_refl _) _⟩ ?_
              rintro X ⟨hx, hbX⟩
              have hxl := (Array.getElem?_eq_some_iff.1 hx).1
              have EZ : Hid (∀ W, Below X.heap.size X W → W.cell? ⟨wo.heap.size, 0, none⟩ = some (.pointer none) ∧ W.cell? ⟨wo.heap.size, 1, none⟩ = some (.int .i64 0)) := Lib.hid fun W hW => by
                have h := (hW.block _ hxl).trans hx
                exact ⟨cell_of_row W _ 0 _ _ (0, 0) h, cell_of_row W _ 1 _ _ (0, 0) h⟩
              have HBX := Lib.hid (HWO.out.trans (hbX.mono HWO.out.size))
              obtain ⟨n0_, n1_⟩ := EZ.out X (Below.refl _ _)
              clear hx hbX hxl HZE
              go_wp2_with fail
              refine (show Calls _ _ #[.agg #[.pointer none, .int .i64 0]] _ _ from id_zero X).mono ?_
              rintro e x2 ⟨rfl, hb2⟩
              have HX2 := Lib.hid hb2
              obtain ⟨n0_, n1_⟩ := EZ.out x2 hb2
              clear hb2
              go_wp2_with fail
              refine (show Calls _ _ #[.agg #[.pointer none, .int .i64 0]] _ _ from kind_zero x2).mono ?_
              rintro e x3 ⟨rfl, hb3⟩
              have HX3 := Lib.hid (HX2.out.trans (hb3.mono HX2.out.size))
              obtain ⟨n0_, n1_⟩ := EZ.out x3 HX3.out
              clear hb3
              go_wp2_with fail
              refine (show Calls _ _ #[.agg #[.pointer none, .int .i64 0]] _ _ from var_zero x3).mono ?_
              rintro e x4 ⟨rfl, hb4⟩
              have HX4 := Lib.hid (HX3.out.trans (hb4.mono HX3.out.size))
              obtain ⟨n0_, n1_⟩ := EZ.out x4 HX4.out
              clear hb4
              go_wp2_with fail
              refine (show Calls _ _ #[.agg #[.pointer none, .int .i64 0]] _ _ from parts_zero x4).mono ?_
              rintro e x5 ⟨rfl, hb5⟩
              have HX5 := Lib.hid (HX4.out.trans (hb5.mono HX4.out.size))
              clear hb5 n0_ n1_
              go_wp2_with fail
              refine (HAW.out x5).mono ?_
              rintro e x6 ⟨rfl, hb6⟩
              have HX6 := Lib.hid ((HBX.out.trans (HX5.out.mono HBX.out.size)).trans (hb6.mono (Nat.le_trans HBX.out.size HX5.out.size)))
              clear hb6
              go_wp2_with fail
              go_ret
              exact ⟨rfl, HX6.out⟩
end Go.Proofs.Ytbnpmeaaaecciaa
