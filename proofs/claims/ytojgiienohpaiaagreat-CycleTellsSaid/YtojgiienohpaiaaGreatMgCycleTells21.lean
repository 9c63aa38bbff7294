/- Texts of one proof, one behind the other. -/
import Derived.Test.YtojgiienohpaiaaGreatMgCycleTells20
import Derived.Test.YtojgiienohpaiaaGreatMgCycleTells6
import Derived.Test.YtojgiienohpaiaaGreatMgCycleTells9
import Derived.Test.YtojgiienohpaiaaGreatMgCycleTells5
namespace Go.Proofs.YtojgiienohpaiaaGreat
open Go.RowKit Go.Shelf
attribute [local go_sem] Oper.semAt_some

set_option maxRecDepth 100000 in
set_option maxHeartbeats 4000000 in
theorem arrow_any (w : World) (f : Fo) (vl : Value) (hvl : TyV w.heap.size w f vl) (hsz : f.size < 1000000) :
    Calls Tryz.prog 30 #[vl] w fun e w' => ∃ u' : Sl, e = .returned (tyVal f.arrF.1 f.arrF.2.1 (slv u')) ∧ Below w.heap.size w w' ∧ FreshT 47 w.heap.size w' idn f.arrF.2.2 u' := by
  obtain ⟨A, c, rfl⟩ := hvl.slice
  have hll := f.len_le_size
  refine (callsIn_wide (n := 4)).1 ?_
  refine callsIn_of_wp_marks Tryz.func30 rfl trivial ?_ rfl
  simp only [Tryz.ntmps30, List.size_toArray, List.length_cons, List.length_nil, Nat.reduceAdd, Nat.reduceSub, Array.replicate_succ, Array.replicate_zero, List.push_toArray, List.append_toArray, List.nil_append, List.cons_append]
  gi_wp2_with (refine ⟨trivial, ?_⟩; gi_at_call 53; refine (callsIn_wide.2 (back_make A f.len c _)).mono ?_; rintro e w' ⟨rfl, rfl⟩)
  obtain ⟨w0, hw0⟩ : ∃ w0, (((w.alloc (.cells #[.slice A f.len c] 45)).alloc (.cells #[.int .i64 0, .int .i64 0, .slice none 0 0] 47)).alloc (.cells #[.int .i64 0, .int .i64 0, .slice none 0 0] 47)).alloc (.cells #[.slice A f.len c] 45) = w0 := ⟨_, rfl⟩
  have hs0 : w0.heap.size = w.heap.size + 4 := by rw [← hw0]; simp
  have hB0 : Below w.heap.size w w0 := by rw [← hw0]; exact ((((Below.refl _ w).alloc (Nat.le_refl _) _).alloc (by simp) _).alloc (by simp only [World.size_alloc]; omega) _).alloc (by simp only [World.size_alloc]; omega) _
  have h0 : w0.heap[w.heap.size]? = some (.cells #[.slice A f.len c] 45) := by
    rw [← hw0]
    exact (Below.heap_alloc _ _ _ (by simp only [World.size_alloc]; omega)).trans ((Below.heap_alloc _ _ _ (by simp only [World.size_alloc]; omega)).trans ((Below.heap_alloc _ _ _ (by simp only [World.size_alloc]; omega)).trans (heap_alloc_new w _)))
  have h1 : w0.heap[w.heap.size + 1]? = some (.cells rt0 47) := by
    rw [← hw0]
    refine (Below.heap_alloc _ _ _ (by simp only [World.size_alloc]; omega)).trans ((Below.heap_alloc _ _ _ (by simp only [World.size_alloc]; omega)).trans ?_)
    have := heap_alloc_new (w.alloc (.cells #[.slice A f.len c] 45)) (.cells #[.int .i64 0, .int .i64 0, .slice none 0 0] 47)
    rwa [World.size_alloc] at this
  have h2 : w0.heap[w.heap.size + 2]? = some (.cells rt0 47) := by
    rw [← hw0]
    refine (Below.heap_alloc _ _ _ (by simp only [World.size_alloc]; omega)).trans ?_
    have := heap_alloc_new ((w.alloc (.cells #[.slice A f.len c] 45)).alloc (.cells #[.int .i64 0, .int .i64 0, .slice none 0 0] 47)) (.cells #[.int .i64 0, .int .i64 0, .slice none 0 0] 47)
    simp only [World.size_alloc] at this
    exact this
  have h3 : w0.heap[w.heap.size + 3]? = some (.cells #[.slice A f.len c] 45) := by
    rw [← hw0]
    have := heap_alloc_new (((w.alloc (.cells #[.slice A f.len c] 45)).alloc (.cells #[.int .i64 0, .int .i64 0, .slice none 0 0] 47)).alloc (.cells #[.int .i64 0, .int .i64 0, .slice none 0 0] 47)) (.cells #[.slice A f.len c] 45)
    simp only [World.size_alloc] at this
    exact this
  have hR0 : RdX w.heap.size w0 (.slice A f.len c) f.top := hvl.rd.below hB0
  have hTL : TyL w.heap.size w f := hvl.list
  rw [hw0]
  rw [← Fo.top_len] at h0 h3 hR0 ⊢
  have hinv : ArInv w (.slice A f.top.length c) f 0 w0 := by
    have hdl : f.drop (f.len - 0) = .nil := f.drop_len
    refine ⟨⟨(none, 0, 0), ?_, ?_⟩, h0, h1, hB0⟩
    · rw [hdl]; exact h2
    · rw [hdl]
      intro W _ _
      exact ⟨.nil, trivial, tyV_nil.2 ⟨none, 0, rfl⟩⟩
  have h33 : Boxed w0 (w.heap.size + 3) 45 (.slice A f.top.length c) := h3
  clear hw0 h0 h1 h2 h3
  refine wpIn_rangeG (by omega) (gf := 76) (lb := #[.pointer (some ⟨w.heap.size + 1 + 1 + 1, 0, none⟩)]) rfl (enters_of Tryz.func76 (by kernel_rfl) rfl)
    (back_seqG 3 (by omega) (w.heap.size + 3) w.heap.size 147 A c f.top (by rw [Fo.top_len]; omega) w0 (by omega) h33 hR0) (Below.refl _ _) KpB.t (KpB.b (by omega)) (fun _ => rfl)
    (fun pre W => ArInv w (.slice A f.top.length c) f pre.length W ∧ Boxed W (w.heap.size + 3) 45 (.slice A f.top.length c)) (fun _ _ _ => False)
    (OwnFrom.and (ArInv.own _ (by omega)) (Own.from (boxed_own _ _ (fun _ => .slice A f.top.length c)) _)) (fun _ _ _ _ _ hs _ _ => hs)
    (AbC.and (ArInv.ab _ (by omega)) (box_ab (by decide))) (fun _ _ _ _ hs _ => hs)
    ⟨hinv, h33⟩
    (fun x a' W => ∃ Bx, W.heap[Bx]? = some (Obj.cells #[.int .i64 x.2.1, .int .i64 x.2.2.1, slv x.2.2.2] 47) ∧ a' = { tmps := #[.slice A f.top.length c, .pointer (some ⟨w.heap.size, 0, none⟩), .pointer (some ⟨w.heap.size + 1, 0, none⟩), .pointer (some ⟨w.heap.size + 1 + 1, 0, none⟩), .int .i64 x.1, .pointer (some ⟨Bx, 0, none⟩), .slice A f.top.length c, .func (.func 76) #[] #[.pointer (some ⟨w.heap.size + 1 + 1 + 1, 0, none⟩)], .int .i64 x.1, trV x.2, undef, undef, undef, undef, undef, undef, undef, undef, undef, undef, undef, undef, undef], defers := [] })
    (fun x a' s W W' row hs hg hr => by
      obtain ⟨Bx, hc, ha⟩ := hs
      refine ⟨Bx, (hg.block Bx (Array.getElem?_eq_some_iff.1 hc).1 fun e => ?_).trans hc, ha⟩
      obtain ⟨o, ho, hoc⟩ := (hr Bx e.symm).2
      rw [hc] at ho
      cases ho
      cases hoc) ?assign ?body ?done ?stop
  case assign =>
    rintro l pre x W K hi hK
    obtain ⟨x0, x1, x2, A3, n3, c3⟩ := x
    dsimp only [trV, slv] at hK ⊢
    have hbel := hi.1.2.2.2
    have hsW := hbel.size
    have hlt3 := hi.2.lt
    have HI := Lib.hid hi
    clear hi
    gi_wp2
    refine hK _ _ ((KeepsOthers.alloc _ _).from _) ⟨(Below.refl _ _).alloc hsW _, fun o ho _ => (Below.heap_alloc _ _ _ hlt3).trans ho⟩ ?_ ⟨W.heap.size, heap_alloc_new W _, rfl⟩
    exact ⟨(ArInv.own w.heap.size (Nat.le_refl _)).alloc (s := pre) _ HI.out.1, HI.out.2.alloc _⟩
  case body =>
    rintro l pre x a' W hl ⟨hi, hbx⟩ ⟨Bx, hc, rfl⟩ ⟨hpl, hx⟩
    obtain ⟨q, hq⟩ : ∃ q, f.top.length = q := ⟨_, rfl⟩
    obtain ⟨i, hii⟩ : ∃ i, f.top.length - 1 - pre.length = i := ⟨_, rfl⟩
    have hqf : f.len = q := by rw [← hq, Fo.top_len]
    have hil : i < f.len := by omega
    have htop := f.top_get i (by rw [Fo.top_len]; exact hil)
    have hds := f.drop_step i hil
    have hpsz := f.at_size i hil
    have hpT := hTL.at i hil
    simp only [hii] at hx
    rw [htop] at hx
    have hd1 : f.drop (f.len - (pre.length + 1)) = f.drop i := by congr 1; omega
    have hd0 : f.drop (f.len - pre.length) = f.drop (i + 1) := by congr 1; omega
    have hdl := f.len_drop (i + 1)
    subst hx
    generalize f.at_ i = p at *
    obtain ⟨k, n, ⟨u1, u2, u3⟩, ps⟩ := p
    dsimp only [trV, slv] at hc hpT hpsz hds ⊢
    have hbw := hi.2.2.2
    have hsW := hbw.size
    obtain ⟨⟨ua, hua, hfa⟩, hbp, hrt, _⟩ := id hi
    have hFC : ∀ Wx, Below W.heap.size W Wx → Calls Tryz.prog 54 #[tyVal k n (.slice u1 u2 u3)] Wx fun e w' => ∃ u' : Sl, e = .returned (tyVal k n (slv u')) ∧ Below Wx.heap.size Wx w' ∧ FreshT 47 Wx.heap.size w' idn ps u' :=
      fun Wx hx => copy_any Wx k n (u1, u2, u3) ps (hpT.keep (Nat.le_trans hsW hx.size) fun b off hb => ((hbw.trans (hx.mono hsW)).cell (p := ⟨b, off, none⟩) hb)) (by omega)
    have e0 : W.cell? ⟨w.heap.size, 0, none⟩ = some (.slice A q c) := by rw [← hq]; exact hbp.cell
    have x0 : W.cell? ⟨Bx, 0, none⟩ = some (.int .i64 k) := cell_of_row W Bx 0 _ _ (0, 0) hc
    have x1 : W.cell? ⟨Bx, 1, none⟩ = some (.int .i64 n) := cell_of_row W Bx 1 _ _ (0, 0) hc
    have x2 : W.cell? ⟨Bx, 2, none⟩ = some (.slice u1 u2 u3) := cell_of_row W Bx 2 _ _ (0, 0) hc
    have hl2 : w.heap.size + 2 < W.heap.size := (Array.getElem?_eq_some_iff.1 hua).1
    have hl4 : w.heap.size + 4 ≤ W.heap.size := by have := hbx.lt; omega
    have HI := Lib.hid hi
    have HBX := Lib.hid hbx
    have HFA := Lib.hid hfa
    have HUA := Lib.hid hua
    have HDS := Lib.hid hds
    have HD := Lib.hid (And.intro hd1 (And.intro hd0 hdl))
    have HFC := Lib.hid hFC
    have HQ := Lib.hid (And.intro hq (And.intro hqf (And.intro hii hil)))
    have HBW := Lib.hid hbw
    have hiq : (i : Int) + pre.length + 1 = q := by omega
    have HIQ := Lib.hid hiq
    have hpq : pre.length < q := by omega
    have hqb : q ≤ 1000000 := by omega
    rw [hq] at *
    clear hi hbx hfa hds hd1 hd0 hdl hFC hq hqf hii hil htop hpT hbw hbp hrt hc hiq hpl hR0 hinv h33 hTL hua
    rcases Nat.eq_zero_or_pos pre.length with hp0 | hp0
    · have f1 : ((i : Int) == (q : Int) - 1) = true := by have := HIQ.out; simp; omega
      gi_wp2_with (refine ⟨trivial, ?_⟩; gi_at_call 54; refine (CallsIn.inRound l (callsIn_wide.2 (HFC.out W (Below.refl _ _)))).mono ?_; rintro e w3 ⟨⟨v1, v2, v3⟩, rfl, hb3, hf3⟩; obtain ⟨r0, r1, r2, z0, z1, z2, W4, hW4, h4, hsz4, hfar, hb4⟩ := set3 (w := w3) (w.heap.size + 1 + 1) _ _ _ (.int .i64 k) (.int .i64 n) (.slice v1 v2 v3) ((hb3.block _ hl2).trans HUA.out); have H3 := Lib.hid (And.intro hb3 (And.intro hf3 (And.intro h4 (And.intro hsz4 (And.intro hfar hb4))))); clear hb3 hf3 h4 hsz4 hfar hb4; dsimp only [tyVal, slv])
      obtain ⟨hb3, hf3, h4, hsz4, hfar, hb4⟩ := H3.out
      obtain ⟨hd1, hd0, hdl⟩ := HD.out
      have harr : (f.drop i).arrF = (k, n, ps) := by
        rw [HDS.out, Fo.arrF, if_pos (by have := HQ.out; have := HIQ.out; omega)]
      obtain ⟨y1, y2, y3⟩ := ar_fin (x := ((i : Int), k, n, (u1, u2, u3))) (u := (v1, v2, v3)) HI.out hb3 h4 hsz4 hfar hb4 (by rw [hd1, harr]) (by rw [hd1, harr]) (by rw [hd1, harr]; exact hf3.mono (by omega)) HBX.out (w.heap.size + 4) (by omega) (by omega)
      exact ⟨y1, y2, y3, y2.boxed HBX.out⟩
    · have f1 : ((i : Int) == (q : Int) - 1) = false := by
        refine beq_eq_false_iff_ne.2 ?_
        have := HIQ.out
        omega
      have hmix : Tryz.prog.follows Departure.mixedOrders = true := by kernel_rfl
      have HUA2 := HUA.out
      rw [HD.out.2.1] at HUA2
      have hfa2 := HFA.out
      rw [HD.out.2.1] at hfa2
      generalize hax : (f.drop (i + 1)).arrF = ax at *
      obtain ⟨xk, xn, xps⟩ := ax
      obtain ⟨ua1, ua2, ua3⟩ := ua
      dsimp only [slv] at HUA2 hfa2
      obtain ⟨s0, s1, s2, _⟩ := set3 (w := W) (w.heap.size + 1 + 1) _ _ _ (.int .i64 k) (.int .i64 n) (.slice none 0 0) HUA2
      have HUA3 := Lib.hid HUA2
      have HFA3 := Lib.hid hfa2
      have HAX := Lib.hid hax
      clear HUA HFA HUA2 hfa2 hax
      gi_wp2
      gi_region_with_o (refine ⟨trivial, ?_⟩; gi_at_call 54; refine (CallsIn.inRound l (callsIn_wide.2 (HFC.out W.drew ((Below.refl _ _).drew)))).mono ?_; rintro e w3 ⟨⟨v1, v2, v3⟩, rfl, hb3, hf3⟩; obtain ⟨r0, r1, r2, z0, z1, z2, W4, hW4, h4, hsz4, hfar, hb4⟩ := set3 (w := w3) (w.heap.size + 1 + 1) _ _ _ (.int .i64 4) (.int .i64 0) (.slice (some ⟨w3.heap.size, 0, none⟩) 2 2) ((hb3.block _ hl2).trans HUA3.out); have hl3 : w.heap.size + 1 + 1 < w3.heap.size := Nat.lt_of_lt_of_le hl2 hb3.size; have H3 := Lib.hid (And.intro hb3 (And.intro hf3 (And.intro h4 (And.intro hsz4 (And.intro hfar hb4))))); clear hb3 hf3 h4 hsz4 hfar hb4; dsimp only [tyVal, slv])
      all_goals gi_wp2
      all_goals
        obtain ⟨hb3, hf3, h4, hsz4, hfar, hb4⟩ := H3.out
        obtain ⟨hd1, hd0, hdl⟩ := HD.out
        have harr : (f.drop i).arrF = (4, 0, .cons k n (u1, u2, u3) ps (.cons xk xn (none, 0, 0) xps .nil)) := by
          rw [HDS.out, Fo.arrF, if_neg (by have := HQ.out; have := HIQ.out; omega), HAX.out]
        have hb3' : Below W.heap.size W w3 := (Below.refl _ W).drew.trans hb3
        have ho : ∀ o : Obj, Below w3.heap.size w3 (w3.alloc o) := fun o => (Below.refl _ _).alloc (Nat.le_refl _) o
        obtain ⟨y1, y2, y3⟩ := ar_fin (W3 := w3.alloc (.cells #[.int .i64 k, .int .i64 n, .slice v1 v2 v3, .int .i64 xk, .int .i64 xn, .slice ua1 ua2 ua3] 47)) (W4 := W4.alloc (.cells #[.int .i64 k, .int .i64 n, .slice v1 v2 v3, .int .i64 xk, .int .i64 xn, .slice ua1 ua2 ua3] 47)) (x := ((i : Int), k, n, (u1, u2, u3))) (u := (some ⟨w3.heap.size, 0, none⟩, 2, 2)) (o := #[.slice A q c]) HI.out (hb3'.trans ((ho _).mono hb3'.size)) ((Below.heap_alloc _ _ _ (by omega)).trans h4) (by simp [hsz4]) (fun b hne => by simp only [World.alloc, Array.getElem?_push, hsz4, hfar b hne]) ⟨hb4.os, hb4.tape, hb4.output, by simp [hsz4], fun b hb => by simp only [World.alloc, Array.getElem?_push, hsz4, hb4.block b hb]⟩ (by rw [hd1, harr]) (by rw [hd1, harr])
          (by
            rw [hd1, harr]
            refine FreshT.two (kx := k) (nx := n) (ux := (v1, v2, v3)) (ky := xk) (ny := xn) (uy := (ua1, ua2, ua3)) ((hf3.mono (show w.heap.size + 3 ≤ W.heap.size by omega)).below (ho _)) ((HFA3.out.below hb3').below (ho _)) w3.heap.size (by omega) (heap_alloc_new w3 _)) HBX.out (w.heap.size + 4) (by omega) (by omega)
        refine ⟨?_, y2, y3, y2.boxed HBX.out⟩
        first | exact y1 | (rw [hs0]; exact y1)
  case done =>
    rintro D ys W hD hys ⟨hi, hbx⟩ hK
    have hlen : ys.length = f.len := by
      have : (ys.map (·.2)).length = f.top.reverse.length := by rw [hys]
      simpa [Fo.top_len] using this
    rw [hlen] at hi
    have hdr : f.drop (f.len - f.len) = f := by rw [Nat.sub_self]; exact f.drop_zero
    unfold ArInv at hi
    rw [hdr] at hi
    obtain ⟨⟨⟨ua1, ua2, ua3⟩, hua, hfa⟩, hbp, hrt, hbw⟩ := hi
    generalize hax : f.arrF = ax at *
    obtain ⟨xk, xn, xps⟩ := ax
    dsimp only [slv] at hua hfa ⊢
    have x0 : W.cell? ⟨w.heap.size + 1 + 1, 0, none⟩ = some (.int .i64 xk) := cell_of_row W _ 0 _ _ (0, 0) hua
    have x1 : W.cell? ⟨w.heap.size + 1 + 1, 1, none⟩ = some (.int .i64 xn) := cell_of_row W _ 1 _ _ (0, 0) hua
    have x2 : W.cell? ⟨w.heap.size + 1 + 1, 2, none⟩ = some (.slice ua1 ua2 ua3) := cell_of_row W _ 2 _ _ (0, 0) hua
    obtain ⟨r0, r1, r2, z0, z1, z2, W4, hW4, h4, hsz4, hfar, hb4⟩ := set3 (w := W) (w.heap.size + 1) _ _ _ (.int .i64 xk) (.int .i64 xn) (.slice ua1 ua2 ua3) hrt
    have hK4 : W4.heap[D]? = some (.deferred (some [])) := (hfar D (by omega)).trans hK
    have hgp := grownBy_putObj' W4 D (.deferred none)
    have h5 : (W4.putObj D (.deferred none)).heap[w.heap.size + 1]? = some (Obj.cells #[.int .i64 xk, .int .i64 xn, .slice ua1 ua2 ua3] 47) := (hgp.block _ (Array.getElem?_eq_some_iff.1 h4).1 (fun e => by injection e with e; omega)).trans h4
    have hb5 : Below w.heap.size w (W4.putObj D (.deferred none)) := (hbw.trans (hb4.mono (by omega))).trans ((Below.refl _ _).grown hgp (by have := hbw.size; omega) (fun k e => by cases e; omega))
    have hf5 : FreshT 47 w.heap.size (W4.putObj D (.deferred none)) idn xps (ua1, ua2, ua3) := by
      refine (hfa.to (Nat.le_trans (by omega) hgp.size) fun b cs hb hc => ?_).mono (by omega)
      have hbl := (Array.getElem?_eq_some_iff.1 hc).1
      refine (hgp.block b (by omega) (fun e => ?_)).trans ((hfar b (by omega)).trans hc)
      injection e with e
      rw [e, hK] at hc
      cases hc
    have HLD := Lib.hid (load_ty (w := W4.putObj D (.deferred none)) (g := w.heap.size + 1) (k := xk) (n := xn) (u := (ua1, ua2, ua3)) (cell_of_row _ _ 0 _ _ (0, 0) h5) (cell_of_row _ _ 1 _ _ (0, 0) h5) (cell_of_row _ _ 2 _ _ (0, 0) h5))
    have HB5 := Lib.hid hb5
    have HF5 := Lib.hid hf5
    have HK4 := Lib.hid hK4
    have HAX := Lib.hid hax
    clear hua hfa hbp hrt hbw hbx hK hgp h5 hb5 hf5 hK4 h4 hsz4 hfar hb4 hax hys hlen hdr
    gi_wp2
    refine ⟨by simp, .inl ⟨_, _, rfl, run_takeDeferred HK4.out, ?_⟩⟩
    exact ⟨_, results_box rfl _ _ _ _ rfl HLD.out, (ua1, ua2, ua3), by rw [HAX.out], HB5.out, by rw [HAX.out]; exact HF5.out⟩
  case stop =>
    rintro D c pre W _ _ h _
    exact h.elim
end Go.Proofs.YtojgiienohpaiaaGreat
namespace Go.Proofs.YtojgiienohpaiaaGreat
open Go.RowKit Go.Shelf

theorem eq_of_takes (a b : List Int) (h : a.length = b.length) (j : Nat) (hj : j < a.length) (hne : a[j] ≠ b[j]) : (a == b) = false := by
  refine beq_eq_false_iff_ne.2 fun e => hne ?_
  subst e
  rfl
set_option maxHeartbeats 1000000 in
set_option maxRecDepth 100000 in
theorem rints_any (a b : List Int) (va vb : Value) (w : World) (hA : Rd w 1 va a.length (ints a)) (hB : Rd w 1 vb b.length (ints b)) (la : a.length ≤ 1000000) (lb : b.length ≤ 1000000) :
    Calls Tryz.prog 21 #[va, vb] w fun e w' => e = .returned (.bool (a == b)) ∧ Below w.heap.size w w' := by
  obtain ⟨A, c, rfl⟩ := hA.form
  obtain ⟨A', c', rfl⟩ := hB.form
  obtain ⟨q, hq⟩ : ∃ q, a.length = q := ⟨_, rfl⟩
  obtain ⟨q', hq'⟩ : ∃ q', b.length = q' := ⟨_, rfl⟩
  rw [hq] at la ⊢
  rw [hq'] at lb ⊢
  have HA := Lib.hid hA
  have HB := Lib.hid hB
  have HQ := Lib.hid hq
  have HQ' := Lib.hid hq'
  clear hA hB hq hq'
  by_cases hl : q = q'
  · subst hl
    go_enter Tryz.func21, Tryz.ntmps21
    go_wp2_with fail
    go_loopw [5] (fun t wr => ∃ j : Nat, j ≤ q ∧ t = .int .i64 j ∧ a.take j = b.take j ∧ Below w.heap.size w wr) (fun t _ => q - (intOf t).toNat)
    case atStart => exact ⟨0, Nat.zero_le _, rfl, by simp, Below.refl _ _⟩
    case round =>
      obtain ⟨j, hj, rfl, hja, hb⟩ := hrel
      have HBW := Lib.hid hb
      have HJA := Lib.hid hja
      clear hja hb
      by_cases hjl : j < q
      · have hjA : j < a.length := by rw [HQ.out]; exact hjl
        have hjB : j < b.length := by rw [HQ'.out]; exact hjl
        obtain ⟨b1, o1, cap1, hv1, _, _, hlt1, hc1⟩ := HA.out.2.resolve_left (by rintro ⟨h, _⟩; omega)
        obtain ⟨b2, o2, cap2, hv2, _, _, hlt2, hc2⟩ := HB.out.2.resolve_left (by rintro ⟨h, _⟩; omega)
        injection hv1 with hA1 _ hcc1
        injection hv2 with hA2 _ hcc2
        subst hA1; subst hcc1; subst hA2; subst hcc2
        obtain ⟨x, hx⟩ : ∃ x, a[j] = x := ⟨_, rfl⟩
        obtain ⟨y, hy⟩ : ∃ y, b[j] = y := ⟨_, rfl⟩
        have c1 : wr.cell? ⟨b1, o1 + j, none⟩ = some (.int .i64 x) := (HBW.out.cell (p := ⟨b1, o1 + j, none⟩) hlt1).trans (hc1 j _ (by rw [ints, List.getElem?_map, List.getElem?_eq_getElem hjA, hx]; rfl))
        have c2 : wr.cell? ⟨b2, o2 + j, none⟩ = some (.int .i64 y) := (HBW.out.cell (p := ⟨b2, o2 + j, none⟩) hlt2).trans (hc2 j _ (by rw [ints, List.getElem?_map, List.getElem?_eq_getElem hjB, hy]; rfl))
        by_cases hxy : x = y
        · have htk : a.take (j + 1) = b.take (j + 1) := by
            rw [← List.take_append_getElem hjA, ← List.take_append_getElem hjB, HJA.out, hx, hy, hxy]
          have HTK := Lib.hid htk
          have f1 : (x != y) = false := by simp [hxy]
          clear htk hx hy hc1 hc2 hxy
          go_wp2_with fail
          go_quiet (fail)
          go_wp2_with fail
          go_roundw
          case rel => exact ⟨j + 1, by omega, by go_num, HTK.out, below_drewN HBW.out _⟩
          case measure => simp [intOf]; omega
        · have f1 : (x != y) = true := bne_iff_ne.2 hxy
          have HE := Lib.hid (eq_of_takes a b (HQ.out.trans HQ'.out.symm) j hjA (by rw [hx, hy]; exact hxy))
          clear hx hy hc1 hc2 hxy
          go_wp2_with fail
          go_quiet (fail)
          go_wp2_with fail
          go_ret
          exact ⟨ret_bool HE.out.symm, below_drewN HBW.out _⟩
      · obtain rfl : j = q := by omega
        have hE : (a == b) = true := by
          have h := HJA.out
          have h1 := HQ.out
          have h2 := HQ'.out
          rw [List.take_of_length_le (by omega), List.take_of_length_le (by omega)] at h
          simp [h]
        have HE := Lib.hid hE
        clear hE
        go_wp2_with fail
        go_ret
        exact ⟨ret_bool HE.out.symm, HBW.out⟩
  · have f1 : ((q : Int) != (q' : Int)) = true := bne_iff_ne.2 (by omega)
    have hE : (a == b) = false := beq_eq_false_iff_ne.2 fun e => hl (by rw [← HQ.out, ← HQ'.out, e])
    have HE := Lib.hid hE
    clear hE hl
    go_enter Tryz.func21, Tryz.ntmps21
    go_wp2_with fail
    go_ret
    exact ⟨ret_bool HE.out.symm, Below.refl _ _⟩
end Go.Proofs.YtojgiienohpaiaaGreat
namespace Go.Proofs.YtojgiienohpaiaaGreat
open Go.RowKit Go.Shelf
set_option maxRecDepth 100000
theorem arrow_pair (X : World) (g cp : Nat) (k0 n0 k1 n1 : Int) (u0 u1 : Sl) (f0 f1 : Fo) (hg : g < X.heap.size) (hcp : 2 ≤ cp) (hcm : cp ≤ maxLen) (c0 : X.cell? ⟨g, 0, none⟩ = some (.int .i64 k0)) (c1 : X.cell? ⟨g, 1, none⟩ = some (.int .i64 n0)) (c2 : X.cell? ⟨g, 2, none⟩ = some (slv u0)) (c3 : X.cell? ⟨g, 3, none⟩ = some (.int .i64 k1)) (c4 : X.cell? ⟨g, 4, none⟩ = some (.int .i64 n1)) (c5 : X.cell? ⟨g, 5, none⟩ = some (slv u1)) (h0 : TyV X.heap.size X f0 (slv u0)) (h1 : TyV X.heap.size X f1 (slv u1)) (hs : f0.size + f1.size < 1000) :
    Calls Tryz.prog 30 #[.slice (some ⟨g, 0, none⟩) 2 cp] X fun e w' => ∃ u' : Sl, e = .returned (tyVal 4 0 (slv u')) ∧ Below X.heap.size X w' ∧ FreshT 47 X.heap.size w' idn (.cons k0 n0 u0 f0 (.cons k1 n1 (none, 0, 0) f1 .nil)) u' := by
  have h := arrow_any X _ _ (two_cells g cp k0 n0 k1 n1 u0 u1 f0 f1 hg hcp hcm c0 c1 c2 c3 c4 c5 h0 h1) (by simp only [Fo.size]; omega)
  simpa [Fo.arrF, Fo.len] using h
def VV (a b : Sl) : Fo := .cons 1 0 a .nil (.cons 1 0 b .nil .nil)
end Go.Proofs.YtojgiienohpaiaaGreat
