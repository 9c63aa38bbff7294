/- Texts of one proof, one behind the other. -/
import Derived.Test.YtojgiienohpaiaaGreatMgCycleTells32
import Derived.Test.YtojgiienohpaiaaGreatMgCycleTells29
namespace Go.Proofs.YtojgiienohpaiaaGreat
open Go.RowKit Go.Shelf
open Un (Else StM rowI UFo own_else dg swp wp_world paint cnt Rings)
set_option maxRecDepth 100000
section CySs
variable {O : Nat → Prop} {w : World} {cb : Nat} {G : List Gn} {E : List (Nat × Nat)} {v : Int} {p : Option Addr} {F : Int}
theorem measure_miss (Q : World → Prop) (hQ : ∀ W W', Q W → Below W.heap.size W W' → Q W') (c : Option Addr) (r : Int) (hP : ∀ W, Below w.heap.size w W → Calls Tryz.prog 42 #[.pointer p, .int .i64 v] W fun x W' => x = .returned (.tuple #[.agg #[.pointer c, .int .i64 r], .bool false]) ∧ Q W') (gf : FuncId) :
    Calls Tryz.prog 44 #[.pointer p, .int .i64 v, .func (.func gf) #[] #[]] w fun x w' => x = .returned (.tuple #[.int .i64 0, .bool false]) ∧ Q w' := by
  obtain ⟨w1, hw1⟩ : ∃ w1, w.alloc (.cells #[.func (.func gf) #[] #[]] 88) = w1 := ⟨_, rfl⟩
  have hb1 : Below w.heap.size w w1 := by rw [← hw1]; exact (Below.refl _ _).alloc (Nat.le_refl _) _
  have HP := Lib.hid (hP w1 hb1)
  have HQ := Lib.hid hQ
  have HW1 := Lib.hid hw1
  clear hP hb1 hw1 hQ
  go_enter Tryz.func44, Tryz.ntmps44
  go_wp2_with fail
  rw [HW1.out]
  refine HP.out.mono ?_
  clear HP
  rintro x w2 ⟨rfl, hb2⟩
  have H2 := Lib.hid hb2
  clear hb2
  go_wp2_with fail
  exact bodyPost_ret (results_tmp2 rfl _ _ _) rfl ⟨rfl, HQ.out _ _ H2.out ((Below.refl _ _).alloc (Nat.le_refl _) _)⟩
theorem depth_miss (Q : World → Prop) (hQ : ∀ W W', Q W → Below W.heap.size W W' → Q W') (c : Option Addr) (r : Int) (hP : ∀ W, Below w.heap.size w W → Calls Tryz.prog 42 #[.pointer p, .int .i64 v] W fun x W' => x = .returned (.tuple #[.agg #[.pointer c, .int .i64 r], .bool false]) ∧ Q W') :
    Calls Tryz.prog 22 #[.pointer p, .int .i64 v] w fun x w' => x = .returned (.tuple #[.int .i64 0, .bool false]) ∧ Q w' := by
  have HM := Lib.hid (measure_miss Q hQ c r hP 45)
  clear hP hQ
  go_enter Tryz.func22, Tryz.ntmps22
  go_wp2_with fail
  refine HM.out.mono ?_
  rintro x w2 ⟨rfl, hb2⟩
  have H2 := Lib.hid hb2
  clear hb2
  go_wp2_with fail
  exact bodyPost_ret (results_tmp2 rfl _ _ _) rfl ⟨rfl, H2.out⟩
theorem size_miss (Q : World → Prop) (hQ : ∀ W W', Q W → Below W.heap.size W W' → Q W') (c : Option Addr) (r : Int) (hP : ∀ W, Below w.heap.size w W → Calls Tryz.prog 42 #[.pointer p, .int .i64 v] W fun x W' => x = .returned (.tuple #[.agg #[.pointer c, .int .i64 r], .bool false]) ∧ Q W') :
    Calls Tryz.prog 23 #[.pointer p, .int .i64 v] w fun x w' => x = .returned (.tuple #[.int .i64 0, .bool false]) ∧ Q w' := by
  have HM := Lib.hid (measure_miss Q hQ c r hP 46)
  clear hP hQ
  go_enter Tryz.func23, Tryz.ntmps23
  go_wp2_with fail
  refine HM.out.mono ?_
  rintro x w2 ⟨rfl, hb2⟩
  have H2 := Lib.hid hb2
  clear hb2
  go_wp2_with fail
  exact bodyPost_ret (results_tmp2 rfl _ _ _) rfl ⟨rfl, H2.out⟩
def Cll (O : Nat → Prop) (w : World) (cb : Nat) (G : List Gn) (E : List (Nat × Nat)) (v F : Int) : Prop :=
  (Clash G E ∧ ∃ st, CxM w cb st) ∨ (¬ Clash G E ∧ gvar G v = none ∧ ∃ A st kn nx col ro fs, ClM O w cb A st false G.length G kn nx col ro fs ∧ 0 ≤ fs ∧ fs ≤ F) ∨ (¬ Clash G E ∧ (∃ i, gvar G v = some i) ∧ ∃ st fs m, CsM O w cb G E st fs m ∧ 0 ≤ fs ∧ fs ≤ F)
def AskOk (G : List Gn) (E : List (Nat × Nat)) (f : Int → Int → Int) (v : Int) (ok : Bool) (q : Int) : Prop :=
  (ok = true ↔ ¬ Clash G E ∧ FinC G E ∧ ∃ i, gvar G v = some i) ∧ (ok = false → q = 0) ∧ (ok = true → ∃ R val i, gvar G v = some i ∧ MsN G E f R val ∧ q = val i)
theorem Cll.of {b : Nat} {s : Sys} (h : Clo O w cb s b) (v : Int) (hb : b ≤ 49) : Cll O w cb s.1 s.2 v 4900000000 := by
  rcases h with ⟨st, fs, m, hC, h1, h2, h3, h4⟩ | ⟨hc, hO, hlt, st, hx⟩
  · have hno := hC.noClash
    have h5 : fs ≤ 4900000000 := by omega
    cases hg : gvar s.1 v with
    | none =>
      obtain ⟨⟨A, kn, nx, col, ro, hCl, _⟩, _⟩ := hC
      exact .inr (.inl ⟨hno, hg, A, st, kn, nx, col, ro, fs, hCl, h3, h5⟩)
    | some i => exact .inr (.inr ⟨hno, ⟨i, hg⟩, st, fs, m, hC, h3, h5⟩)
  · exact .inl ⟨hc, st, hx⟩
theorem Cll.keep {w' : World} (h : Cll O w cb G E v F) (hb : Below w.heap.size w w') : Cll O w' cb G E v F := by
  rcases h with ⟨hc, st, hx⟩ | ⟨hno, hg, A, st, kn, nx, col, ro, fs, hC, h1, h2⟩ | ⟨hno, hi, st, fs, m, hC, h1, h2⟩
  · exact .inl ⟨hc, st, (hb.block cb (Array.getElem?_eq_some_iff.1 hx).1).trans hx⟩
  · exact .inr (.inl ⟨hno, hg, A, st, kn, nx, col, ro, fs, hC.below hb, h1, h2⟩)
  · exact .inr (.inr ⟨hno, hi, st, fs, m, hC.keep (T := fun _ => False) (Else.of_below hb) fun _ _ h => h, h1, h2⟩)
theorem depth_cll (h : Cll O w cb G E v F) (hF : F ≤ 17000000000) (hG : G.length ≤ 160) (hgn : GN G) (hgl : GL G) (hwv : (Lit.int .i64 v).wf = true) :
    Calls Tryz.prog 22 #[.pointer (some ⟨cb, 0, none⟩), .int .i64 v] w fun x w' => (∃ ok q, x = .returned (.tuple #[.int .i64 q, .bool ok]) ∧ AskOk G E maxI v ok q) ∧ Cll O w' cb G E v (F + 200000) ∧ Else O w w' := by
  rcases h with ⟨hc, st, hx⟩ | ⟨hno, hg, A, st, kn, nx, col, ro, fs, hC, h1, h2⟩ | ⟨hno, ⟨i, hi⟩, st, fs, m, hC, h1, h2⟩
  · refine (depth_miss (fun W => CxM W cb st ∧ Below w.heap.size w W) (fun W W' hq hb => ⟨(hb.block cb (Array.getElem?_eq_some_iff.1 hq.1).1).trans hq.1, hq.2.trans (hb.mono hq.2.size)⟩) none 0 fun W hW => ?_).mono ?_
    · refine (cpart_cx ((hW.block cb (Array.getElem?_eq_some_iff.1 hx).1).trans hx) v).mono ?_
      rintro x W' ⟨rfl, hb⟩
      have hbb := hW.trans (hb.mono hW.size)
      exact ⟨rfl, (hbb.block cb (Array.getElem?_eq_some_iff.1 hx).1).trans hx, hbb⟩
    · rintro x w' ⟨rfl, hx', hb⟩
      exact ⟨⟨false, 0, rfl, ⟨(fun h => by cases h), (fun h => absurd hc h.1)⟩, (fun _ => rfl), (fun h => by cases h)⟩, .inl ⟨hc, st, hx'⟩, Else.of_below hb⟩
  · have hdg : dg G.length ≤ 21 := Un.dg_le (by omega)
    refine (depth_miss (fun W => ∃ k : Nat, k ≤ 21 ∧ ClM O W cb A st false G.length G kn nx col ro (fs + k) ∧ Else O w W) (fun W W' ⟨k, hk, hq, he⟩ hb => ⟨k, hk, hq.below hb, he.trans (Else.of_below hb)⟩) none 0 fun W hW => ?_).mono ?_
    · have hP := cpart_cl (hC.below hW) (by omega) v hwv (fun z hz => gvar_lt hz)
      rw [hg] at hP
      refine hP.mono ?_
      rintro x W' ⟨k, rfl, hk, hC', hE⟩
      exact ⟨rfl, k, by omega, hC', (Else.of_below hW).trans (hE.mono fun k hk => hC.own k (.inr (.inl hk)))⟩
    · rintro x w' ⟨rfl, k, hk, hC', hE⟩
      exact ⟨⟨false, 0, rfl, ⟨(fun h => by cases h), (fun h => by obtain ⟨_, _, i, hi⟩ := h; rw [hg] at hi; cases hi)⟩, (fun _ => rfl), (fun h => by cases h)⟩, .inr (.inl ⟨hno, hg, A, st, kn, nx, col, ro, _, hC', by omega, by omega⟩), hE⟩
  · refine (depth_cs hC (by omega) (by omega) hgn hgl v i hi).mono ?_
    rintro x w' ⟨ok, q, k, rfl, hok, h0, hv, hk, hC', hE⟩
    exact ⟨⟨ok, q, rfl, hok.trans ⟨fun hf => ⟨hno, hf, i, hi⟩, fun hf => hf.2.1⟩, h0, fun h => by obtain ⟨R, val, hM, hq⟩ := hv h; exact ⟨R, val, i, hi, hM, hq⟩⟩, .inr (.inr ⟨hno, ⟨i, hi⟩, st, _, m, hC', by omega, by omega⟩), hE⟩
theorem size_cll (h : Cll O w cb G E v F) (hF : F ≤ 17000000000) (hG : G.length ≤ 160) (hgn : GN G) (hgl : GL G) (hwv : (Lit.int .i64 v).wf = true) :
    Calls Tryz.prog 23 #[.pointer (some ⟨cb, 0, none⟩), .int .i64 v] w fun x w' => (∃ ok q, x = .returned (.tuple #[.int .i64 q, .bool ok]) ∧ AskOk G E (fun a b => a + b) v ok q) ∧ Cll O w' cb G E v (F + 200000) ∧ Else O w w' := by
  rcases h with ⟨hc, st, hx⟩ | ⟨hno, hg, A, st, kn, nx, col, ro, fs, hC, h1, h2⟩ | ⟨hno, ⟨i, hi⟩, st, fs, m, hC, h1, h2⟩
  · refine (size_miss (fun W => CxM W cb st ∧ Below w.heap.size w W) (fun W W' hq hb => ⟨(hb.block cb (Array.getElem?_eq_some_iff.1 hq.1).1).trans hq.1, hq.2.trans (hb.mono hq.2.size)⟩) none 0 fun W hW => ?_).mono ?_
    · refine (cpart_cx ((hW.block cb (Array.getElem?_eq_some_iff.1 hx).1).trans hx) v).mono ?_
      rintro x W' ⟨rfl, hb⟩
      have hbb := hW.trans (hb.mono hW.size)
      exact ⟨rfl, (hbb.block cb (Array.getElem?_eq_some_iff.1 hx).1).trans hx, hbb⟩
    · rintro x w' ⟨rfl, hx', hb⟩
      exact ⟨⟨false, 0, rfl, ⟨(fun h => by cases h), (fun h => absurd hc h.1)⟩, (fun _ => rfl), (fun h => by cases h)⟩, .inl ⟨hc, st, hx'⟩, Else.of_below hb⟩
  · have hdg : dg G.length ≤ 21 := Un.dg_le (by omega)
    refine (size_miss (fun W => ∃ k : Nat, k ≤ 21 ∧ ClM O W cb A st false G.length G kn nx col ro (fs + k) ∧ Else O w W) (fun W W' ⟨k, hk, hq, he⟩ hb => ⟨k, hk, hq.below hb, he.trans (Else.of_below hb)⟩) none 0 fun W hW => ?_).mono ?_
    · have hP := cpart_cl (hC.below hW) (by omega) v hwv (fun z hz => gvar_lt hz)
      rw [hg] at hP
      refine hP.mono ?_
      rintro x W' ⟨k, rfl, hk, hC', hE⟩
      exact ⟨rfl, k, by omega, hC', (Else.of_below hW).trans (hE.mono fun k hk => hC.own k (.inr (.inl hk)))⟩
    · rintro x w' ⟨rfl, k, hk, hC', hE⟩
      exact ⟨⟨false, 0, rfl, ⟨(fun h => by cases h), (fun h => by obtain ⟨_, _, i, hi⟩ := h; rw [hg] at hi; cases hi)⟩, (fun _ => rfl), (fun h => by cases h)⟩, .inr (.inl ⟨hno, hg, A, st, kn, nx, col, ro, _, hC', by omega, by omega⟩), hE⟩
  · refine (size_cs hC (by omega) (by omega) hgn hgl v i hi).mono ?_
    rintro x w' ⟨ok, q, k, rfl, hok, h0, hv, hk, hC', hE⟩
    exact ⟨⟨ok, q, rfl, hok.trans ⟨fun hf => ⟨hno, hf, i, hi⟩, fun hf => hf.2.1⟩, h0, fun h => by obtain ⟨R, val, hM, hq⟩ := hv h; exact ⟨R, val, i, hi, hM, hq⟩⟩, .inr (.inr ⟨hno, ⟨i, hi⟩, st, _, m, hC', by omega, by omega⟩), hE⟩
end CySs
end Go.Proofs.YtojgiienohpaiaaGreat
namespace Go.Proofs.YtojgiienohpaiaaGreat
open Go.RowKit
open Un (rowI rowI_get Else own_else wp_world)
attribute [local go_sem] Oper.semAt_some
attribute [local go_sem ↓] builtin_app
set_option maxRecDepth 100000
theorem rights_rt3 (l : List Eqn) : ∀ x ∈ rights l, rtE x = true := fun _ hx => (List.mem_filter.1 hx).2
theorem EqV.len3 {B : Nat} {w : World} {l : List Eqn} {v : Value} (h : EqV B w l v) : l.length ≤ 9223372036854775807 := by
  obtain ⟨A, c, _, h1, _⟩ := h
  by_cases h0 : 0 < l.length
  · obtain ⟨_, _, _, _, h2, h3, _⟩ := h1 h0
    unfold maxLen at h3
    omega
  · omega
section CyTls
variable {G : List Gn} {E : List (Nat × Nat)} {cc col ro : Nat → Nat} {kn : Kn}
theorem fin_colors (hB : Both G col ro kn E cc) (hp : Gp G) (hl : GL G) : FinC G E ↔ ∀ i, i < G.length → ¬ Cp G cc (cc i) (cc i) := by
  have hpl : ∀ p ∈ G, ∀ u ∈ p.2.2.2, u < G.length := fun p hh => (hp p hh).2
  constructor
  · intro hf i hi
    exact ((acc_color hB hi).1 (acc_all hB.nc hB.gn hl hf i hi)).no
  · intro h v i hv
    have hi := gvar_lt hv
    refine (acc_color hB hi).2 (Classical.byContradiction fun hna => ?_)
    obtain ⟨d, hd, hdd⟩ := (acc_colors hpl hi).1 hna
    rcases hd with rfl | hd
    · exact h i hi hdd
    · obtain ⟨u, hu, rfl⟩ := hd.at hpl
      exact h u hu hdd
end CyTls
set_option maxHeartbeats 16000000 in
theorem ctells_law (w : World) (l : List Eqn) (v : Value) (hl : ArgE w v l) (ask : Int) (hask : (Lit.int .i64 ask).wf = true) :
    Calls Tryz.prog 4 #[v, .int .i64 ask] w fun e w' => e = .returned (.bool true) ∧ Below w.heap.size w w' := by
  have HASK := Lib.hid hask
  clear hask
  have HG1 := Lib.hid (great12_any w l v hl.1 hl.1.len3)
  have HL := Lib.hid hl
  have HAW := Lib.hid awake13
  obtain ⟨Al, cl, rfl⟩ := hl.1.form
  clear hl
  go_enter Tryz.func4, Tryz.ntmps4
  go_wp2_with fail
  refine HG1.out.mono ?_
  clear HG1
  rintro e w1 ⟨g1, rfl, hg1, hb1⟩
  have HB1 := Lib.hid hb1
  cases g1 with
  | true =>
    clear hg1 hb1
    go_wp2_with fail
    refine (HAW.out w1).mono ?_
    rintro e w2 ⟨rfl, hb2⟩
    have HB2 := Lib.hid (HB1.out.trans (hb2.mono HB1.out.size))
    clear hb2
    go_wp2_with fail
    exact bodyPost_ret (results_tmp rfl _ _ _) rfl ⟨rfl, HB2.out⟩
  | false =>
    have hl1 := hg1 rfl
    have HR1 := Lib.hid (rights12_any w1 l (.slice Al l.length cl) (HL.out.1.later hb1) hl1.1 hl1.2)
    clear hg1 hb1
    go_wp2_with fail
    refine HR1.out.mono ?_
    clear HR1
    rintro e w4 ⟨v3, rfl, he3, hb3⟩
    have HB4 := Lib.hid (HB1.out.trans (hb3.mono HB1.out.size))
    obtain ⟨A3, c3, rfl⟩ := he3.form
    have hn1 : (rights l).length ≤ 20 := Nat.le_trans (rights_len l) hl1.1
    have hz1 : esz (rights l) ≤ 160 := Nat.le_trans (esz_rights l) hl1.2
    have HW := Lib.hid (And.intro (EqW.rights HL.out.2) (rights_rt3 l))
    obtain ⟨L, hL⟩ : ∃ z, rights l = z := ⟨_, rfl⟩
    rw [hL] at he3 HW hn1 hz1 ⊢
    have HE := Lib.hid he3
    have HN := Lib.hid (And.intro hn1 hz1)
    clear hb3 he3 hl1 hL hn1 hz1
    have HMA := Lib.hid (made_any w4 L (.slice A3 L.length c3) HE.out HW.out.1 HW.out.2 (by have := HN.out; omega) (by have := HN.out; omega))
    go_wp2_with fail
    refine HMA.out.mono ?_
    clear HMA
    rintro e w5 ⟨c, O, rfl, hC5, hO5, hb5⟩
    have HCL := Lib.hid (close_any w5 L (.slice A3 L.length c3) (HE.out.later hb5) HW.out.2 (by have := HN.out; omega) (by have := HN.out; omega))
    have H5 := Lib.hid (And.intro hC5 (And.intro hO5 hb5))
    clear hC5 hO5 hb5
    obtain ⟨s, hs⟩ : ∃ s, cls L = s := ⟨_, rfl⟩
    have hsl : s.1.length ≤ 160 := by have h1 := cls_len L; have h2 := HN.out; rw [hs] at h1; omega
    have hgn : GN s.1 := by rw [← hs]; exact cls_GN L HW.out.1
    have hgl : GL s.1 := by rw [← hs]; exact cls_gl L
    have hgk : GK s.1 := by rw [← hs]; exact cls_GK L HW.out.2
    have hsz : s.1.length ≤ esz L := by have h1 := cls_len L; rw [hs] at h1; exact h1
    rw [hs] at HCL H5
    have HS := Lib.hid (And.intro hsl (And.intro hgn (And.intro hgl (And.intro hgk hsz))))
    clear hsl hgn hgl hgk hsz hs
    go_wp2_with fail
    refine HCL.out.mono ?_
    clear HCL
    rintro e w6 ⟨vm, vs, M, cc, rfl, hRg, hcol, hrc, hec, hcd, hb6⟩
    have hAn : An3 (fun b => w5.heap.size ≤ b) w5.heap.size w6 vm vs M s.1 cc := An3.of_rg hRg hcol
    obtain ⟨Am, cm, rfl⟩ := hAn.row.form
    obtain ⟨As, cs, rfl, _, _⟩ := Un.own_form hAn.col
    obtain ⟨Q, hQ⟩ : ∃ Q, M.length = Q := ⟨_, rfl⟩
    have hlenM := hAn.len
    rw [hQ] at hAn hlenM ⊢
    obtain ⟨w7, hw7⟩ : ∃ w7, w6.alloc (.cells #[.slice Am Q cm, .slice As Q cs] 33) = w7 := ⟨_, rfl⟩
    have hb7 : Below w6.heap.size w6 w7 := by rw [← hw7]; exact (Below.refl _ _).alloc (Nat.le_refl _) _
    have hx7 : w7.heap[w6.heap.size]? = some (.cells #[.slice Am Q cm, .slice As Q cs] 33) := by rw [← hw7]; exact heap_alloc_new _ _
    have hb57 : Below w5.heap.size w5 w7 := hb6.trans (hb7.mono hb6.size)
    have HAN : Hid (∀ W, Else O w7 W → An3 (fun b => w5.heap.size ≤ b) w5.heap.size W (.slice Am Q cm) (.slice As Q cs) M s.1 cc ∧ W.heap[w6.heap.size]? = some (.cells #[.slice Am Q cm, .slice As Q cs] 33)) := Lib.hid fun W hW => ⟨(hAn.below hb7).to hW (fun k hk hd => by have := (H5.out.2.1 k hk).2; omega) (fun k hk e => by have h1 := (H5.out.2.1 k hk).2; have h2 := (hAn.col.lt k e).1; omega), (hW.block _ (Array.getElem?_eq_some_iff.1 hx7).1 (fun hk => by have h1 := (H5.out.2.1 _ hk).2; have h2 := hb6.size; omega)).trans hx7⟩
    have HCD := Lib.hid (depth_cll ((Cll.of H5.out.1 ask (by have := HN.out; omega)).keep hb57) (by omega) HS.out.1 HS.out.2.1 HS.out.2.2.1 HASK.out)
    have H7 := Lib.hid (And.intro hrc (And.intro hec (And.intro hcd (And.intro hlenM (And.intro hQ hb57)))))
    have HW7 := Lib.hid hw7
    have hQb : Q ≤ 160 := by have := HS.out.1; omega
    clear hRg hcol hrc hec hcd hb6 hAn hlenM hQ hb7 hx7 hb57 hw7
    go_wp2_with fail
    rw [HW7.out]
    refine HCD.out.mono ?_
    clear HCD
    rintro e w8 ⟨⟨ok1, q1, rfl, ha1⟩, hC8, hE8⟩
    have HSZ := Lib.hid (size_cll hC8 (by omega) HS.out.1 HS.out.2.1 HS.out.2.2.1 HASK.out)
    have H8 := Lib.hid (And.intro ha1 hE8)
    clear ha1 hC8 hE8
    go_wp2_with fail
    refine HSZ.out.mono ?_
    clear HSZ
    rintro e w9 ⟨⟨ok2, q2, rfl, ha2⟩, hC9, hE9⟩
    have hE9 : Else O w7 w9 := H8.out.2.trans hE9
    have hx9 := (HAN.out w9 hE9).2
    have y0 : w9.cell? ⟨w6.heap.size, 0, none⟩ = some (.slice Am Q cm) := cell_of_row w9 _ 0 _ _ (0, 0) hx9
    have y1 : w9.cell? ⟨w6.heap.size, 1, none⟩ = some (.slice As Q cs) := cell_of_row w9 _ 1 _ _ (0, 0) hx9
    have HCH := Lib.hid (clash3 (HAN.out w9 hE9).1 (by have := HS.out.1; omega) H7.out.1 H7.out.2.1 H7.out.2.2.1)
    have hlow : ∀ W, Else O w7 W → Below w.heap.size w W := fun W hW => HB4.out.trans (((H5.out.2.2.trans (H7.out.2.2.2.2.2.mono H5.out.2.2.size)).trans (hW.below (fun k hk => (H5.out.2.1 k hk).1) (Nat.le_trans H5.out.2.2.size H7.out.2.2.2.2.2.size))).mono HB4.out.size)
    have H9 := Lib.hid (And.intro ha2 (And.intro hC9 (And.intro hE9 hlow)))
    clear ha2 hC9 hE9 hlow hx9
    go_wp2_with fail
    refine HCH.out.mono ?_
    clear HCH
    rintro e w10 ⟨⟨b, rfl, hb⟩, hb10⟩
    have hE10 : Else O w7 w10 := H9.out.2.2.1.trans (Else.of_below hb10)
    have H10 := Lib.hid (And.intro hb (And.intro hE10 hb10))
    clear hb hE10 hb10 y0 y1
    cases b with
    | true =>
      have hcl : Clash s.1 s.2 := H10.out.1.1 (by trivial)
      obtain rfl : ok1 = false := by
        cases ok1 with
        | false => rfl
        | true => exact absurd hcl (H8.out.1.1.1 rfl).1
      obtain rfl : ok2 = false := by
        cases ok2 with
        | false => rfl
        | true => exact absurd hcl (H9.out.1.1.1 rfl).1
      obtain rfl : q1 = 0 := H8.out.1.2.1 rfl
      obtain rfl : q2 = 0 := H9.out.1.2.1 rfl
      clear hcl
      go_wp2_with fail
      refine (HAW.out w10).mono ?_
      rintro e wd ⟨rfl, hbd⟩
      have Hd := Lib.hid ((H9.out.2.2.2 _ H10.out.2.1).trans (hbd.mono (H9.out.2.2.2 _ H10.out.2.1).size))
      clear hbd
      go_wp2_with fail
      exact bodyPost_ret (results_tmp rfl _ _ _) rfl ⟨rfl, Hd.out⟩
    | false =>
      have hnc : ¬ Clash s.1 s.2 := fun h => by have := H10.out.1.2 h; cases this
      obtain ⟨kn, col, ro, hBO, hGp⟩ : ∃ kn col ro, Both s.1 col ro kn s.2 cc ∧ Gp s.1 := by
        rcases H5.out.1 with h | h
        · obtain ⟨st, fs, m, hC, _⟩ := h
          obtain ⟨⟨A, kn, nx, col, ro, hCl, hJ, hR, hBr, hm⟩, hGI, hGp⟩ := hC
          exact ⟨kn, col, ro, ⟨hJ, H7.out.1, H7.out.2.1, H7.out.2.2.1, HS.out.2.1, HS.out.2.2.2.1, hnc⟩, hGp⟩
        · exact absurd h.1 hnc
      have HBO := Lib.hid (And.intro hBO hGp)
      have hx10 := (HAN.out w10 H10.out.2.1).2
      have y0 : w10.cell? ⟨w6.heap.size, 0, none⟩ = some (.slice Am Q cm) := cell_of_row w10 _ 0 _ _ (0, 0) hx10
      have y1 : w10.cell? ⟨w6.heap.size, 1, none⟩ = some (.slice As Q cs) := cell_of_row w10 _ 1 _ _ (0, 0) hx10
      have HFN := Lib.hid (finite3_any hBO hGp (HAN.out w10 H10.out.2.1).1 (by have := HS.out.1; omega))
      have HNC := Lib.hid hnc
      clear hnc hBO hGp hx10
      go_wp2_with fail
      refine HFN.out.mono ?_
      clear HFN
      rintro e w11 ⟨⟨fb, rfl, hfb⟩, hb11⟩
      rw [← fin_colors HBO.out.1 HBO.out.2 HS.out.2.2.1] at hfb
      have hE11 : Else O w7 w11 := H10.out.2.1.trans (Else.of_below hb11)
      have H11 := Lib.hid (And.intro hfb (And.intro hE11 hb11))
      clear hfb hE11 hb11 y0 y1
      cases fb with
      | false =>
        have hnf : ¬ FinC s.1 s.2 := fun h => by have := H11.out.1.2 h; cases this
        obtain rfl : ok1 = false := by
          cases ok1 with
          | false => rfl
          | true => exact absurd (H8.out.1.1.1 rfl).2.1 hnf
        obtain rfl : ok2 = false := by
          cases ok2 with
          | false => rfl
          | true => exact absurd (H9.out.1.1.1 rfl).2.1 hnf
        obtain rfl : q1 = 0 := H8.out.1.2.1 rfl
        obtain rfl : q2 = 0 := H9.out.1.2.1 rfl
        clear hnf
        go_wp2_with fail
        refine (HAW.out w11).mono ?_
        rintro e wd ⟨rfl, hbd⟩
        have Hd := Lib.hid ((H9.out.2.2.2 _ H11.out.2.1).trans (hbd.mono (H9.out.2.2.2 _ H11.out.2.1).size))
        clear hbd
        go_wp2_with fail
        exact bodyPost_ret (results_tmp rfl _ _ _) rfl ⟨rfl, Hd.out⟩
      | true =>
        have hx11 := (HAN.out w11 H11.out.2.1).2
        have y0 : w11.cell? ⟨w6.heap.size, 0, none⟩ = some (.slice Am Q cm) := cell_of_row w11 _ 0 _ _ (0, 0) hx11
        have y1 : w11.cell? ⟨w6.heap.size, 1, none⟩ = some (.slice As Q cs) := cell_of_row w11 _ 1 _ _ (0, 0) hx11
        have HVA := rvar_graph w11 (.slice Am Q cm) M (HAN.out w11 H11.out.2.1).1.row.1 (by have := H7.out.2.2.2.2.1; omega) ask
        rw [(HAN.out w11 H11.out.2.1).1.gm] at HVA
        obtain ⟨iv, hiv⟩ : ∃ z, ivar s.1 ask = z := ⟨_, rfl⟩
        rw [hiv] at HVA
        have HVA := Lib.hid HVA
        have HIV := Lib.hid hiv
        clear hx11 hiv
        go_wp2_with fail
        refine HVA.out.mono ?_
        clear HVA
        rintro e w12 ⟨rfl, hb12⟩
        have hE12 : Else O w7 w12 := H11.out.2.1.trans (Else.of_below hb12)
        have H12 := Lib.hid (And.intro hE12 hb12)
        clear hE12 hb12 y0 y1
        cases hga : gvar s.1 ask with
        | none =>
          obtain rfl : iv = -1 := by rw [← HIV.out]; unfold ivar; rw [hga]
          obtain rfl : ok1 = false := by
            cases ok1 with
            | false => rfl
            | true => obtain ⟨i, hi⟩ := (H8.out.1.1.1 rfl).2.2; rw [hga] at hi; cases hi
          obtain rfl : ok2 = false := by
            cases ok2 with
            | false => rfl
            | true => obtain ⟨i, hi⟩ := (H9.out.1.1.1 rfl).2.2; rw [hga] at hi; cases hi
          obtain rfl : q1 = 0 := H8.out.1.2.1 rfl
          obtain rfl : q2 = 0 := H9.out.1.2.1 rfl
          have HGA := Lib.hid hga
          clear hga
          go_wp2_with fail
          refine (HAW.out w12).mono ?_
          rintro e wd ⟨rfl, hbd⟩
          have Hd := Lib.hid ((H9.out.2.2.2 _ H12.out.1).trans (hbd.mono (H9.out.2.2.2 _ H12.out.1).size))
          clear hbd
          go_wp2_with fail
          exact bodyPost_ret (results_tmp rfl _ _ _) rfl ⟨rfl, Hd.out⟩
        | some i0 =>
          obtain rfl : iv = (i0 : Nat) := by rw [← HIV.out]; unfold ivar; rw [hga]
          have hfin : FinC s.1 s.2 := H11.out.1.1 (by trivial)
          obtain rfl : ok1 = true := H8.out.1.1.2 ⟨HNC.out, hfin, i0, hga⟩
          obtain rfl : ok2 = true := H9.out.1.1.2 ⟨HNC.out, hfin, i0, hga⟩
          have hi0 : i0 ≤ 160 := by have h1 := gvar_lt hga; have h2 := HS.out.1; omega
          obtain ⟨R1, val1, _, _, hM1, _⟩ := H8.out.1.2.2 rfl
          obtain ⟨R2, val2, _, _, hM2, _⟩ := H9.out.1.2.2 rfl
          obtain ⟨st, fs, m, hC9, hf1, hf2⟩ : ∃ st fs m, CsM O w9 c s.1 s.2 st fs m ∧ 0 ≤ fs ∧ fs ≤ 5000000000 := by
            rcases H9.out.2.1 with h | h | h
            · exact absurd h.1 HNC.out
            · have := h.2.1; rw [hga] at this; cases this
            · obtain ⟨_, _, st, fs, m, h1, h2, h3⟩ := h
              exact ⟨st, fs, m, h1, h2, by omega⟩
          have hC12 : CsM O w12 c s.1 s.2 st fs m := hC9.keep (T := fun _ => False) ((Else.of_below H10.out.2.2).trans ((Else.of_below H11.out.2.2).trans (Else.of_below H12.out.2))) fun _ _ h => h
          have HC12 := Lib.hid (And.intro hC12 (And.intro hf1 hf2))
          have HM := Lib.hid (And.intro hM1 (And.intro hM2 (And.intro hfin hga)))
          have hx12 := (HAN.out w12 H12.out.1).2
          have y0 : w12.cell? ⟨w6.heap.size, 0, none⟩ = some (.slice Am Q cm) := cell_of_row w12 _ 0 _ _ (0, 0) hx12
          have y1 : w12.cell? ⟨w6.heap.size, 1, none⟩ = some (.slice As Q cs) := cell_of_row w12 _ 1 _ _ (0, 0) hx12
          have hrv := rvars11o w12 (.slice Am Q cm) M (HAN.out w12 H12.out.1).1.row.1 (by have := H7.out.2.2.2.2.1; omega)
          rw [(HAN.out w12 H12.out.1).1.gm] at hrv
          have HRV := Lib.hid hrv
          clear hrv hC9 hC12 hM1 hM2 hfin hga hf1 hf2 hx12
          go_wp2_with fail
          refine HRV.out.mono ?_
          clear HRV
          rintro e wa ⟨vv, rfl, hov, hba⟩
          obtain ⟨Av, cv, rfl, _, _⟩ := Un.own_form hov
          obtain ⟨vl, hvs⟩ : ∃ z, vsort s.1 = z := ⟨_, rfl⟩
          rw [hvs] at hov ⊢
          have hvl : vl.length ≤ s.1.length := by rw [← hvs]; exact vsort_le_ s.1
          obtain ⟨nv, hnv⟩ : ∃ z, vl.length = z := ⟨_, rfl⟩
          rw [hnv] at hov hvl ⊢
          have hnvb : nv ≤ 160 := by have := HS.out.1; omega
          have HA := Lib.hid (And.intro hov (And.intro hvs (And.intro hnv hba)))
          clear hov hvs hnv hba y0 y1 hvl
          go_wp2_with fail
          have FW : Hid (∀ W, Else O wa W → An3 (fun b => w5.heap.size ≤ b) w5.heap.size W (.slice Am Q cm) (.slice As Q cs) M s.1 cc ∧ W.cell? ⟨w6.heap.size, 0, none⟩ = some (.slice Am Q cm) ∧ W.cell? ⟨w6.heap.size, 1, none⟩ = some (.slice As Q cs) ∧ W.ownsRow w12.heap.size 3 1 (.slice Av nv cv) nv (ints vl)) := Lib.hid fun W hW => by
            have hE : Else O w7 W := H12.out.1.trans ((Else.of_below HA.out.2.2.2).trans hW)
            have hx := (HAN.out W hE).2
            exact ⟨(HAN.out W hE).1, cell_of_row W _ 0 _ _ (0, 0) hx, cell_of_row W _ 1 _ _ (0, 0) hx, own_else HA.out.1 hW fun k hk hO => by
              have h1 := (H5.out.2.1 k hO).2
              have h2 := (HA.out.1.lt k hk).1
              have h3 := H7.out.2.2.2.2.2.size
              have h4 := H12.out.1.size
              omega⟩
          go_loopg [12, 13, 14, 15, 16, 17, 18, 19] nv (fun nn s12 _ _ _ _ _ _ _ wr => ∃ j : Nat, s12 = .int .i64 (j : Nat) ∧ j ≤ nv ∧ nv ≤ j + nn ∧ Else O wa wr ∧ ∃ st fs m, CsM O wr c s.1 s.2 st fs m ∧ 0 ≤ fs ∧ fs ≤ 5000000000 + 200000 * j)
          case atStart => exact ⟨0, rfl, Nat.zero_le _, by omega, Else.refl _ _, st, fs, m, HC12.out.1.keep (T := fun _ => False) (Else.of_below HA.out.2.2.2) fun _ _ h => h, HC12.out.2.1, by have := HC12.out.2.2; omega⟩
          case round =>
            obtain ⟨j, rfl, hj, hjn, hEr, st, fs, m, hC, hf1, hf2⟩ := hrel
            have HI := Lib.hid (And.intro hjn (And.intro hEr (And.intro hC (And.intro hf1 hf2))))
            clear hjn hEr hC hf1 hf2
            by_cases hjl : j < nv
            · have f1 : decide ((j : Int) < (nv : Int)) = true := decide_eq_true (by omega)
              have f2 : decide (j < nv) = true := decide_eq_true hjl
              obtain ⟨a, ha⟩ : ∃ a, vl[j]? = some a := ⟨_, List.getElem?_eq_getElem (by rw [HA.out.2.2.1]; exact hjl)⟩
              obtain ⟨_, jn, hjv, hjnl⟩ := vsort_var (G := s.1) (a := a) (by rw [HA.out.2.1]; exact List.mem_of_getElem? ha)
              obtain ⟨bv, cvv, hsh, _, hbl⟩ := Un.own_shape HA.out.1 (by omega)
              injection hsh with hA1 hA2 hcc1
              subst hA1
              clear hA2 hcc1 hbl
              have EX : Hid (∀ W, Else O wa W → W.cell? ⟨w6.heap.size, 0, none⟩ = some (.slice Am Q cm) ∧ W.cell? ⟨w6.heap.size, 1, none⟩ = some (.slice As Q cs) ∧ W.cell? ⟨bv, j, none⟩ = some (.int .i64 a)) := Lib.hid fun W hW => ⟨(FW.out W hW).2.1, (FW.out W hW).2.2.1, ((FW.out W hW).2.2.2.cellAt j (by omega)).trans (by simp [ints, ha])⟩
              have HVR : Hid (∀ W, Else O wa W → Calls Tryz.prog 15 #[.slice Am Q cm, .int .i64 a] W fun e w' => e = .returned (.int .i64 (jn : Nat)) ∧ Below W.heap.size W w') := Lib.hid fun W hW => by
                have h := rvar_graph W (.slice Am Q cm) M (FW.out W hW).1.row.1 (by have := H7.out.2.2.2.2.1; omega) a
                rw [(FW.out W hW).1.gm] at h
                have e : ivar s.1 a = (jn : Int) := by unfold ivar; rw [hjv]
                rw [e] at h
                exact h
              have hacc : AccC s.1 cc (cc jn) := (acc_color HBO.out.1 hjnl).1 (HM.out.2.2.1 a jn hjv)
              have HJ := Lib.hid (And.intro ha (And.intro hjv (And.intro hjnl (And.intro hjl hacc))))
              have hjnb : jn ≤ 160 := by have := HS.out.1; omega
              clear ha hjv hjnl hacc
              go_wp2_with fail
              have hS : Else O wa wr.drew := HI.out.2.1.drew
              refine wp_region_held (S := (fun W => Else O wa W)) (by kernel_rfl) ?_
              change wpAnyH _ _ _ _ _ 8 (List.replicate 8 false).toArray _ wr.drew
              simp only [List.replicate_succ, List.replicate_zero]
              refine any_take (i := 0) (some 81) (.pointer (some ⟨w6.heap.size, 0, none⟩)) rfl (by rfl) (by kernel_rfl) (by kernel_rfl) (by kernel_rfl) (fun _ _ _ h => h) (Or.inl ⟨by kernel_rfl, (fun W hw => by clear hw; go_simp)⟩) hS ?_
              simp only [Act.put, List.setIfInBounds_toArray, List.set_cons_zero, List.set_cons_succ]
              refine any_take (i := 1) (some 82) (.slice Am Q cm) rfl (by rfl) (by kernel_rfl) (by kernel_rfl) (by kernel_rfl) (fun _ _ _ h => h) (Or.inl ⟨by kernel_rfl, (fun W hw => by obtain ⟨n0_, n1_, n2_⟩ := EX.out W hw; clear hw; go_simp)⟩) hS ?_
              simp only [Act.put, List.setIfInBounds_toArray, List.set_cons_zero, List.set_cons_succ]
              refine any_take (i := 2) (some 83) (.slice (some ⟨bv, 0, none⟩) nv cv) rfl (by rfl) (by kernel_rfl) (by kernel_rfl) (by kernel_rfl) (fun _ _ _ h => h) (Or.inl ⟨by kernel_rfl, (fun W hw => by clear hw; go_simp)⟩) hS ?_
              simp only [Act.put, List.setIfInBounds_toArray, List.set_cons_zero, List.set_cons_succ]
              refine any_take (i := 3) (some 84) (.int .i64 (j : Nat)) rfl (by rfl) (by kernel_rfl) (by kernel_rfl) (by kernel_rfl) (fun _ _ _ h => h) (Or.inl ⟨by kernel_rfl, (fun W hw => by clear hw; go_simp)⟩) hS ?_
              simp only [Act.put, List.setIfInBounds_toArray, List.set_cons_zero, List.set_cons_succ]
              refine any_take (i := 4) (some 85) (.pointer (some ⟨bv, j, none⟩)) rfl (by rfl) (by kernel_rfl) (by kernel_rfl) (by kernel_rfl) (fun _ _ _ h => h) (Or.inl ⟨by kernel_rfl, (fun W hw => by clear hw; have hjl_ := HJ.out.2.2.2.1; go_simp)⟩) hS ?_
              simp only [Act.put, List.setIfInBounds_toArray, List.set_cons_zero, List.set_cons_succ]
              refine any_take (i := 5) (some 86) (.int .i64 a) rfl (by rfl) (by kernel_rfl) (by kernel_rfl) (by kernel_rfl) (fun _ _ _ h => h) (Or.inl ⟨by kernel_rfl, (fun W hw => by obtain ⟨n0_, n1_, n2_⟩ := EX.out W hw; clear hw; go_simp)⟩) hS ?_
              simp only [Act.put, List.setIfInBounds_toArray, List.set_cons_zero, List.set_cons_succ]
              refine wpAnyH_all (rs := [6]) (by kernel_rfl) (by simp) fun q' hq' => ?_
              obtain rfl : q' = 6 := by simpa using hq'
              refine ops_call (d := some 87) rfl (by rfl) (by kernel_rfl) (by go_simp) ((HVR.out _ hS).mono ?_)
              rintro y wb ⟨rfl, hbb⟩
              have hSb : Else O wa wb := hS.trans (Else.of_below hbb)
              refine ⟨_, rfl, hSb, ?_⟩
              simp only [Act.put, List.setIfInBounds_toArray, List.set_cons_zero, List.set_cons_succ]
              refine any_take (i := 7) (some 13) (.int .i64 (jn : Nat)) rfl (by rfl) (by kernel_rfl) (by kernel_rfl) (by kernel_rfl) (fun _ _ _ h => h) (Or.inl ⟨by kernel_rfl, (fun W hw => by clear hw; go_simp)⟩) hSb ?_
              simp only [Act.put, List.setIfInBounds_toArray, List.set_cons_zero, List.set_cons_succ]
              refine wpAnyH_done (by kernel_rfl) ?_ _
              have hCb : CsM O wb c s.1 s.2 st fs m := (HI.out.2.2.1.keep (T := fun _ => False) (Else.of_below (Below.refl _ wr).drew) fun _ _ h => h).keep (T := fun _ => False) (Else.of_below hbb) fun _ _ h => h
              obtain ⟨z0, z1, _⟩ := EX.out wb hSb
              have HHV := Lib.hid (heavy_any HBO.out.1 HBO.out.2 (by have := HS.out.1; omega) (cc jn) HJ.out.2.2.2.2 jn wb 5000 rfl HJ.out.2.2.1 (by omega) (by omega) (FW.out wb hSb).1)
              have HB := Lib.hid (And.intro hSb hCb)
              clear hS hSb hbb hCb
              go_wp2_with fail
              refine HHV.out.mono ?_
              clear HHV
              rintro y wc ⟨⟨r, rfl, hr0, hr1⟩, hbc⟩
              have HCc := Lib.hid (And.intro (HB.out.1.trans (Else.of_below hbc)) (HB.out.2.keep (T := fun _ => False) (Else.of_below hbc) fun _ _ h => h))
              clear hbc z0 z1
              by_cases hrz : r ≤ 0
              · have g1 : decide (r ≤ 0) = true := decide_eq_true hrz
                go_wp2_with fail
                go_roundg (nv - (j + 1))
                case rel => exact ⟨j + 1, by go_num, HJ.out.2.2.2.1, by omega, HCc.out.1, st, fs, m, HCc.out.2, HI.out.2.2.2.1, by have := HI.out.2.2.2.2; push_cast; omega⟩
                case measure => have h1 := HI.out.1; have h2 := HJ.out.2.2.2.1; omega
              · have g1 : decide (r ≤ 0) = false := decide_eq_false hrz
                obtain ⟨z0, z1, z2⟩ := EX.out wc HCc.out.1
                have HTD := told_any HBO.out.1 HBO.out.2 (by have := HS.out.1; omega) HM.out.1 HM.out.2.1 (cc jn) HJ.out.2.2.2.2 jn wc rfl HJ.out.2.2.1 (HM.out.1.vars a jn HJ.out.2.1) (HM.out.2.1.vars a jn HJ.out.2.1) (FW.out wc HCc.out.1).1
                obtain ⟨x1, hx1⟩ : ∃ z, val1 jn = z := ⟨_, rfl⟩
                obtain ⟨x2, hx2⟩ : ∃ z, val2 jn = z := ⟨_, rfl⟩
                rw [hx1, hx2] at HTD
                have HTD := Lib.hid HTD
                have HX12 := Lib.hid (And.intro hx1 hx2)
                clear hx1 hx2
                go_wp2_with fail
                refine HTD.out.mono ?_
                clear HTD
                rintro y wd ⟨rfl, hbd⟩
                have HD := Lib.hid (And.intro (HCc.out.1.trans (Else.of_below hbd)) (HCc.out.2.keep (T := fun _ => False) (Else.of_below hbd) fun _ _ h => h))
                clear hbd z0 z1 z2
                obtain ⟨_, _, z2⟩ := EX.out wd HD.out.1
                have HDP := Lib.hid (depth_cs HD.out.2 (by have h1 := HI.out.2.2.2.1; have h2 := HI.out.2.2.2.2; omega) (by have := HS.out.1; omega) HS.out.2.1 HS.out.2.2.1 a jn HJ.out.2.1)
                go_wp2_with fail
                refine HDP.out.mono ?_
                clear HDP
                rintro y we ⟨okd, qd, kd, rfl, hok, _, hval, hkd, hCe, hEe⟩
                obtain rfl : okd = true := hok.2 HM.out.2.2.1
                obtain ⟨Rd, vald, hMd, rfl⟩ := hval rfl
                have hxe : vald jn = x1 := by rw [← HX12.out.1]; exact msn_same HBO.out.1 (fun p hp => (HBO.out.2 p hp).2) hMd HM.out.1 (cc jn) HJ.out.2.2.2.2 jn rfl HJ.out.2.2.1 (hMd.vars a jn HJ.out.2.1) (HM.out.1.vars a jn HJ.out.2.1)
                rw [hxe]
                have hSe : Else O wa we := HD.out.1.trans hEe
                have HEe := Lib.hid (And.intro hSe (And.intro hCe hkd))
                clear hok hval hMd hxe hkd hCe hEe hSe z2
                obtain ⟨_, _, z2⟩ := EX.out we HEe.out.1
                have HSP := Lib.hid (size_cs HEe.out.2.1 (by have h1 := HI.out.2.2.2.1; have h2 := HI.out.2.2.2.2; have h3 := HEe.out.2.2; have h4 := HS.out.1; omega) (by have := HS.out.1; omega) HS.out.2.1 HS.out.2.2.1 a jn HJ.out.2.1)
                go_wp2_with fail
                refine HSP.out.mono ?_
                clear HSP
                rintro y wf ⟨oks, qs, ks, rfl, hok, _, hval, hks, hCf, hEf⟩
                obtain rfl : oks = true := hok.2 HM.out.2.2.1
                obtain ⟨Rs, vals, hMs, rfl⟩ := hval rfl
                have hxf : vals jn = x2 := by rw [← HX12.out.2]; exact msn_same HBO.out.1 (fun p hp => (HBO.out.2 p hp).2) hMs HM.out.2.1 (cc jn) HJ.out.2.2.2.2 jn rfl HJ.out.2.2.1 (hMs.vars a jn HJ.out.2.1) (HM.out.2.1.vars a jn HJ.out.2.1)
                rw [hxf]
                have HF := Lib.hid (And.intro (HEe.out.1.trans hEf) (And.intro hCf hks))
                clear hok hval hMs hxf hks hCf hEf z2
                have g2 : (x1 == x1) = true := by simp
                have g3 : (x2 == x2) = true := by simp
                go_wp2_with fail
                go_roundg (nv - (j + 1))
                case rel => exact ⟨j + 1, by go_num, HJ.out.2.2.2.1, by omega, HF.out.1, st, _, m, HF.out.2.1, by have h1 := HI.out.2.2.2.1; omega, by have h1 := HI.out.2.2.2.2; have h2 := HEe.out.2.2; have h3 := HF.out.2.2; have h4 := HS.out.1; push_cast; omega⟩
                case measure => have h1 := HI.out.1; have h2 := HJ.out.2.2.2.1; omega
            · have f1 : decide ((j : Int) < (nv : Int)) = false := decide_eq_false (by omega)
              have f2 : decide (j < nv) = false := decide_eq_false hjl
              go_wp2_with fail
              refine (HAW.out wr).mono ?_
              rintro e wz ⟨rfl, hbz⟩
              have hEz : Else O w7 wr := H12.out.1.trans ((Else.of_below HA.out.2.2.2).trans HI.out.2.1)
              have Hz := Lib.hid ((H9.out.2.2.2 _ hEz).trans (hbz.mono (H9.out.2.2.2 _ hEz).size))
              clear hbz hEz
              go_wp2_with fail
              exact bodyPost_ret (results_tmp rfl _ _ _) rfl ⟨rfl, Hz.out⟩
end Go.Proofs.YtojgiienohpaiaaGreat
