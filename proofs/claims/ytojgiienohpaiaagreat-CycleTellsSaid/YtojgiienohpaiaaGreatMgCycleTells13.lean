/- Texts of one proof, one behind the other. -/
import Derived.Test.YtojgiienohpaiaaGreatMgCycleTells12
import Derived.Test.YtojgiienohpaiaaGreatMgCycleTells1
import Derived.Test.YtojgiienohpaiaaGreatMgCycleTells6
import Derived.Test.YtojgiienohpaiaaGreatMgCycleTells2
import Derived.Deep.RegionLaw
namespace Go.Proofs.YtojgiienohpaiaaGreat
open Go.RowKit
open Un (Else StM rowI UFo own_else dg swp wp_world paint)
set_option maxRecDepth 100000
theorem knR_len (n : Nat) (kn : Kn) : (knR n kn).length = n * 2 := by
  induction n with
  | zero => rfl
  | succ n ih =>
    unfold knR at ih ⊢
    rw [List.range_succ, List.flatMap_append, List.length_append, ih]
    simp
    omega
theorem knR_snoc (n : Nat) (kn : Kn) : knR (n + 1) kn = knR n kn ++ [.int .i64 (oi (kn n).1), .int .i64 (oi (kn n).2)] := by
  unfold knR
  rw [List.range_succ, List.flatMap_append]
  simp
theorem knR_get {n : Nat} {kn : Kn} {i : Nat} (h : i < n) : (knR n kn)[i * 2]? = some (.int .i64 (oi (kn i).1)) ∧ (knR n kn)[i * 2 + 1]? = some (.int .i64 (oi (kn i).2)) := by
  induction n with
  | zero => omega
  | succ n ih =>
    rw [knR_snoc]
    have hl := knR_len n kn
    by_cases hi : i < n
    · rw [List.getElem?_append_left (by omega), List.getElem?_append_left (by omega)]
      exact ih hi
    · obtain rfl : i = n := by omega
      rw [List.getElem?_append_right (by omega), List.getElem?_append_right (by omega), hl, show i * 2 - i * 2 = 0 by omega, show i * 2 + 1 - i * 2 = 1 by omega]
      exact ⟨rfl, rfl⟩
def kup (kn : Kn) (r : Nat) (v : Option Nat × Option Nat) : Kn := fun i => if i = r then v else kn i
theorem knR_congr {n : Nat} {kn kn' : Kn} (h : ∀ i, i < n → kn i = kn' i) : knR n kn = knR n kn' := by
  unfold knR
  have : ∀ (l : List Nat), (∀ i ∈ l, i < n) → (l.flatMap fun i => ([.int .i64 (oi (kn i).1), .int .i64 (oi (kn i).2)] : List Value)) = l.flatMap fun i => [.int .i64 (oi (kn' i).1), .int .i64 (oi (kn' i).2)] := by
    intro l
    induction l with
    | nil => intro _; rfl
    | cons x l ih =>
      intro hl
      simp only [List.flatMap_cons]
      rw [h x (hl x List.mem_cons_self), ih fun i hi => hl i (List.mem_cons_of_mem _ hi)]
  exact this _ fun i hi => List.mem_range.1 hi
theorem knR_set {n : Nat} {kn : Kn} {r : Nat} (h : r < n) (v : Option Nat × Option Nat) : ((knR n kn).set (r * 2) (.int .i64 (oi v.1))).set (r * 2 + 1) (.int .i64 (oi v.2)) = knR n (kup kn r v) := by
  apply List.ext_getElem?
  intro j
  have hl := knR_len n kn
  have hl' := knR_len n (kup kn r v)
  by_cases hj : j < n * 2
  · obtain ⟨i, hi⟩ : ∃ i, j = i * 2 ∨ j = i * 2 + 1 := ⟨j / 2, by omega⟩
    have hin : i < n := by omega
    obtain ⟨g1, g2⟩ := knR_get (kn := kn) hin
    obtain ⟨k1, k2⟩ := knR_get (kn := kup kn r v) hin
    by_cases e : i = r
    · subst e
      rcases hi with rfl | rfl
      · rw [List.getElem?_set_ne (by omega), List.getElem?_set_self (by omega), k1]
        simp [kup]
      · rw [List.getElem?_set_self (by rw [List.length_set]; omega), k2]
        simp [kup]
    · rcases hi with rfl | rfl
      · rw [List.getElem?_set_ne (by omega), List.getElem?_set_ne (by omega), k1, g1]
        simp [kup, e]
      · rw [List.getElem?_set_ne (by omega), List.getElem?_set_ne (by omega), k2, g2]
        simp [kup, e]
  · rw [List.getElem?_eq_none (by simp; omega), List.getElem?_eq_none (by omega)]
def nmG (G : List Gn) (x : Nat) : Int := ((G[x]?).map fun p => p.2.1).getD 0
def ml (G : List Gn) : Option Nat → Option Nat → Option Nat
  | some x, some y => some (if nmG G x < nmG G y then x else y)
  | a, b => a.or b
def mr (nx : Nat → Nat) : Option Nat → Option Nat → Nat → Nat
  | some x, some y => swp nx x y
  | _, _ => nx
def Vn (n : Nat) (G : List Gn) (a : Option Nat) : Prop := ∀ x, a = some x → x < n ∧ ∃ p, G[x]? = some p ∧ p.1 = 1
section
variable {O T : Nat → Prop} {w w' : World} {cb : Nat} {A : Adr} {st : Int} {cl : Bool} {n : Nat} {G : List Gn} {kn : Kn} {nx col ro col' ro' : Nat → Nat} {fs fs' : Int}
theorem mix_cl (h : ClM O w cb A st cl n G kn nx col ro fs) (hnG : n ≤ G.length) (a b : Option Nat) (ha : Vn n G a) (hb : Vn n G b) (hd : ∀ x y, a = some x → b = some y → x ≠ y) :
    Calls Tryz.prog 93 #[.pointer (some ⟨cb, 0, none⟩), .int .i64 (oi a), .int .i64 (oi b)] w fun e w' => e = .returned (.int .i64 (oi (ml G a b))) ∧ ClM O w' cb A st cl n G kn (mr nx a b) col ro fs ∧ Else (fun k => A.N.ownBlock = some k) w w' := by
  cases a with
  | none =>
    refine (mix_none w cb none b (.inl rfl)).mono ?_
    rintro e w' ⟨rfl, rfl⟩
    refine ⟨by cases b <;> rfl, ?_, Else.refl _ _⟩
    cases b <;> exact h
  | some x => cases b with
    | none =>
      refine (mix_none w cb (some x) none (.inr rfl)).mono ?_
      rintro e w' ⟨rfl, rfl⟩
      exact ⟨rfl, h, Else.refl _ _⟩
    | some y =>
      obtain ⟨hx, p, hp, p1⟩ := ha x rfl
      obtain ⟨hy, q, hq, q1⟩ := hb y rfl
      refine (mix_both h hnG x y hx hy (hd x y rfl rfl) p q hp hq p1 q1).mono ?_
      rintro e w' ⟨rfl, h1, h2⟩
      refine ⟨?_, h1, h2⟩
      have e1 : nmG G x = p.2.1 := by simp [nmG, hp]
      have e2 : nmG G y = q.2.1 := by simp [nmG, hq]
      simp only [ml, e1, e2, oi]
theorem ClM.know (h : ClM O w cb A st cl n G kn nx col ro fs) {kn' : Kn} (he : Else (fun k => A.K.ownBlock = some k) w w') (hr : w'.ownsRow 0 124 2 A.K n (knR n kn')) : ClM O w' cb A st cl n G kn' nx col ro fs := by
  have hF := h.ks
  exact ⟨StX.keep h.sets he (fun e => (hF _ e).2.1 rfl) (fun e => (hF _ e).2.2.1 rfl) (fun e => (hF _ e).2.2.2.1 rfl) (fun k hk e => (hF k e).1 hk), h.gr.stay fun k hk => he.block k (h.gr.blocks hk) fun e => h.d k hk (.inr (.inr (.inr (.inr (.inl e))))), hr, own_else h.nr he fun k hk e => (hF k e).2.2.2.2 hk, h.d, h.ks, h.ns, h.own, fun k hk => Nat.lt_of_lt_of_le (h.sb k hk) he.size⟩
end
end Go.Proofs.YtojgiienohpaiaaGreat
namespace Go.Proofs.YtojgiienohpaiaaGreat
open Go.RowKit
open Un (Else StM rowI UFo own_else dg swp wp_world paint)
set_option maxRecDepth 100000
section
variable {O T : Nat → Prop} {w w' : World} {cb : Nat} {A : Adr} {st : Int} {cl : Bool} {n : Nat} {G : List Gn} {kn : Kn} {nx col ro col' ro' : Nat → Nat} {fs fs' : Int}
theorem join_cl (h : ClM O w cb A st cl n G kn nx col ro fs) (hnG : n ≤ G.length) (hst : 0 ≤ fs ∧ fs ≤ 10000000000000) (a b : Nat) (ha : a < n) (hb : b < n) (hva : Vn n G (kn a).2) (hvb : Vn n G (kn b).2) (hd : ∀ x y, (kn a).2 = some x → (kn b).2 = some y → x ≠ y) :
    Calls Tryz.prog 74 #[.pointer (some ⟨cb, 0, none⟩), .int .i64 (a : Nat), .int .i64 (b : Nat)] w fun e w' => e = .returned (.tuple #[]) ∧ ∃ (r k : Nat) (ro' : Nat → Nat), r < n ∧ (∀ i, i < n → ro' i = if paint col a b i = paint col a b r then r else ro i) ∧ (col r = col a ∨ col r = col b) ∧ k ≤ 2 * dg n ∧
      ClM O w' cb A st cl n G (kup kn r ((kn a).1.or (kn b).1, ml G (kn a).2 (kn b).2)) (mr nx (kn a).2 (kn b).2) (paint col a b) ro' (fs + k) ∧ Else O w w' := by
  obtain ⟨hl, hz, _, _, _, c6, _⟩ := h.cells
  obtain ⟨kb, cK, hK, _, _⟩ := Un.own_shape h.kr (by omega)
  have hrow := h.kr
  rw [hK] at c6 hrow
  have hlen := knR_len n kn
  have a0 : w.cell? ⟨kb, a * 2, none⟩ = some (.int .i64 (oi (kn a).1)) := (hrow.cellAt (a * 2) (by omega)).trans (knR_get ha).1
  have a1 : w.cell? ⟨kb, a * 2 + 1, none⟩ = some (.int .i64 (oi (kn a).2)) := (hrow.cellAt (a * 2 + 1) (by omega)).trans (knR_get ha).2
  have b0 : w.cell? ⟨kb, b * 2, none⟩ = some (.int .i64 (oi (kn b).1)) := (hrow.cellAt (b * 2) (by omega)).trans (knR_get hb).1
  have b1 : w.cell? ⟨kb, b * 2 + 1, none⟩ = some (.int .i64 (oi (kn b).2)) := (hrow.cellAt (b * 2 + 1) (by omega)).trans (knR_get hb).2
  have HH := Lib.hid h
  have HN := Lib.hid (And.intro hK hrow)
  clear h hrow hz hK
  obtain ⟨ma, hma⟩ : ∃ m, oi (kn a).1 = m := ⟨_, rfl⟩
  obtain ⟨la, hla⟩ : ∃ m, oi (kn a).2 = m := ⟨_, rfl⟩
  obtain ⟨mb, hmb⟩ : ∃ m, oi (kn b).1 = m := ⟨_, rfl⟩
  obtain ⟨lb, hlb⟩ : ∃ m, oi (kn b).2 = m := ⟨_, rfl⟩
  rw [hma] at a0
  rw [hla] at a1
  rw [hmb] at b0
  rw [hlb] at b1
  have HL := Lib.hid (And.intro hma (And.intro hla (And.intro hmb hlb)))
  clear hma hla hmb hlb
  go_enter Tryz.func74, Tryz.ntmps74
  go_wp2_with fail
  go_cut [6, 7] (fun s6 s7 wx => ∃ p q : Nat, s6 = .pointer (some ⟨p, 0, none⟩) ∧ s7 = .pointer (some ⟨q, 0, none⟩) ∧ p ≠ q ∧ w.heap.size ≤ p ∧ w.heap.size ≤ q ∧ wx.heap[p]? = some (Obj.cells #[.int .i64 ma, .int .i64 la] 124) ∧ wx.heap[q]? = some (Obj.cells #[.int .i64 mb, .int .i64 lb] 124) ∧ Below w.heap.size w wx)
  case first =>
    go_region
    · go_wp2_with fail
      go_meet
      refine ⟨_, _, rfl, rfl, by omega, by omega, by omega, ?_, ?_, (((Below.refl _ _).alloc (Nat.le_refl _) _).alloc (by simp) _).drew⟩
      · exact (Below.heap_alloc _ _ _ (by simp)).trans (heap_alloc_new _ _)
      · have h := heap_alloc_new (w.alloc (Obj.cells #[.int .i64 ma, .int .i64 la] 124)) (Obj.cells #[.int .i64 mb, .int .i64 lb] 124)
        rwa [World.size_alloc] at h
    · go_wp2_with fail
      go_meet
      refine ⟨_, _, rfl, rfl, by omega, by omega, by omega, ?_, ?_, (((Below.refl _ _).alloc (Nat.le_refl _) _).alloc (by simp) _).drew⟩
      · have h := heap_alloc_new (w.alloc (Obj.cells #[.int .i64 mb, .int .i64 lb] 124)) (Obj.cells #[.int .i64 ma, .int .i64 la] 124)
        rwa [World.size_alloc] at h
      · exact (Below.heap_alloc _ _ _ (by simp)).trans (heap_alloc_new _ _)
  case rest =>
    obtain ⟨p, q, rfl, rfl, hpq, hp, hq, hxp, hxq, hB⟩ := hcut
    have p0 : wc.cell? ⟨p, 0, none⟩ = some (.int .i64 ma) := cell_of_row wc p 0 _ _ (0, 0) hxp
    have q0 : wc.cell? ⟨q, 0, none⟩ = some (.int .i64 mb) := cell_of_row wc q 0 _ _ (0, 0) hxq
    have zp : wc.frozen? ⟨p, 0, none⟩ = false := by simp [World.frozen?, hxp]
    have HX := Lib.hid (And.intro hxp (And.intro hxq hB))
    have hpl := (Array.getElem?_eq_some_iff.1 hxp).1
    clear a0 a1 b0 b1 c6 hl hxp hxq hB
    go_upto_if 24 with (fail)
    go_cut [] (fun wx => wx.heap[p]? = some (Obj.cells #[.int .i64 (oi ((kn a).1.or (kn b).1)), .int .i64 la] 124) ∧ wx.heap[q]? = some (Obj.cells #[.int .i64 mb, .int .i64 lb] 124) ∧ Below w.heap.size w wx)
    case first =>
      obtain ⟨hma, _, hmb, _⟩ := HL.out
      obtain ⟨hxp, hxq, hB⟩ := HX.out
      cases hka : (kn a).1 with
      | none =>
        rw [hka] at hma
        have f1 : (ma == -1) = true := by rw [← hma]; rfl
        have HY := Lib.hid (And.intro hxp (And.intro hxq (And.intro hB hmb)))
        clear hxp hxq hB hmb hma
        go_wp2_with fail
        go_meet
        obtain ⟨hxp, hxq, hB, hmb⟩ := HY.out
        refine ⟨?_, (Below.heap_setCell _ ⟨p, 0, none⟩ _ _ (by rintro h; exact hpq h.symm)).trans hxq, hB.setCell (p := ⟨p, 0, none⟩) hp _⟩
        rw [hka, show oi ((none : Option Nat).or (kn b).1) = mb from hmb]
        exact heap_setCell_same wc p 0 _ _ _ hxp
      | some x =>
        rw [hka] at hma
        have f1 : (ma == -1) = false := by rw [← hma]; exact oi_none x
        have HY := Lib.hid (And.intro hxp (And.intro hxq (And.intro hB hma)))
        clear hxp hxq hB hma hmb
        go_wp2_with fail
        go_meet
        obtain ⟨hxp, hxq, hB, hma⟩ := HY.out
        exact ⟨by rw [hka, show oi ((some x).or (kn b).1) = ma from hma]; exact hxp, hxq, hB⟩
    case rest =>
      clear p0 q0 zp hpl HX
      obtain ⟨hxp, hxq, hB⟩ := hcut
      have hC := HH.out.below hB
      have HM := mix_cl hC hnG (kn a).2 (kn b).2 hva hvb hd
      obtain ⟨_, hla, _, hlb⟩ := HL.out
      rw [hla, hlb] at HM
      have p1 : wc.cell? ⟨p, 1, none⟩ = some (.int .i64 la) := cell_of_row wc p 1 _ _ (0, 0) hxp
      have q1 : wc.cell? ⟨q, 1, none⟩ = some (.int .i64 lb) := cell_of_row wc q 1 _ _ (0, 0) hxq
      have HY := Lib.hid (And.intro hxp hB)
      clear hxp hxq hB hC hla hlb
      go_wp2_with fail
      refine HM.mono ?_
      rintro e w3 ⟨rfl, hC3, hE3⟩
      have hpN : ∀ k, A.N.ownBlock = some k → k < w.heap.size := fun k hk => (HH.out.nr.lt k hk).2
      have hpl : p < wc.heap.size := (Array.getElem?_eq_some_iff.1 HY.out.1).1
      have hx3 := (hE3.block p hpl fun hk => by have := hpN p hk; omega).trans HY.out.1
      have hl3 := (Array.getElem?_eq_some_iff.1 hx3).1
      have p2 : w3.cell? ⟨p, 1, none⟩ = some (.int .i64 la) := cell_of_row w3 p 1 _ _ (0, 0) hx3
      have z2 : w3.frozen? ⟨p, 1, none⟩ = false := by simp [World.frozen?, hx3]
      obtain ⟨lm, hlm⟩ : ∃ m, oi (ml G (kn a).2 (kn b).2) = m := ⟨_, rfl⟩
      rw [hlm]
      have HZ := Lib.hid (And.intro hx3 (And.intro hC3 (And.intro hE3 hlm)))
      clear hx3 hC3 hE3 hlm hpN HM p1 q1 hpl
      go_upto_region 4 with fail
      refine wp_world (fun V => V.heap[p]? = some (Obj.cells #[.int .i64 (oi ((kn a).1.or (kn b).1)), .int .i64 lm] 124) ∧ ClM O V cb A st cl n G kn (mr nx (kn a).2 (kn b).2) col ro fs ∧ Else O w V) ?_ ?_
      · obtain ⟨hx3, hC3, hE3, _⟩ := HZ.out
        have hEp : Else (fun k => k = p) w3 (w3.setCell ⟨p, 1, none⟩ (.int .i64 lm)) := Un.Else.set (S := fun k => k = p) w3 (p := ⟨p, 1, none⟩) rfl _
        refine ⟨heap_setCell_same w3 p 1 _ _ _ hx3, hC3.aside hEp fun k hk e => ?_, ((((Else.of_below (S := fun k => O k ∨ k = p) HY.out.2).trans (hE3.mono fun k hk => .inl (HH.out.own k (.inr (.inr (.inr (.inr (.inr (.inr hk)))))))))).trans (hEp.mono fun k hk => .inr hk)).old fun k hk => hk.imp id fun e => by omega⟩
        have := HH.out.lt hk
        omega
      rintro V ⟨hx, hV, hE⟩
      have hlm := HZ.out.2.2.2
      clear p2 z2 hl3 HZ HY
      have hVd := hV.below (Below.refl _ V).drew
      have HJ := Un.join_st (hVd.stm (by omega)) hst a b ha hb
      obtain ⟨hl, _, _, _, _, c6, _⟩ := hV.cells
      rw [HN.out.1] at c6
      have p0 : V.cell? ⟨p, 0, none⟩ = some (.int .i64 (oi ((kn a).1.or (kn b).1))) := cell_of_row V p 0 _ _ (0, 0) hx
      have p1 : V.cell? ⟨p, 1, none⟩ = some (.int .i64 lm) := cell_of_row V p 1 _ _ (0, 0) hx
      have hpl := (Array.getElem?_eq_some_iff.1 hx).1
      have hpS : ¬ A.S p := fun h => by have := HH.out.sb p h; omega
      have HV := Lib.hid (And.intro hx (And.intro hVd hE))
      clear hx hV hVd hE
      obtain ⟨S0, hSof, hSto⟩ : ∃ S0 : World → Prop, (∀ W : World, W.cell? ⟨cb, 6, none⟩ = some (.slice (some ⟨kb, 0, none⟩) n cK) ∧ W.cell? ⟨p, 0, none⟩ = some (.int .i64 (oi ((kn a).1.or (kn b).1))) ∧ W.cell? ⟨p, 1, none⟩ = some (.int .i64 lm) → S0 W) ∧ (∀ W, S0 W → W.cell? ⟨cb, 6, none⟩ = some (.slice (some ⟨kb, 0, none⟩) n cK) ∧ W.cell? ⟨p, 0, none⟩ = some (.int .i64 (oi ((kn a).1.or (kn b).1))) ∧ W.cell? ⟨p, 1, none⟩ = some (.int .i64 lm)) := ⟨_, fun _ h => h, fun _ h => h⟩
      have hS : S0 V.drew := hSof _ ⟨c6, p0, p1⟩
      have EX := Lib.hid hSto
      have HSOF := Lib.hid hSof
      have HJH := Lib.hid HJ
      clear hSof hSto HJ c6 p0 p1
      refine wp_region_held (S := S0) (by kernel_rfl) ?_
      change wpAnyH _ _ _ _ _ 13 (List.replicate 13 false).toArray _ V.drew
      simp only [List.replicate_succ, List.replicate_zero]
      refine any_take (i := 0) (some 35) (.pointer (some ⟨cb, 0, none⟩)) rfl (by rfl) (by kernel_rfl) (by kernel_rfl) (by kernel_rfl) (fun _ _ _ h => h) (Or.inl ⟨by kernel_rfl, (fun w hw => by clear hw; go_simp)⟩) hS ?_
      simp only [Act.put, List.setIfInBounds_toArray, List.set_cons_zero, List.set_cons_succ]
      refine any_take (i := 1) (some 36) (.pointer (some ⟨cb, 0, none⟩)) rfl (by rfl) (by kernel_rfl) (by kernel_rfl) (by kernel_rfl) (fun _ _ _ h => h) (Or.inl ⟨by kernel_rfl, (fun w hw => by clear hw; go_simp)⟩) hS ?_
      simp only [Act.put, List.setIfInBounds_toArray, List.set_cons_zero, List.set_cons_succ]
      refine any_take (i := 2) (some 37) (.pointer (some ⟨cb, 6, none⟩)) rfl (by rfl) (by kernel_rfl) (by kernel_rfl) (by kernel_rfl) (fun _ _ _ h => h) (Or.inl ⟨by kernel_rfl, (fun w hw => by clear hw; go_simp)⟩) hS ?_
      simp only [Act.put, List.setIfInBounds_toArray, List.set_cons_zero, List.set_cons_succ]
      refine any_take (i := 3) (some 38) (.slice (some ⟨kb, 0, none⟩) n cK) rfl (by rfl) (by kernel_rfl) (by kernel_rfl) (by kernel_rfl) (fun _ _ _ h => h) (Or.inl ⟨by kernel_rfl, (fun w hw => by obtain ⟨n0, n1, n2⟩ := EX.out w hw; clear hw; go_simp)⟩) hS ?_
      simp only [Act.put, List.setIfInBounds_toArray, List.set_cons_zero, List.set_cons_succ]
      refine any_take (i := 4) (some 39) (.pointer (some ⟨cb, 0, none⟩)) rfl (by rfl) (by kernel_rfl) (by kernel_rfl) (by kernel_rfl) (fun _ _ _ h => h) (Or.inl ⟨by kernel_rfl, (fun w hw => by clear hw; go_simp)⟩) hS ?_
      simp only [Act.put, List.setIfInBounds_toArray, List.set_cons_zero, List.set_cons_succ]
      refine any_take (i := 5) (some 40) (.pointer (some ⟨cb, 0, none⟩)) rfl (by rfl) (by kernel_rfl) (by kernel_rfl) (by kernel_rfl) (fun _ _ _ h => h) (Or.inl ⟨by kernel_rfl, (fun w hw => by clear hw; go_simp)⟩) hS ?_
      simp only [Act.put, List.setIfInBounds_toArray, List.set_cons_zero, List.set_cons_succ]
      refine any_take (i := 6) (some 41) (.pointer (some ⟨cb, 3, none⟩)) rfl (by rfl) (by kernel_rfl) (by kernel_rfl) (by kernel_rfl) (fun _ _ _ h => h) (Or.inl ⟨by kernel_rfl, (fun w hw => by clear hw; go_simp)⟩) hS ?_
      simp only [Act.put, List.setIfInBounds_toArray, List.set_cons_zero, List.set_cons_succ]
      refine any_take (i := 7) (some 42) (.int .i64 (a : Nat)) rfl (by rfl) (by kernel_rfl) (by kernel_rfl) (by kernel_rfl) (fun _ _ _ h => h) (Or.inl ⟨by kernel_rfl, (fun w hw => by clear hw; go_simp)⟩) hS ?_
      simp only [Act.put, List.setIfInBounds_toArray, List.set_cons_zero, List.set_cons_succ]
      refine any_take (i := 8) (some 43) (.int .i64 (b : Nat)) rfl (by rfl) (by kernel_rfl) (by kernel_rfl) (by kernel_rfl) (fun _ _ _ h => h) (Or.inl ⟨by kernel_rfl, (fun w hw => by clear hw; go_simp)⟩) hS ?_
      simp only [Act.put, List.setIfInBounds_toArray, List.set_cons_zero, List.set_cons_succ]
      refine any_take (i := 10) (some 45) (.agg #[.int .i64 (oi ((kn a).1.or (kn b).1)), .int .i64 lm]) rfl (by rfl) (by kernel_rfl) (by kernel_rfl) (by kernel_rfl) (fun _ _ _ h => h) (Or.inl ⟨by kernel_rfl, (fun w hw => by obtain ⟨n0, n1, n2⟩ := EX.out w hw; clear hw; go_simp)⟩) hS ?_
      simp only [Act.put, List.setIfInBounds_toArray, List.set_cons_zero, List.set_cons_succ]
      refine wpAnyH_all (rs := [9]) (by kernel_rfl) (by simp) fun q' hq' => ?_
      obtain rfl : q' = 9 := by simpa using hq'
      refine ops_call (d := some 44) rfl (by rfl) (by kernel_rfl) (by go_simp) (HJH.out.mono ?_)
      rintro e w5 ⟨r, k, ro', rfl, hr, hrr, hc, hk, hs, he⟩
      have hC5 := HV.out.2.1.turn he hs
      have kr5 := hC5.kr
      have hx5 := (he.block p hpl hpS).trans HV.out.1
      obtain ⟨_, _, _, _, _, c65, _⟩ := hC5.cells
      rw [HN.out.1] at kr5 c65
      have hl5 := knR_len n kn
      have s0 := (kr5.cellAt (r * 2) (by omega)).trans (knR_get hr).1
      have s1 := (kr5.cellAt (r * 2 + 1) (by omega)).trans (knR_get hr).2
      have z0 := kr5.frozenAt (r * 2)
      have z1 := kr5.frozenAt (r * 2 + 1)
      have hS5 := HSOF.out w5 ⟨c65, cell_of_row w5 p 0 _ _ (0, 0) hx5, cell_of_row w5 p 1 _ _ (0, 0) hx5⟩
      have HW := Lib.hid (And.intro hC5 (And.intro kr5 (And.intro hx5 (And.intro he (And.intro hrr (And.intro hc hk))))))
      clear hs he hC5 kr5 hx5 c65 hrr hc hk
      refine ⟨_, rfl, hS5, ?_⟩
      simp only [Act.put, List.setIfInBounds_toArray, List.set_cons_zero, List.set_cons_succ]
      refine any_take (i := 11) (some 46) (.pointer (some ⟨kb, r * 2, none⟩)) rfl (by rfl) (by kernel_rfl) (by kernel_rfl) (by kernel_rfl) (fun _ _ _ h => h) (Or.inl ⟨by kernel_rfl, (fun w hw => by clear hw; go_simp)⟩) hS5 ?_
      simp only [Act.put, List.setIfInBounds_toArray, List.set_cons_zero, List.set_cons_succ]
      refine wpAnyH_all (rs := [12]) (by kernel_rfl) (by simp) fun q' hq' => ?_
      obtain rfl : q' = 12 := by simpa using hq'
      have hSf : S0 ((w5.setCell ⟨kb, r * 2, none⟩ (.int .i64 (oi ((kn a).1.or (kn b).1)))).setCell ⟨kb, r * 2 + 1, none⟩ (.int .i64 lm)) := by
        have hkb := HH.out.ks kb (by rw [HN.out.1]; rfl)
        have hkl := (HN.out.2.lt kb rfl).2
        have hE6 : Else (fun k => k = kb) w5 ((w5.setCell ⟨kb, r * 2, none⟩ (.int .i64 (oi ((kn a).1.or (kn b).1)))).setCell ⟨kb, r * 2 + 1, none⟩ (.int .i64 lm)) := (Un.Else.set (S := fun k => k = kb) w5 (p := ⟨kb, r * 2, none⟩) rfl _).trans (Un.Else.set (S := fun k => k = kb) _ (p := ⟨kb, r * 2 + 1, none⟩) rfl _)
        obtain ⟨d1, d2, d3⟩ := EX.out w5 hS5
        have bc := hE6.block cb (World.block_lt_of_cell? _ _ d1) (fun e => hkb.2.1 e.symm)
        have bp := hE6.block p (World.block_lt_of_cell? _ _ d2) (fun e => by omega)
        exact HSOF.out _ ⟨(World.cell?_of_block bc).trans d1, (World.cell?_of_block bp).trans d2, (World.cell?_of_block bp).trans d3⟩
      refine ops_skip (w' := (w5.setCell ⟨kb, r * 2, none⟩ (.int .i64 (oi ((kn a).1.or (kn b).1)))).setCell ⟨kb, r * 2 + 1, none⟩ (.int .i64 lm)) rfl (by kernel_rfl) (by go_simp) hSf rfl ?_
      refine wpAnyH_done (by kernel_rfl) ?_ _
      obtain ⟨hC5, kr5, hx5, he, hrr, hc, hk⟩ := HW.out
      have hKo : ∀ k, k = kb → A.K.ownBlock = some k := fun k hk => by rw [HN.out.1, hk]; rfl
      have hE6 : Else (fun k => A.K.ownBlock = some k) w5 ((w5.setCell ⟨kb, r * 2, none⟩ (.int .i64 (oi ((kn a).1.or (kn b).1)))).setCell ⟨kb, r * 2 + 1, none⟩ (.int .i64 lm)) := (Un.Else.set (S := fun k => A.K.ownBlock = some k) w5 (p := ⟨kb, r * 2, none⟩) (hKo _ rfl) _).trans (Un.Else.set (S := fun k => A.K.ownBlock = some k) _ (p := ⟨kb, r * 2 + 1, none⟩) (hKo _ rfl) _)
      obtain ⟨o1, _⟩ := kr5.stored (r * 2) (.int .i64 (oi ((kn a).1.or (kn b).1)))
      obtain ⟨o2, _⟩ := o1.stored (r * 2 + 1) (.int .i64 lm)
      rw [← hlm, knR_set hr ((kn a).1.or (kn b).1, ml G (kn a).2 (kn b).2), hlm, ← HN.out.1] at o2
      exact bodyPost_end (results_none rfl _ _ _) rfl ⟨rfl, r, k, ro', hr, hrr, hc, hk, hC5.know hE6 o2, (HV.out.2.2.trans ((⟨he.os, he.tape, he.output, he.size, he.block⟩ : Else A.S V w5).mono fun k hk => HH.out.own k (.inr (.inl hk)))).trans (hE6.mono fun k hk => HH.out.own k (.inr (.inr (.inr (.inr (.inr (.inl hk)))))))⟩
end
end Go.Proofs.YtojgiienohpaiaaGreat
namespace Go.Proofs.YtojgiienohpaiaaGreat
open Un (paint paint_eq)
structure Ls (G : List Gn) (n : Nat) (c : Nat → Nat) (le : Nat → Option Nat) : Prop where
  is : ∀ i l, i < n → le i = some l → l < n ∧ (∃ p, G[l]? = some p ∧ p.1 = 1) ∧ c l = c i ∧ ∀ v p, G[v]? = some p → p.1 = 1 → c v = c i → nmG G l ≤ p.2.1
  no : ∀ i v p, i < n → le i = none → G[v]? = some p → p.1 = 1 → c v ≠ c i
structure Js (G : List Gn) (n : Nat) (col ro : Nat → Nat) (kn : Kn) (E T : List (Nat × Nat)) : Prop where
  jn : Jn G col E T
  len : n = G.length
  md : Md G col fun i => (kn (ro i)).1
  le : Ls G n col fun i => (kn (ro i)).2
  rt : ∀ i, i < n → ro i < n ∧ col (ro i) = col i
  un : ∀ i j, i < n → j < n → col i = col j → ro i = ro j
section
variable {G : List Gn} {n : Nat} {col ro ro' : Nat → Nat} {kn : Kn} {E T V : List (Nat × Nat)} {x y r : Nat}
theorem Js.pair (h : Js G n col ro kn E (T ++ [(x, y)])) : x < n ∧ y < n := by
  obtain ⟨h1, h2, _⟩ := h.jn.todo x y (by simp)
  have := h.len
  omega
theorem Js.skip (h : Js G n col ro kn E (T ++ [(x, y)])) (e : ro x = ro y) : Js G n col ro kn E T := by
  obtain ⟨hx, hy⟩ := h.pair
  exact ⟨h.jn.skip (a := x) (b := y) (fun e => by simp [or_comm]) (by rw [← (h.rt x hx).2, ← (h.rt y hy).2, e]), h.len, h.md, h.le, h.rt, h.un⟩
theorem Md.congr {c : Nat → Nat} {m m' : Nat → Option Nat} (h : Md G c m) (e : ∀ i, i < G.length → m' i = m i) : Md G c m' := by
  refine ⟨fun i j hi hj hc => by rw [e i hi, e j hj]; exact h.col i j hi hj hc, fun i p hp hn => ?_, fun i k hi hk => ?_⟩
  · rw [e i (lt_of_get hp)] at hn
    exact h.none i p hp hn
  · rw [e i hi] at hk
    exact h.some i k hi hk
theorem roots_join (h : Js G n col ro kn E T) (hx : x < n) (hy : y < n) (_hr : r < n) (hrc : col r = col (ro x) ∨ col r = col (ro y))
    (hro : ∀ i, i < n → ro' i = if paint col (ro x) (ro y) i = paint col (ro x) (ro y) r then r else ro i) (v : Option Nat × Option Nat) (i : Nat) (hi : i < n) :
    kup kn r v (ro' i) = if col i = col x ∨ col i = col y then v else kn (ro i) := by
  have cx := (h.rt x hx).2
  have cy := (h.rt y hy).2
  have hp : paint col (ro x) (ro y) i = paint col (ro x) (ro y) r ↔ (col i = col x ∨ col i = col y) := by
    rw [paint_eq, cx, cy]
    rw [cx, cy] at hrc
    constructor
    · rintro (e | ⟨e, _⟩)
      · exact hrc.imp (fun f => e.trans f) fun f => e.trans f
      · exact e
    · intro e
      exact .inr ⟨e, hrc⟩
  rw [hro i hi]
  by_cases hc : col i = col x ∨ col i = col y
  · rw [if_pos (hp.2 hc), if_pos hc]
    simp [kup]
  · rw [if_neg (fun e => hc (hp.1 e)), if_neg hc]
    have hne : ro i ≠ r := fun e => hc (by
      have := (h.rt i hi).2
      rw [e] at this
      rw [← this, ← cx, ← cy]
      exact hrc)
    simp [kup, hne]
theorem Js.join (h : Js G n col ro kn E (T ++ [(x, y)])) (hr : r < n) (hrc : col r = col (ro x) ∨ col r = col (ro y))
    (hro : ∀ i, i < n → ro' i = if paint col (ro x) (ro y) i = paint col (ro x) (ro y) r then r else ro i) (hJ : Jn G (paint col (ro x) (ro y)) E V) :
    Js G n (paint col (ro x) (ro y)) ro' (kup kn r ((kn (ro x)).1.or (kn (ro y)).1, ml G (kn (ro x)).2 (kn (ro y)).2)) E V := by
  obtain ⟨hx, hy⟩ := h.pair
  have cx := (h.rt x hx).2
  have cy := (h.rt y hy).2
  have hlen := h.len
  have hk := fun v i hi => roots_join h hx hy hr hrc hro v i hi
  have hpe : ∀ i j, paint col (ro x) (ro y) i = paint col (ro x) (ro y) j ↔ (col i = col j ∨ (col i = col x ∨ col i = col y) ∧ (col j = col x ∨ col j = col y)) := fun i j => by rw [paint_eq, cx, cy]
  refine ⟨hJ, hlen, ?_, ?_, fun i hi => ?_, fun i j hi hj e => ?_⟩
  · refine (h.md.join (d := paint col (ro x) (ro y)) (a := x) (b := y) (by omega) (by omega) hpe).congr fun i hi => ?_
    rw [hk _ i (by omega)]
    split <;> rfl
  · refine ⟨fun i l hi hl => ?_, fun i v p hi hl hv hp => ?_⟩
    · rw [hk _ i hi] at hl
      by_cases hc : col i = col x ∨ col i = col y
      · rw [if_pos hc] at hl
        dsimp only at hl
        have key : ∀ l, ((kn (ro x)).2 = some l ∨ (kn (ro y)).2 = some l) → l < n ∧ (∃ p, G[l]? = some p ∧ p.1 = 1) ∧ paint col (ro x) (ro y) l = paint col (ro x) (ro y) i := by
          rintro l (e | e)
          · obtain ⟨g1, g2, g3, _⟩ := h.le.is x l hx e
            exact ⟨g1, g2, (hpe _ _).2 (.inr ⟨.inl g3, hc⟩)⟩
          · obtain ⟨g1, g2, g3, _⟩ := h.le.is y l hy e
            exact ⟨g1, g2, (hpe _ _).2 (.inr ⟨.inr g3, hc⟩)⟩
        have hmin : ∀ v p, G[v]? = some p → p.1 = 1 → paint col (ro x) (ro y) v = paint col (ro x) (ro y) i → nmG G l ≤ p.2.1 := by
          intro v p hv hp hvi
          have hvc : col v = col x ∨ col v = col y := by
            rcases (hpe _ _).1 hvi with e | ⟨e, _⟩
            · rw [e]; exact hc
            · exact e
          cases hlx : (kn (ro x)).2 with
          | none =>
            rw [hlx] at hl
            have hl2 : (kn (ro y)).2 = some l := by
              cases hly : (kn (ro y)).2 <;> (rw [hly] at hl; exact hl)
            rcases hvc with e | e
            · exact absurd e (h.le.no x v p hx hlx hv hp)
            · exact (h.le.is y l hy hl2).2.2.2 v p hv hp e
          | some lx =>
            cases hly : (kn (ro y)).2 with
            | none =>
              rw [hlx, hly] at hl
              have hl2 : (kn (ro x)).2 = some l := hlx.trans hl
              rcases hvc with e | e
              · exact (h.le.is x l hx hl2).2.2.2 v p hv hp e
              · exact absurd e (h.le.no y v p hy hly hv hp)
            | some ly =>
              rw [hlx, hly] at hl
              have hl2 : (if nmG G lx < nmG G ly then lx else ly) = l := Option.some.inj hl
              rcases hvc with e | e
              · have := (h.le.is x lx hx hlx).2.2.2 v p hv hp e
                rw [← hl2]
                split <;> omega
              · have := (h.le.is y ly hy hly).2.2.2 v p hv hp e
                rw [← hl2]
                split <;> omega
        have hor : (kn (ro x)).2 = some l ∨ (kn (ro y)).2 = some l := by
          cases hlx : (kn (ro x)).2 with
          | none =>
            rw [hlx] at hl
            right
            cases hly : (kn (ro y)).2 <;> (rw [hly] at hl; exact hl)
          | some lx =>
            cases hly : (kn (ro y)).2 with
            | none => rw [hlx, hly] at hl; exact .inl hl
            | some ly =>
              rw [hlx, hly] at hl
              have hl2 : (if nmG G lx < nmG G ly then lx else ly) = l := Option.some.inj hl
              rw [← hl2]
              split
              · exact .inl rfl
              · exact .inr rfl
        obtain ⟨k1, k2, k3⟩ := key l hor
        exact ⟨k1, k2, k3, hmin⟩
      · rw [if_neg hc] at hl
        obtain ⟨g1, g2, g3, g4⟩ := h.le.is i l hi hl
        refine ⟨g1, g2, (hpe _ _).2 (.inl g3), fun v p hv hp hvi => g4 v p hv hp ?_⟩
        rcases (hpe _ _).1 hvi with e | ⟨_, e⟩
        · exact e
        · exact absurd e hc
    · rw [hk _ i hi] at hl
      intro hvi
      by_cases hc : col i = col x ∨ col i = col y
      · rw [if_pos hc] at hl
        dsimp only at hl
        have hvc : col v = col x ∨ col v = col y := by
          rcases (hpe _ _).1 hvi with e | ⟨e, _⟩
          · rw [e]; exact hc
          · exact e
        have hn : (kn (ro x)).2 = none ∧ (kn (ro y)).2 = none := by
          cases hlx : (kn (ro x)).2 <;> cases hly : (kn (ro y)).2 <;> rw [hlx, hly] at hl <;> first | exact ⟨rfl, rfl⟩ | cases hl
        rcases hvc with e | e
        · exact h.le.no x v p hx hn.1 hv hp e
        · exact h.le.no y v p hy hn.2 hv hp e
      · rw [if_neg hc] at hl
        rcases (hpe _ _).1 hvi with e | ⟨_, e⟩
        · exact h.le.no i v p hi hl hv hp e
        · exact hc e
  · rw [hro i hi]
    split
    · exact ⟨hr, Eq.symm ‹_›⟩
    · exact ⟨(h.rt i hi).1, (hpe _ _).2 (.inl (h.rt i hi).2)⟩
  · rw [hro i hi, hro j hj, e]
    split
    · rfl
    · rename_i hne
      rcases (hpe _ _).1 e with e2 | ⟨_, e3⟩
      · exact h.un i j hi hj e2
      · exact absurd ((hpe _ _).2 (.inr ⟨e3, by rw [← cx, ← cy]; exact hrc⟩)) hne
end
end Go.Proofs.YtojgiienohpaiaaGreat
namespace Go.Proofs.YtojgiienohpaiaaGreat
open Go.RowKit
set_option maxRecDepth 100000
def ptV (c : Option Nat) (r : Int) : Value := .agg #[.pointer (c.map fun b => ⟨b, 0, none⟩), .int .i64 r]
theorem load_pt {w : World} {g : Nat} {c : Option Nat} {r : Int} (h0 : w.cell? ⟨g, 0, none⟩ = some (.pointer (c.map fun b => ⟨b, 0, none⟩))) (h1 : w.cell? ⟨g, 1, none⟩ = some (.int .i64 r)) : (loadVar 78 ⟨g, 0, none⟩).run Tryz.prog w = .ok (ptV c r) w := by
  unfold ptV
  go_simp
end Go.Proofs.YtojgiienohpaiaaGreat
namespace Go.Proofs.YtojgiienohpaiaaGreat
open Go.RowKit
open Un (Else StM rowI UFo own_else dg swp wp_world paint)
set_option maxRecDepth 100000
section
variable {O T : Nat → Prop} {w w' : World} {cb : Nat} {A : Adr} {st : Int} {cl : Bool} {n : Nat} {G : List Gn} {kn : Kn} {nx col ro col' ro' : Nat → Nat} {fs fs' : Int}
def errN (cl : Bool) : Int := if cl then 7 else 0
theorem err_cl (h : ClM O w cb A st cl n G kn nx col ro fs) : Calls Tryz.prog 36 #[.pointer (some ⟨cb, 0, none⟩)] w fun e w' => e = .returned (.int .i64 (errN cl)) ∧ w' = w := by
  obtain ⟨hl, hz, c0, c1, c2, c6, c7⟩ := h.cells
  clear h hz c0 c2 c6 c7
  cases cl with
  | true =>
    go_enter Tryz.func36, Tryz.ntmps36
    go_wp2_with fail
    exact bodyPost_ret (results_tmp rfl _ _ _) rfl ⟨rfl, rfl⟩
  | false =>
    go_enter Tryz.func36, Tryz.ntmps36
    go_wp2_with fail
    exact bodyPost_ret (results_tmp rfl _ _ _) rfl ⟨rfl, rfl⟩
theorem node_cl (h : ClM O w cb A st cl n G kn nx col ro fs) (v : Int) (hv : (Lit.int .i64 v).wf = true) : Calls Tryz.prog 59 #[.pointer (some ⟨cb, 0, none⟩), .int .i64 v] w fun e w' => e = .returned (.tuple #[.int .i64 ((gvar G v).getD 0 : Nat), .bool (gvar G v).isSome]) ∧ Below w.heap.size w w' := by
  obtain ⟨hl, hz, c0, c1, c2, c6, c7⟩ := h.cells
  have HV := var_graph w 0 A.g A.mb A.V A.L G h.gr v hv
  obtain ⟨z, hz'⟩ : ∃ z : Nat, (gvar G v).getD 0 = z := ⟨_, rfl⟩
  obtain ⟨b, hb⟩ : ∃ b, (gvar G v).isSome = b := ⟨_, rfl⟩
  rw [hz', hb] at HV ⊢
  clear h hz c0 c1 c6 c7 hz' hb
  go_enter Tryz.func59, Tryz.ntmps59
  go_wp2_with fail
  refine HV.mono ?_
  rintro e w' ⟨rfl, hb2⟩
  go_wp2_with fail
  exact bodyPost_ret (results_tmp2 rfl _ _ _) rfl ⟨rfl, hb2⟩
theorem part_cl (h : ClM O w cb A st cl n G kn nx col ro fs) (hst : 0 ≤ fs ∧ fs ≤ 10000000000000) (i : Nat) (hi : i < n) : Calls Tryz.prog 60 #[.pointer (some ⟨cb, 0, none⟩), .int .i64 (i : Nat)] w fun e w' => ∃ k : Nat, e = .returned (ptV (some cb) (ro i : Nat)) ∧ k ≤ dg n ∧ ClM O w' cb A st cl n G kn nx col ro (fs + k) ∧ Else A.S w w' := by
  have hb0 : Below w.heap.size w (w.alloc (.cells #[.pointer none, .int .i64 0] 78)) := (Below.refl _ _).alloc (Nat.le_refl _) _
  have h1 := h.below hb0
  have HR := Un.root_st (h1.stm (by omega)) (by omega) i hi
  obtain ⟨hl, hz, c0, c1, c2, c6, c7⟩ := h1.cells
  have HH := Lib.hid (And.intro h h1)
  clear h h1 hz c0 c1 c2 c6 c7 hb0
  go_enter Tryz.func60, Tryz.ntmps60
  go_wp2_with fail
  refine HR.mono ?_
  rintro e w2 ⟨k, rfl, hk, hs, he⟩
  have hgS : ¬ A.S w.heap.size := fun hx => Nat.lt_irrefl _ (HH.out.1.sb _ hx)
  have hx2 := (he.block w.heap.size (by simp) hgS).trans (heap_alloc_new w (.cells #[.pointer none, .int .i64 0] 78))
  have hxl := (Array.getElem?_eq_some_iff.1 hx2).1
  have d0 : w2.cell? ⟨w.heap.size, 0, none⟩ = some (.pointer none) := cell_of_row w2 _ 0 _ _ (0, 0) hx2
  have d1 : w2.cell? ⟨w.heap.size, 1, none⟩ = some (.int .i64 0) := cell_of_row w2 _ 1 _ _ (0, 0) hx2
  have z0 : w2.frozen? ⟨w.heap.size, 0, none⟩ = false := by simp [World.frozen?, hx2]
  have z1 : w2.frozen? ⟨w.heap.size, 1, none⟩ = false := by simp [World.frozen?, hx2]
  have HS := Lib.hid (And.intro hk (And.intro hs (And.intro he hx2)))
  clear hk hs he hx2 HR hgS
  go_wp2_with fail
  obtain ⟨hk, hs, he, hx2⟩ := HS.out
  have hC2 := HH.out.2.turn he hs
  have hE : Else (fun k => k = w.heap.size) w2 ((w2.setCell ⟨w.heap.size, 0, none⟩ (.pointer (some ⟨cb, 0, none⟩))).setCell ⟨w.heap.size, 1, none⟩ (.int .i64 (ro i : Nat))) := (Un.Else.set (S := fun k => k = w.heap.size) w2 (p := ⟨w.heap.size, 0, none⟩) rfl _).trans (Un.Else.set (S := fun k => k = w.heap.size) _ (p := ⟨w.heap.size, 1, none⟩) rfl _)
  have hx4 := heap_setCell_same _ w.heap.size 1 _ _ (.int .i64 (ro i : Nat)) (heap_setCell_same w2 w.heap.size 0 _ _ (.pointer (some ⟨cb, 0, none⟩)) hx2)
  refine bodyPost_ret (results_box rfl _ _ w.heap.size (ptV (some cb) (ro i : Nat)) rfl (load_pt (c := some cb) (cell_of_row _ _ 0 _ _ (0, 0) hx4) (cell_of_row _ _ 1 _ _ (0, 0) hx4))) rfl ⟨k, rfl, hk, hC2.aside hE fun j hj e => by have := HH.out.1.lt hj; omega, ?_⟩
  exact (((Else.of_below (S := fun k => A.S k ∨ k = w.heap.size) ((Below.refl _ w).alloc (Nat.le_refl _) _)).trans (he.mono fun k hk => .inl hk)).trans (hE.mono fun k hk => .inr hk)).old fun k hk => hk.imp id fun e => by omega
theorem pt_store {w2 : World} {g : Nat} {x y : Value} (hx : w2.heap[g]? = some (Obj.cells #[x, y] 78)) (c : Option Nat) (r : Int) :
    ((w2.setCell ⟨g, 0, none⟩ (.pointer (c.map fun b => ⟨b, 0, none⟩))).setCell ⟨g, 1, none⟩ (.int .i64 r)).heap[g]? = some (Obj.cells #[.pointer (c.map fun b => ⟨b, 0, none⟩), .int .i64 r] 78) ∧ Else (fun k => k = g) w2 ((w2.setCell ⟨g, 0, none⟩ (.pointer (c.map fun b => ⟨b, 0, none⟩))).setCell ⟨g, 1, none⟩ (.int .i64 r)) :=
  ⟨heap_setCell_same _ g 1 _ _ (.int .i64 r) (heap_setCell_same w2 g 0 _ _ _ hx), (Un.Else.set (S := fun k => k = g) w2 (p := ⟨g, 0, none⟩) rfl _).trans (Un.Else.set (S := fun k => k = g) _ (p := ⟨g, 1, none⟩) rfl _)⟩
theorem pt_load {w2 : World} {g : Nat} {c : Option Nat} {r : Int} (hx : w2.heap[g]? = some (Obj.cells #[.pointer (c.map fun b => ⟨b, 0, none⟩), .int .i64 r] 78)) : (loadVar 78 ⟨g, 0, none⟩).run Tryz.prog w2 = .ok (ptV c r) w2 :=
  load_pt (cell_of_row _ _ 0 _ _ (0, 0) hx) (cell_of_row _ _ 1 _ _ (0, 0) hx)
theorem pt_fin {w2 w4 : World} {g : Nat} (h : ClM O w cb A st cl n G kn nx col ro fs) (h2 : ClM O w2 cb A st cl n G kn nx col ro fs') (hE : Else (fun k => A.S k ∨ w.heap.size ≤ k) w w2) (hE4 : Else (fun k => k = g) w2 w4) (hg : w.heap.size ≤ g) : ClM O w4 cb A st cl n G kn nx col ro fs' ∧ Else A.S w w4 :=
  ⟨h2.aside hE4 fun j hj e => by have := h.lt hj; omega, (hE.trans (hE4.mono fun k hk => .inr (by omega))).old fun k hk => by rcases hk with hk | hk; exact .inl hk; exact .inr hk⟩
theorem cpart_cl (h : ClM O w cb A st cl n G kn nx col ro fs) (hst : 0 ≤ fs ∧ fs ≤ 10000000000000) (v : Int) (hv : (Lit.int .i64 v).wf = true) (hn : ∀ i, gvar G v = some i → i < n) :
    Calls Tryz.prog 42 #[.pointer (some ⟨cb, 0, none⟩), .int .i64 v] w fun e w' => ∃ k : Nat, e = .returned (match gvar G v with | some i => .tuple #[ptV (some cb) (ro i : Nat), .bool true] | none => .tuple #[ptV none 0, .bool false]) ∧ k ≤ dg n ∧ ClM O w' cb A st cl n G kn nx col ro (fs + k) ∧ Else A.S w w' := by
  have hb0 : Below w.heap.size w (w.alloc (.cells #[.pointer none, .int .i64 0] 78)) := (Below.refl _ _).alloc (Nat.le_refl _) _
  have h1 := h.below hb0
  have HV := node_cl h1 v hv
  have hx := heap_alloc_new w (.cells #[.pointer none, .int .i64 0] 78)
  have HH := Lib.hid (And.intro h (And.intro h1 hx))
  clear h h1 hb0 hx
  cases hg : gvar G v with
  | none =>
    rw [hg] at HV
    clear hg
    go_enter Tryz.func42, Tryz.ntmps42
    go_wp2_with fail
    refine HV.mono ?_
    rintro e w2 ⟨rfl, hb⟩
    have hx2 := (hb.block _ (by simp)).trans HH.out.2.2
    have d0 : w2.cell? ⟨w.heap.size, 0, none⟩ = some (.pointer none) := cell_of_row w2 _ 0 _ _ (0, 0) hx2
    have d1 : w2.cell? ⟨w.heap.size, 1, none⟩ = some (.int .i64 0) := cell_of_row w2 _ 1 _ _ (0, 0) hx2
    have z0 : w2.frozen? ⟨w.heap.size, 0, none⟩ = false := by simp [World.frozen?, hx2]
    have z1 : w2.frozen? ⟨w.heap.size, 1, none⟩ = false := by simp [World.frozen?, hx2]
    have HB := Lib.hid (And.intro hb hx2)
    clear hb hx2 HV
    go_wp2_with fail
    obtain ⟨hb, hx2⟩ := HB.out
    obtain ⟨hx4, hE4⟩ := pt_store hx2 none 0
    obtain ⟨r1, r2⟩ := pt_fin HH.out.1 (HH.out.2.1.below hb) (((Else.of_below (S := fun k => A.S k ∨ w.heap.size ≤ k) ((Below.refl _ w).alloc (Nat.le_refl _) _)).trans (Else.of_below hb))) hE4 (Nat.le_refl _)
    exact bodyPost_ret (results_cell_tmp rfl _ _ w.heap.size (ptV none 0) rfl (pt_load (c := none) hx4)) rfl ⟨0, rfl, Nat.zero_le _, by simpa using r1, r2⟩
  | some i =>
    rw [hg] at HV
    have hi := hn i hg
    clear hg
    go_enter Tryz.func42, Tryz.ntmps42
    go_wp2_with fail
    refine HV.mono ?_
    rintro e w2 ⟨rfl, hb⟩
    have HP := part_cl (HH.out.2.1.below hb) hst i hi
    have hx2 := (hb.block _ (by simp)).trans HH.out.2.2
    have HB := Lib.hid (And.intro hb hx2)
    clear hb hx2 HV
    go_wp2_with fail
    refine HP.mono ?_
    rintro e w3 ⟨k, rfl, hk, hC, hE⟩
    have hg : ¬ A.S w.heap.size := fun hx => Nat.lt_irrefl _ (HH.out.1.sb _ hx)
    have hx3 := (hE.block w.heap.size (Array.getElem?_eq_some_iff.1 HB.out.2).1 hg).trans HB.out.2
    have d0 : w3.cell? ⟨w.heap.size, 0, none⟩ = some (.pointer none) := cell_of_row w3 _ 0 _ _ (0, 0) hx3
    have d1 : w3.cell? ⟨w.heap.size, 1, none⟩ = some (.int .i64 0) := cell_of_row w3 _ 1 _ _ (0, 0) hx3
    have z0 : w3.frozen? ⟨w.heap.size, 0, none⟩ = false := by simp [World.frozen?, hx3]
    have z1 : w3.frozen? ⟨w.heap.size, 1, none⟩ = false := by simp [World.frozen?, hx3]
    have HK := Lib.hid (And.intro hk (And.intro hC (And.intro hE hx3)))
    clear hk hC hE hx3 HP hg
    unfold ptV
    go_wp2_with fail
    obtain ⟨hk, hC, hE, hx3⟩ := HK.out
    obtain ⟨hx4, hE4⟩ := pt_store hx3 (some cb) (ro i : Nat)
    obtain ⟨r1, r2⟩ := pt_fin HH.out.1 hC ((((Else.of_below (S := fun k => A.S k ∨ w.heap.size ≤ k) ((Below.refl _ w).alloc (Nat.le_refl _) _)).trans (Else.of_below HB.out.1))).trans (hE.mono fun k hk => .inl hk)) hE4 (Nat.le_refl _)
    exact bodyPost_ret (results_cell_tmp rfl _ _ w.heap.size (ptV (some cb) (ro i : Nat)) rfl (pt_load (c := some cb) hx4)) rfl ⟨k, rfl, hk, r1, r2⟩
end
end Go.Proofs.YtojgiienohpaiaaGreat
namespace Go.Proofs.YtojgiienohpaiaaGreat
open Go.RowKit
open Un (Else StM rowI UFo own_else dg swp wp_world paint)
set_option maxRecDepth 100000
section
variable {O T : Nat → Prop} {w w' : World} {cb : Nat} {A : Adr} {st : Int} {cl : Bool} {n : Nat} {G : List Gn} {kn : Kn} {nx col ro col' ro' : Nat → Nat} {fs fs' : Int}
def kindO (G : List Gn) : Option Nat → Int
  | some i => ((G[i]?).map fun p => p.1).getD 0
  | none => 0
theorem kind_oi (hG : GrM 0 w A.g A.V A.mb A.L G) (o : Option Nat) : Calls Tryz.prog 69 #[.pointer (some ⟨A.g, 0, none⟩), .int .i64 (oi o)] w fun e w' => e = .returned (.int .i64 (kindO G o)) ∧ Below w.heap.size w w' := by
  cases o with
  | none => exact kind_out w 0 A.g A.mb A.V A.L G hG (-1) (by omega)
  | some i =>
    by_cases hi : i < G.length
    · have := kind_in w 0 A.g A.mb A.V A.L G hG i hi
      simp only [kindO, List.getElem?_eq_getElem hi, Option.map_some, Option.getD_some]
      exact this
    · have := kind_out w 0 A.g A.mb A.V A.L G hG (i : Int) (by omega)
      simp only [kindO, List.getElem?_eq_none (Nat.le_of_not_lt hi), Option.map_none, Option.getD_none]
      exact this
theorem holds_cl (h : ClM O w cb A st false n G kn nx col ro fs) (r : Int) : Calls Tryz.prog 57 #[ptV (some cb) r] w fun e w' => e = .returned (.bool true) ∧ Below w.heap.size w w' := by
  have hb0 : Below w.heap.size w (w.alloc (.cells #[.pointer (some ⟨cb, 0, none⟩), .int .i64 r] 78)) := (Below.refl _ _).alloc (Nat.le_refl _) _
  have HE := err_cl (h.below hb0)
  show Calls _ _ #[.agg #[.pointer (some ⟨cb, 0, none⟩), .int .i64 r]] _ _
  clear h hb0
  go_enter Tryz.func57, Tryz.ntmps57
  go_wp2_with fail
  refine HE.mono ?_
  rintro e w' ⟨rfl, rfl⟩
  go_wp2_with fail
  exact bodyPost_ret (results_tmp rfl _ _ _) rfl ⟨rfl, (Below.refl _ _).alloc (Nat.le_refl _) _⟩
end
end Go.Proofs.YtojgiienohpaiaaGreat
namespace Go.Proofs.YtojgiienohpaiaaGreat
open Go.RowKit
open Un (Else StM rowI UFo own_else dg swp wp_world paint)
set_option maxRecDepth 100000
section
variable {O T : Nat → Prop} {w w' : World} {cb : Nat} {A : Adr} {st : Int} {cl : Bool} {n : Nat} {G : List Gn} {kn : Kn} {nx col ro col' ro' : Nat → Nat} {fs fs' : Int}
def rootV (G : List Gn) (ro : Nat → Nat) (v : Int) : Option Nat := (gvar G v).map ro
end
end Go.Proofs.YtojgiienohpaiaaGreat
namespace Go.Proofs.YtojgiienohpaiaaGreat
open Go.RowKit
theorem step_app {P : Program} {ops : Array Oper} {o : Oper} {a : Act} {w : World} {K : Act → World → Prop} {Q : Exit → Act → World → Prop} {E : Prop} (hgd : o.guard = none) (s x : Operand) (t : TypeId)
    (ho : o.op = .call { callee := .builtin .append, args := #[s, x], argTypes := #[t, t] }) {vs vx v' : Value} {w' : World} (hrun : (app_ #[t, t] o.type #[vs, vx]).run P w = .ok v' w')
    (hs : a.eval s = vs) (hx : a.eval x = vx) (h : K (a.put o.dst v') w') : if Region.wanted o (yielded ops a.tmps) = true then Oper.wp P o a w K Q else E := by
  have hw : Region.wanted o (yielded ops a.tmps) = true := by simp [Region.wanted, hgd]
  rw [if_pos hw]
  have hrun2 : (Builtin.append_ #[t, t] o.type #[vs, vx]).run P w = .ok v' w' := hrun
  unfold Oper.wp
  simp [execOp, ho, resolve, invoke, builtin, hs, hx, hrun2, Result.andThen]
  exact h
end Go.Proofs.YtojgiienohpaiaaGreat
