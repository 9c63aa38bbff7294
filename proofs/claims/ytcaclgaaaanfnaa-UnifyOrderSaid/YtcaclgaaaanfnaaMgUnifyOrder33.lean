/- Texts of one proof, one behind the other. -/
import Derived.Test.YtcaclgaaaanfnaaMgUnifyOrder20
import Derived.ProofKit
import Derived.OpenShut
import Derived.Deep.Slices
import Derived.Test.YtcaclgaaaanfnaaMgUnifyOrder32
/- Arguments that are lists of pairs of bytes, and lists of bytes, opened. -/
namespace Go.Proofs.Ytcaclgaaaanfnaa.Un
open Go.RowKit Go.ChangeShapes Go.WideShapes Go.ChangeAt Go.Deep

theorem list_of {α : Type} (P : Nat → α → Prop) (n : Nat) (h : ∀ i, i < n → ∃ t, P i t) : ∃ ts : List α, ts.length = n ∧ ∀ i (hi : i < ts.length), P i ts[i] := by
  induction n with
  | zero => exact ⟨[], rfl, by simp⟩
  | succ n ih =>
    obtain ⟨ts, hl, hP⟩ := ih (fun i hi => h i (by omega))
    obtain ⟨t, ht⟩ := h n (by omega)
    refine ⟨ts ++ [t], by simp [hl], fun i hi => ?_⟩
    rcases Nat.lt_or_ge i ts.length with hlt | hge
    · rw [List.getElem_append_left hlt]; exact hP i hlt
    · have : i = ts.length := by simp at hi; omega
      subst this
      have e : (ts ++ [t])[ts.length] = t := by simp
      rw [e, hl]
      exact ht
/-- A slice of pairs of bytes. -/
def RdP (w : World) (v : Value) (l : List (Nat × Nat)) : Prop :=
  (∀ p ∈ l, p.1 < 256 ∧ p.2 < 256) ∧ ((l = [] ∧ ∃ A c, v = .slice A 0 c) ∨ ∃ b off cap, v = .slice (some ⟨b, off, none⟩) l.length cap ∧ l.length ≤ cap ∧ b < w.heap.size ∧
    ∀ i (hi : i < l.length), w.cell? ⟨b, off + i * 2, none⟩ = some (.int .u8 (l[i].1 : Nat)) ∧ w.cell? ⟨b, off + i * 2 + 1, none⟩ = some (.int .u8 (l[i].2 : Nat)))
def RdB (w : World) (v : Value) (l : List Nat) : Prop :=
  (∀ p ∈ l, p < 256) ∧ ((l = [] ∧ ∃ A c, v = .slice A 0 c) ∨ ∃ b off cap, v = .slice (some ⟨b, off, none⟩) l.length cap ∧ l.length ≤ cap ∧ b < w.heap.size ∧
    ∀ i (hi : i < l.length), w.cell? ⟨b, off + i, none⟩ = some (.int .u8 (l[i] : Nat)))
theorem RdP.below {w w' : World} {v : Value} {l : List (Nat × Nat)} (h : RdP w v l) (hb : Below w.heap.size w w') : RdP w' v l := by
  refine ⟨h.1, ?_⟩
  rcases h.2 with h2 | ⟨b, off, cap, hv, hc, hl, hx⟩
  · exact .inl h2
  · exact .inr ⟨b, off, cap, hv, hc, Nat.lt_of_lt_of_le hl hb.size, fun i hi => ⟨(hb.cell (p := ⟨b, _, none⟩) hl).trans (hx i hi).1, (hb.cell (p := ⟨b, _, none⟩) hl).trans (hx i hi).2⟩⟩
theorem RdB.below {w w' : World} {v : Value} {l : List Nat} (h : RdB w v l) (hb : Below w.heap.size w w') : RdB w' v l := by
  refine ⟨h.1, ?_⟩
  rcases h.2 with h2 | ⟨b, off, cap, hv, hc, hl, hx⟩
  · exact .inl h2
  · exact .inr ⟨b, off, cap, hv, hc, Nat.lt_of_lt_of_le hl hb.size, fun i hi => (hb.cell (p := ⟨b, _, none⟩) hl).trans (hx i hi)⟩
theorem RdP.slice {w : World} {v : Value} {l : List (Nat × Nat)} (h : RdP w v l) : ∃ A c, v = .slice A l.length c := by
  rcases h.2 with ⟨rfl, A, c, hv⟩ | ⟨b, off, cap, hv, _⟩
  · exact ⟨A, c, hv⟩
  · exact ⟨_, _, hv⟩
theorem RdB.slice {w : World} {v : Value} {l : List Nat} (h : RdB w v l) : ∃ A c, v = .slice A l.length c := by
  rcases h.2 with ⟨rfl, A, c, hv⟩ | ⟨b, off, cap, hv, _⟩
  · exact ⟨A, c, hv⟩
  · exact ⟨_, _, hv⟩
theorem RdP.at_ {w : World} {A : Option Addr} {n c : Nat} {l : List (Nat × Nat)} (h : RdP w (.slice A n c) l) {i : Nat} (hi : i < l.length) : ∃ b off, A = some ⟨b, off, none⟩ ∧ b < w.heap.size ∧ w.cell? ⟨b, off + i * 2, none⟩ = some (.int .u8 (l[i].1 : Nat)) ∧ w.cell? ⟨b, off + i * 2 + 1, none⟩ = some (.int .u8 (l[i].2 : Nat)) ∧ l[i].1 < 256 ∧ l[i].2 < 256 := by
  rcases h.2 with ⟨rfl, _⟩ | ⟨b, off, cap, hv, hc, hl, hx⟩
  · simp at hi
  · injection hv with h1 _ _
    exact ⟨b, off, h1, hl, (hx i hi).1, (hx i hi).2, (h.1 _ (List.getElem_mem hi)).1, (h.1 _ (List.getElem_mem hi)).2⟩
theorem RdB.at_ {w : World} {A : Option Addr} {n c : Nat} {l : List Nat} (h : RdB w (.slice A n c) l) {i : Nat} (hi : i < l.length) : ∃ b off, A = some ⟨b, off, none⟩ ∧ b < w.heap.size ∧ w.cell? ⟨b, off + i, none⟩ = some (.int .u8 (l[i] : Nat)) ∧ l[i] < 256 := by
  rcases h.2 with ⟨rfl, _⟩ | ⟨b, off, cap, hv, hc, hl, hx⟩
  · simp at hi
  · injection hv with h1 _ _
    exact ⟨b, off, h1, hl, hx i hi, h.1 _ (List.getElem_mem hi)⟩
def ArgP (w : World) (v : Value) : Prop := ∃ l, RdP w v l
def ArgB (w : World) (v : Value) : Prop := ∃ l, RdB w v l
theorem u8_wf {n : Int} (h : (Lit.int .u8 n).wf = true) : 0 ≤ n ∧ n < 256 := by
  have e1 : IntKind.u8.min = 0 := by decide
  have e2 : IntKind.u8.max = 255 := by decide
  simp only [Lit.wf, Bool.and_eq_true, decide_eq_true_eq] at h
  omega
set_option maxRecDepth 100000 in
theorem ArgB_open {H : Type} {enc : TypeId × Value → H} {W : World} {r : Reach} {b0 : Nat} {v : Value} {d : DataW H} {p : List MemPlace} (hval : Value.okWide Try.prog W r b0 64 v)
    (h : DataW.Trod enc Try.prog W 0 (fun _ => true) true 64 v d p) : ArgB W v := by
  obtain ⟨a0, len, cap, rfl⟩ := okWide_slice Try.underlying64 hval
  obtain ⟨fuel, hf⟩ := h
  rcases open_slice Try.underlying64 hf with ⟨hcs, _⟩ | ⟨a, len', cap', m, n, D, Pl, hcs, _, hl, hm, hmm, hx, hi⟩
  · simp [Value.cells] at hcs
    obtain ⟨rfl, rfl, rfl⟩ := hcs
    exact ⟨[], by simp, .inl ⟨rfl, _, _, rfl⟩⟩
  · simp [Value.cells] at hcs
    obtain ⟨rfl, rfl, rfl⟩ := hcs
    simp only [if_true] at hmm
    have hI : Try.prog.cellsOf 5 = 1 := by kernel_rfl
    rw [hI] at hi
    have key : ∀ i, i < len → ∃ t : Nat, t < 256 ∧ W.cell? (a.add i) = some (.int .u8 (t : Nat)) := by
      intro i hil
      obtain ⟨cs', hc, ht'⟩ := hi i (by omega)
      obtain ⟨k0, hk0, _, w0⟩ := DataW.trod_int Try.underlying5 ht'
      have w0 := u8_wf w0
      obtain ⟨_, hcl, hat⟩ := World.cells?_some hc
      subst hk0
      refine ⟨k0.toNat, by omega, ?_⟩
      have := hat 0 (by simp)
      rw [show ((k0.toNat : Nat) : Int) = k0 by omega]
      simpa [Addr.add] using this
    by_cases h0 : len = 0
    · subst h0
      exact ⟨[], by simp, .inl ⟨rfl, _, _, rfl⟩⟩
    · obtain ⟨b, off, spot⟩ := a
      obtain ⟨t0, _, hc0⟩ := key 0 (by omega)
      have hspot : spot = none := by simpa [Addr.add] using World.cell?_spot hc0
      subst hspot
      obtain ⟨ts, htl, hP⟩ := list_of _ len key
      refine ⟨ts, ?_, .inr ⟨b, off, cap, by rw [htl], by omega, ?_, ?_⟩⟩
      · intro p hp
        obtain ⟨i, hi', rfl⟩ := List.mem_iff_getElem.1 hp
        exact (hP i hi').1
      · have := hc0
        simp [Addr.add] at this
        unfold World.cell? at this
        split at this
        · rename_i hh
          exact (Array.getElem?_eq_some_iff.1 hh).1
        · cases this
      · intro i hi'
        have hP2 := hP i hi'
        simp only [Addr.add_lit] at hP2
        exact hP2.2
end Go.Proofs.Ytcaclgaaaanfnaa.Un
/- unify: what UnifyOrder's walk leans on. -/
namespace Go.Proofs.Ytcaclgaaaanfnaa
open Go.RowKit
open Un (Else dg cnt own_else)
set_option maxRecDepth 100000
theorem alp_of {F : Fo} (h : ∀ x ∈ F.pre, alone x.1 x.2.1 x.2.2.2.1 = true) (hl : LenOk F) : AlP F := by
  induction F with
  | nil => trivial
  | cons k n u ps r i1 i2 =>
    obtain ⟨l1, l2, l3⟩ := hl
    have h0 := h (k, n, u) (by simp [Fo.pre])
    refine ⟨by rw [← l1]; exact h0, i1 (fun x hx => h x (by simp [Fo.pre, hx])) l2, i2 (fun x hx => h x (by simp [Fo.pre, hx])) l3⟩
theorem fok_of {B : Nat} {w : World} {t : Ty1} (hT : TyV B w t.2.2.2 (slv t.2.2.1)) (hW : TyW t) (hr : rt1 t = true) : Fok (one1 t) := by
  have hl : LenOk (one1 t) := ⟨TyV.len hT, (TyV.list hT).lenOk, trivial⟩
  have ha := rt1_right hr (TyV.len hT)
  exact ⟨vok_of ha hl, alp_of (by simpa [allAlone, one1] using ha) hl, ⟨hW.1, hW.2, trivial⟩⟩
theorem eok_of {B : Nat} {w : World} {x : Eqn} (hT : EqT B w x) (hW : TyW x.1 ∧ TyW x.2.1) (hr : rtE x = true) : Eok x := by
  have hr' : rt1 x.1 = true ∧ rt1 x.2.1 = true := by unfold rtE at hr; rwa [Bool.and_eq_true] at hr
  exact ⟨fok_of hT.1 hW.1 hr'.1, fok_of hT.2 hW.2 hr'.2⟩
theorem Eok.flip {x : Eqn} (h : Eok x) : Eok (flipE x) := ⟨h.2, h.1⟩
/-- Of a list of equations another one that has each of them, or its sides changed about, and nothing else. -/
theorem order_sim {L D : List Eqn} (hL : ∀ x ∈ L, Eok x) (hD : ∀ x ∈ D, ∃ y ∈ L, x = y ∨ x = flipE y) (hLD : ∀ y ∈ L, flipE y ∈ D) : Sim (cls L) (cls D) ∧ Sim (cls D) (cls L) := by
  have hDk : ∀ x ∈ D, Eok x := fun x hx => by
    obtain ⟨y, hy, rfl | rfl⟩ := hD x hx
    · exact hL _ hy
    · exact (hL _ hy).flip
  have h1 : ∀ x ∈ L, HoldsIn (cls D) x := fun x hx => ((fold_ok D ([], []) Gok.nil hDk).2 _ (hLD x hx)).flip
  have h2 : ∀ x ∈ D, HoldsIn (cls L) x := fun x hx => by
    obtain ⟨y, hy, rfl | rfl⟩ := hD x hx
    · exact (fold_ok L ([], []) Gok.nil hL).2 _ hy
    · exact ((fold_ok L ([], []) Gok.nil hL).2 _ hy).flip
  exact ⟨sim_of L D hL hDk h1, sim_of D L hDk hL h2⟩
section
variable {O : Nat → Prop} {w : World} {cb : Nat} {s : Sys} {f : Int}
theorem class_cq (h : CQ O w cb s f) (hl : s.1.length ≤ 500000) (hg : GN s.1) (v : Int) (hv : (Lit.int .i64 v).wf = true) :
    Calls Try.prog 33 #[.pointer (some ⟨cb, 0, none⟩), .int .i64 v] w fun e w' => ∃ (v' : Value) (ys : List Int), e = .returned v' ∧ Rd w' 1 v' ys.length (ints ys) ∧ ClassIs s.1 s.2 v ys ∧ ys.length ≤ s.1.length ∧ Below w.heap.size w w' := by
  obtain ⟨st, fs, m, hC, _⟩ := h
  exact class_cs hC hl hg v hv
theorem vars_cx {st : Int} (h : CxM w cb st) : Calls Try.prog 31 #[.pointer (some ⟨cb, 0, none⟩)] w fun e w' => e = .returned (.slice none 0 0) ∧ Below w.heap.size w w' := by
  have c2 : w.cell? ⟨cb, 2, none⟩ = some (.pointer none) := cell_of_row w cb 2 _ _ (0, 0) h
  have hl := (Array.getElem?_eq_some_iff.1 h).1
  clear h
  go_enter Try.func31, Try.ntmps31
  go_wp2_with fail
  refine (vars_none _).mono ?_
  rintro e w' ⟨rfl, hb⟩
  have HB := Lib.hid hb
  clear hb
  go_wp2_with fail
  exact bodyPost_ret (results_tmp rfl _ _ _) rfl ⟨rfl, HB.out⟩
end
end Go.Proofs.Ytcaclgaaaanfnaa
