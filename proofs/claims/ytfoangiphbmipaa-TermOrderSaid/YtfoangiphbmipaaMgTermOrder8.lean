/- Texts of one proof, one behind the other. -/
import Derived.Test.YtfoangiphbmipaaMgTermOrder7
import Derived.Test.YtfoangiphbmipaaMgTermOrder2
import Derived.Test.YtfoangiphbmipaaMgTermOrder5
import Derived.Test.YtfoangiphbmipaaMgTermOrder3
/- Terms in memory: cells that read as a list of terms; a slice that does. Nothing here speaks of the program. -/
namespace Go.Proofs.Ytfoangiphbmipaa
open Go.RowKit

/-- A term's nine cells, as they are. -/
def ndC (x : Nd) : List Value := [.int .i64 x.k, .string x.s, .int .i64 x.n, .int .i64 x.tk, .int .i64 x.tn, slv x.tu, slv x.u, .int .i64 x.a, .int .i64 x.b]
/-- A term as a value. -/
def teVal (x : Nd) : Value := .agg #[.int .i64 x.k, .string x.s, .int .i64 x.n, .int .i64 x.tk, .int .i64 x.tn, slv x.tu, slv x.u, .int .i64 x.a, .int .i64 x.b]
/-- A term's cells at a place. -/
def NdAt (w : World) (b off : Nat) (x : Nd) : Prop :=
  w.cell? ⟨b, off, none⟩ = some (.int .i64 x.k) ∧ w.cell? ⟨b, off + 1, none⟩ = some (.string x.s) ∧ w.cell? ⟨b, off + 2, none⟩ = some (.int .i64 x.n) ∧ w.cell? ⟨b, off + 3, none⟩ = some (.int .i64 x.tk) ∧ w.cell? ⟨b, off + 4, none⟩ = some (.int .i64 x.tn) ∧ w.cell? ⟨b, off + 5, none⟩ = some (slv x.tu) ∧ w.cell? ⟨b, off + 6, none⟩ = some (slv x.u) ∧ w.cell? ⟨b, off + 7, none⟩ = some (.int .i64 x.a) ∧ w.cell? ⟨b, off + 8, none⟩ = some (.int .i64 x.b)
theorem NdAt.to {w w' : World} {b off : Nat} {x : Nd} (h : NdAt w b off x) (hk : ∀ i, i < 9 → w'.cell? ⟨b, off + i, none⟩ = w.cell? ⟨b, off + i, none⟩) : NdAt w' b off x :=
  ⟨(hk 0 (by omega)).trans h.1, (hk 1 (by omega)).trans h.2.1, (hk 2 (by omega)).trans h.2.2.1, (hk 3 (by omega)).trans h.2.2.2.1, (hk 4 (by omega)).trans h.2.2.2.2.1, (hk 5 (by omega)).trans h.2.2.2.2.2.1, (hk 6 (by omega)).trans h.2.2.2.2.2.2.1, (hk 7 (by omega)).trans h.2.2.2.2.2.2.2.1, (hk 8 (by omega)).trans h.2.2.2.2.2.2.2.2⟩
theorem NdAt.below {w w' : World} {B b off : Nat} {x : Nd} (h : NdAt w b off x) (hb : Below B w w') (hlt : b < B) : NdAt w' b off x := h.to fun i _ => hb.cell (p := ⟨b, off + i, none⟩) hlt
theorem NdAt.of_cells {w : World} {b off : Nat} {x : Nd} (h : ∀ j u, (ndC x)[j]? = some u → w.cell? ⟨b, off + j, none⟩ = some u) : NdAt w b off x :=
  ⟨h 0 _ rfl, h 1 _ rfl, h 2 _ rfl, h 3 _ rfl, h 4 _ rfl, h 5 _ rfl, h 6 _ rfl, h 7 _ rfl, h 8 _ rfl⟩
theorem NdAt.cells {w : World} {b off : Nat} {x : Nd} (h : NdAt w b off x) : ∀ j u, (ndC x)[j]? = some u → w.cell? ⟨b, off + j, none⟩ = some u := by
  intro j u hu
  obtain ⟨h0, h1, h2, h3, h4, h5, h6, h7, h8⟩ := h
  match j, hu with
  | 0, hu => simp [ndC] at hu; subst hu; exact h0
  | 1, hu => simp [ndC] at hu; subst hu; exact h1
  | 2, hu => simp [ndC] at hu; subst hu; exact h2
  | 3, hu => simp [ndC] at hu; subst hu; exact h3
  | 4, hu => simp [ndC] at hu; subst hu; exact h4
  | 5, hu => simp [ndC] at hu; subst hu; exact h5
  | 6, hu => simp [ndC] at hu; subst hu; exact h6
  | 7, hu => simp [ndC] at hu; subst hu; exact h7
  | 8, hu => simp [ndC] at hu; subst hu; exact h8
  | _ + 9, hu => simp [ndC] at hu
/-- A slice value, as a list of terms lies: nothing, or cells at an address, all below block B. -/
def TeV (B : Nat) (w : World) : Te → Value → Prop
  | .nil, v => ∃ A c, v = .slice A 0 c
  | .cons x ps r, v => ∃ b off cap, v = .slice (some ⟨b, off, none⟩) (r.len + 1) cap ∧ r.len + 1 ≤ cap ∧ cap ≤ maxLen ∧ b < B ∧
      TeC B w (.cons x ps r) b off
where
  /-- The cells from an address on. -/
  TeC (B : Nat) (w : World) : Te → Nat → Nat → Prop
  | .nil, _, _ => True
  | .cons x ps r, b, off => NdAt w b off x ∧ TyV B w x.ty (slv x.tu) ∧ TeV B w ps (slv x.u) ∧ TeC B w r b (off + 9)
abbrev TeC := @TeV.TeC
theorem teV_nil {B : Nat} {w : World} {v : Value} : TeV B w .nil v ↔ ∃ A c, v = .slice A 0 c := by rw [TeV]
theorem teV_cons {B : Nat} {w : World} {x : Nd} {ps r : Te} {v : Value} : TeV B w (.cons x ps r) v ↔ ∃ b off cap, v = .slice (some ⟨b, off, none⟩) (r.len + 1) cap ∧ r.len + 1 ≤ cap ∧ cap ≤ maxLen ∧ b < B ∧
      TeC B w (.cons x ps r) b off := by rw [TeV]
theorem teC_cons {B : Nat} {w : World} {x : Nd} {ps r : Te} {b off : Nat} : TeC B w (.cons x ps r) b off ↔ NdAt w b off x ∧ TyV B w x.ty (slv x.tu) ∧ TeV B w ps (slv x.u) ∧ TeC B w r b (off + 9) := by unfold TeC; rw [TeV.TeC]
theorem teC_nil {B : Nat} {w : World} {b off : Nat} : TeC B w .nil b off := by unfold TeC; rw [TeV.TeC]; trivial
theorem TeV.slice {B : Nat} {w : World} {f : Te} {v : Value} (h : TeV B w f v) : ∃ A c, v = .slice A f.len c := by
  cases f with
  | nil => exact teV_nil.1 h
  | cons x ps r =>
    obtain ⟨b, off, cap, rfl, _⟩ := teV_cons.1 h
    exact ⟨_, _, rfl⟩
theorem TeV.form {B : Nat} {w : World} {f : Te} {v : Value} (h : TeV B w f v) (hn : 0 < f.len) : ∃ b off cap, v = .slice (some ⟨b, off, none⟩) f.len cap ∧ f.len ≤ cap ∧ cap ≤ maxLen ∧ b < B ∧ TeC B w f b off := by
  cases f with
  | nil => simp [Te.len] at hn
  | cons x ps r => exact teV_cons.1 h
/-- A term's type and parts stand. -/
def TmL (B : Nat) (w : World) (t : Tm) : Prop := TyV B w t.1.ty (slv t.1.tu) ∧ TeV B w t.2 (slv t.1.u)
theorem teC_at {B : Nat} {w : World} {f : Te} {b off : Nat} (h : TeC B w f b off) (j : Nat) (hj : j < f.len) :
    NdAt w b (off + j * 9) (f.at_ j).1 ∧ TmL B w (f.at_ j) := by
  induction f generalizing off j with
  | nil => simp [Te.len] at hj
  | cons x ps r _ ih =>
    obtain ⟨h1, h2, h3, h4⟩ := teC_cons.1 h
    cases j with
    | zero => exact ⟨by simpa [Te.at_] using h1, by simpa [Te.at_, TmL] using ⟨h2, h3⟩⟩
    | succ j =>
      have := ih h4 j (by simp [Te.len] at hj; omega)
      rw [show off + (j + 1) * 9 = off + 9 + j * 9 by omega]
      exact this
theorem te_keep {B B' : Nat} {w w' : World} (hB : B ≤ B') (hk : ∀ b off, b < B → w'.cell? ⟨b, off, none⟩ = w.cell? ⟨b, off, none⟩) (f : Te) :
    (∀ v, TeV B w f v → TeV B' w' f v) ∧ (∀ b off, b < B → TeC B w f b off → TeC B' w' f b off) := by
  induction f with
  | nil => exact ⟨fun v h => teV_nil.2 (teV_nil.1 h), fun _ _ _ _ => teC_nil⟩
  | cons x ps r ih1 ih2 =>
    have hc : ∀ b off, b < B → TeC B w (.cons x ps r) b off → TeC B' w' (.cons x ps r) b off := by
      intro b off hb h
      obtain ⟨h1, h2, h3, h4⟩ := teC_cons.1 h
      exact teC_cons.2 ⟨h1.to fun i _ => hk _ _ hb, h2.keep hB hk, ih1.1 (slv x.u) h3, ih2.2 _ _ hb h4⟩
    refine ⟨fun v h => ?_, hc⟩
    obtain ⟨b, off, cap, hv, h1, h2, h3, h4⟩ := teV_cons.1 h
    exact teV_cons.2 ⟨b, off, cap, hv, h1, h2, by omega, hc b off h3 h4⟩
theorem TeV.keep {B B' : Nat} {w w' : World} {f : Te} {v : Value} (h : TeV B w f v) (hB : B ≤ B') (hk : ∀ b off, b < B → w'.cell? ⟨b, off, none⟩ = w.cell? ⟨b, off, none⟩) : TeV B' w' f v := (te_keep hB hk f).1 v h
theorem TeV.below {B : Nat} {w w' : World} {f : Te} {v : Value} (h : TeV B w f v) (hb : Below B w w') : TeV B w' f v := h.keep (Nat.le_refl _) fun b off hlt => hb.cell (p := ⟨b, off, none⟩) hlt
theorem TeV.up {B B' : Nat} {w w' : World} {f : Te} {v : Value} (h : TeV B w f v) (hb : Below B w w') (hB : B ≤ B') : TeV B' w' f v := h.keep hB fun b off hlt => hb.cell (p := ⟨b, off, none⟩) hlt
theorem TyV.up {B B' : Nat} {w w' : World} {f : Fo} {v : Value} (h : TyV B w f v) (hb : Below B w w') (hB : B ≤ B') : TyV B' w' f v := h.keep hB fun b off hlt => hb.cell (p := ⟨b, off, none⟩) hlt
theorem TmL.up {B B' : Nat} {w w' : World} {t : Tm} (h : TmL B w t) (hb : Below B w w') (hB : B ≤ B') : TmL B' w' t := ⟨h.1.up hb hB, h.2.up hb hB⟩
theorem TmL.below {B : Nat} {w w' : World} {t : Tm} (h : TmL B w t) (hb : Below B w w') : TmL B w' t := h.up hb (Nat.le_refl _)
theorem TmL.keep {B B' : Nat} {w w' : World} {t : Tm} (h : TmL B w t) (hB : B ≤ B') (hk : ∀ b off, b < B → w'.cell? ⟨b, off, none⟩ = w.cell? ⟨b, off, none⟩) : TmL B' w' t := ⟨h.1.keep hB hk, h.2.keep hB hk⟩
/-- Each term's type and parts lie at its slices. -/
def TeL (B : Nat) (w : World) : Te → Prop
  | .nil => True
  | .cons x ps r => TmL B w (x, ps) ∧ TeL B w r
theorem TeL.app {B : Nat} {w : World} {f g : Te} (h : TeL B w f) (k : TeL B w g) : TeL B w (f.app g) := by
  induction f with
  | nil => exact k
  | cons _ _ r _ ih => exact ⟨h.1, ih h.2⟩
theorem TeL.unapp {B : Nat} {w : World} {f g : Te} (h : TeL B w (f.app g)) : TeL B w f ∧ TeL B w g := by
  induction f with
  | nil => exact ⟨trivial, h⟩
  | cons _ _ r _ ih => exact ⟨⟨h.1, (ih h.2).1⟩, (ih h.2).2⟩
theorem TeL.up {B B' : Nat} {w w' : World} {f : Te} (h : TeL B w f) (hb : Below B w w') (hB : B ≤ B') : TeL B' w' f := by
  induction f with
  | nil => trivial
  | cons _ _ r _ ih => exact ⟨h.1.up hb hB, ih h.2⟩
theorem TeL.below {B : Nat} {w w' : World} {f : Te} (h : TeL B w f) (hb : Below B w w') : TeL B w' f := h.up hb (Nat.le_refl _)
theorem TeC.list {B : Nat} {w : World} {f : Te} {b off : Nat} (h : TeC B w f b off) : TeL B w f := by
  induction f generalizing off with
  | nil => trivial
  | cons _ _ r _ ih => obtain ⟨_, h2, h3, h4⟩ := teC_cons.1 h; exact ⟨⟨h2, h3⟩, ih h4⟩
theorem TeV.list {B : Nat} {w : World} {f : Te} {v : Value} (h : TeV B w f v) : TeL B w f := by
  cases f with
  | nil => trivial
  | cons x ps r => obtain ⟨b, off, cap, _, _, _, _, hc⟩ := teV_cons.1 h; exact TeC.list hc
/-- So do those of all its terms. -/
theorem TeL.pre {B : Nat} {w : World} {f : Te} (h : TeL B w f) : ∀ t ∈ f.pre, TmL B w t := by
  induction f with
  | nil => intro t ht; cases ht
  | cons x ps r ih1 ih2 =>
    intro t ht
    simp only [Te.pre, List.mem_cons, List.mem_append] at ht
    rcases ht with rfl | ht | ht
    · exact h.1
    · exact ih1 h.1.2.list t ht
    · exact ih2 h.2 t ht
end Go.Proofs.Ytfoangiphbmipaa
/- A term that is copied: what lies still to be done (holes), and that the whole reads as it ought once they are done. Nothing here speaks of the program. -/
namespace Go.Proofs.Ytfoangiphbmipaa
open Go.RowKit

/-- A place where a term still lies as it came. -/
structure EHole where
  b : Nat
  off : Nat
  x : Nd
  ps : Te
/-- The one is the other, in other memory. -/
def NdI (x y : Nd) : Prop := y.k = x.k ∧ y.s = x.s ∧ y.n = x.n ∧ y.tk = x.tk ∧ y.tn = x.tn ∧ Img idn x.ty y.ty ∧ y.a = x.a ∧ y.b = x.b
def TImg : Te → Te → Prop
  | .nil, .nil => True
  | .cons x ps r, .cons y ps' r' => NdI x y ∧ TImg ps ps' ∧ TImg r r'
  | _, _ => False
theorem TImg.len {f g : Te} (h : TImg f g) : g.len = f.len := by
  induction f generalizing g with
  | nil => cases g <;> simp_all [TImg, Te.len]
  | cons x ps r _ ih =>
    cases g with
    | nil => simp [TImg] at h
    | cons y ps' r' => simp only [TImg] at h; simp only [Te.len, ih h.2.2]
theorem TImg.size {f g : Te} (h : TImg f g) : g.size = f.size := by
  induction f generalizing g with
  | nil => cases g <;> simp_all [TImg, Te.size]
  | cons x ps r ih1 ih =>
    cases g with
    | nil => simp [TImg] at h
    | cons y ps' r' => simp only [TImg] at h; simp only [Te.size, ih h.2.2, ih1 h.2.1]
/-- Types that aren't too great to be copied. -/
def Te.tyb : Te → Prop
  | .nil => True
  | .cons x ps r => x.ty.size < 1000000 ∧ ps.tyb ∧ r.tyb
/-- A copy of a term stands at a place. -/
def EAt (W : World) (b off : Nat) (x : Nd) (ps : Te) : Prop := ∃ (y : Nd) (g : Te), NdI x y ∧ TImg ps g ∧ NdAt W b off y ∧ TyV W.heap.size W y.ty (slv y.tu) ∧ TeV W.heap.size W g (slv y.u)
/-- Aside of some holes. -/
def EAside (Hs : List EHole) (b off : Nat) : Prop := ∀ h ∈ Hs, h.b = b → off < h.off ∨ h.off + 9 ≤ off
/-- Once the holes are done, the whole is. -/
def EWand (T29 T24 : TypeId) (rt B rb : Nat) (x : Nd) (ps : Te) (w : World) (Hs : List EHole) : Prop :=
  ∀ W : World, w.heap.size ≤ W.heap.size → (∀ h ∈ Hs, EAt W h.b h.off h.x h.ps) →
    (∀ b off, B ≤ b → isT T29 rt w b → EAside Hs b off → W.cell? ⟨b, off, none⟩ = w.cell? ⟨b, off, none⟩) →
    (∀ (b : Nat) (cs : Array Value), B ≤ b → w.heap[b]? = some (Obj.cells cs T24) → W.heap[b]? = some (Obj.cells cs T24)) → EAt W rb 0 x ps
/-- The holes of a new list. -/
def eholesOf (c : Nat) : Nat → Te → List EHole
  | _, .nil => []
  | off, .cons x ps r => ⟨c, off, x, ps⟩ :: eholesOf c (off + 9) r
theorem eholesOf_len (c off : Nat) (f : Te) : (eholesOf c off f).length = f.len := by
  induction f generalizing off with
  | nil => rfl
  | cons x ps r _ ih => simp [eholesOf, Te.len, ih]
theorem eholesOf_b {c off : Nat} {f : Te} {h : EHole} (hm : h ∈ eholesOf c off f) : h.b = c ∧ off ≤ h.off := by
  induction f generalizing off with
  | nil => simp [eholesOf] at hm
  | cons x ps r _ ih =>
    simp only [eholesOf, List.mem_cons] at hm
    rcases hm with rfl | hm
    · exact ⟨rfl, Nat.le_refl _⟩
    · have := ih hm; exact ⟨this.1, by omega⟩
/-- Apart. -/
def EApart (x y : EHole) : Prop := x.b = y.b → x.off + 9 ≤ y.off ∨ y.off + 9 ≤ x.off
theorem eholesOf_apart (c off : Nat) (f : Te) : (eholesOf c off f).Pairwise EApart := by
  induction f generalizing off with
  | nil => exact List.Pairwise.nil
  | cons x ps r _ ih =>
    refine List.Pairwise.cons (fun h hm _ => .inl ?_) (ih (off + 9))
    exact (eholesOf_b hm).2
/-- The sum of what is left. -/
def eleft (Hs : List EHole) : Nat := (Hs.map fun h => 1 + h.ps.size).sum
theorem eleft_app (a b : List EHole) : eleft (a ++ b) = eleft a + eleft b := by simp [eleft]
theorem eleft_holes (c off : Nat) (f : Te) : eleft (eholesOf c off f) = f.size := by
  induction f generalizing off with
  | nil => rfl
  | cons x ps r _ ih => simp only [eholesOf, eleft, List.map_cons, List.sum_cons, Te.size]; have := ih (off + 9); simp only [eleft] at this; omega
theorem eleft_len (Hs : List EHole) : Hs.length ≤ eleft Hs := by
  induction Hs with
  | nil => simp [eleft]
  | cons h l ih => simp only [eleft, List.map_cons, List.sum_cons, List.length_cons] at ih ⊢; omega
theorem eholes_read {W : World} {c : Nat} (f : Te) (off : Nat) (h : ∀ h ∈ eholesOf c off f, EAt W h.b h.off h.x h.ps) : ∃ G, TImg f G ∧ TeC W.heap.size W G c off := by
  induction f generalizing off with
  | nil => exact ⟨.nil, trivial, teC_nil⟩
  | cons x ps r _ ih =>
    obtain ⟨G, hG, hC⟩ := ih (off + 9) (fun x hx => h x (by simp only [eholesOf]; exact List.mem_cons_of_mem _ hx))
    obtain ⟨y, g, hy, hg, hn, ht, hv⟩ := h ⟨c, off, x, ps⟩ (by simp only [eholesOf]; exact List.mem_cons_self)
    exact ⟨.cons y g G, ⟨hy, hg, hG⟩, teC_cons.2 ⟨hn, ht, hv, hC⟩⟩
theorem EWand.step {T29 T24 : TypeId} {rt B rb : Nat} {x : Nd} {ps : Te} {w w2 : World} {Hs : List EHole} {h : EHole} (hW : EWand T29 T24 rt B rb x ps w (Hs ++ [h]))
    (hap : ∀ x ∈ Hs, EApart x h) (hB : B ≤ h.b) (hT : isT T29 rt w h.b)
    (hs : w.heap.size ≤ w2.heap.size) (hk : ∀ b off, B ≤ b → isT T29 rt w b → isT T29 rt w2 b ∧ (EAside [h] b off → w2.cell? ⟨b, off, none⟩ = w.cell? ⟨b, off, none⟩))
    (hk24 : ∀ (b : Nat) (cs : Array Value), B ≤ b → w.heap[b]? = some (Obj.cells cs T24) → w2.heap[b]? = some (Obj.cells cs T24))
    {tu2 u2 : Sl} (hat2 : NdAt w2 h.b h.off { h.x with tu := tu2, u := u2 }) (hty : FreshT T24 B w2 idn h.x.ty tu2)
    {c : Nat} (hc : w.heap.size ≤ c) (hu : (h.ps.len = 0 ∧ ∃ A cp, u2 = (A, 0, cp)) ∨ (0 < h.ps.len ∧ c < w2.heap.size ∧ ∃ cp, u2 = (some ⟨c, 0, none⟩, h.ps.len, cp) ∧ h.ps.len ≤ cp ∧ cp ≤ maxLen)) :
    EWand T29 T24 rt B rb x ps w2 (Hs ++ eholesOf c 0 h.ps) := by
  intro W hsz hdone hfr hf24
  have out : ∀ b off, b < w.heap.size → EAside Hs b off → EAside (Hs ++ eholesOf c 0 h.ps) b off := by
    intro b off hb ha x hx hxb
    rcases List.mem_append.1 hx with hx | hx
    · exact ha x hx hxb
    · have := (eholesOf_b hx).1
      omega
  have inH : ∀ j, j < 9 → EAside Hs h.b (h.off + j) := by
    intro j hj x hx hxb
    rcases hap x hx hxb with h' | h'
    · exact .inr (by omega)
    · exact .inl (by omega)
  have hat : ∀ j, j < 9 → W.cell? ⟨h.b, h.off + j, none⟩ = w2.cell? ⟨h.b, h.off + j, none⟩ := fun j hj => hfr h.b _ hB (hk h.b 0 hB hT).1 (out _ _ hT.lt (inH j hj))
  refine hW W (Nat.le_trans hs hsz) ?_ ?_ (fun b cs hb hl => hf24 b cs hb (hk24 b cs hb hl))
  · intro x hx
    rcases List.mem_append.1 hx with hx | hx
    · exact hdone x (List.mem_append_left _ hx)
    · have hxh : x = h := by simpa using hx
      rw [hxh]
      obtain ⟨G, hG, hC⟩ := eholes_read h.ps 0 (fun y hy => hdone y (List.mem_append_right _ hy))
      obtain ⟨ty2, hI, hTy⟩ := hty W hsz hf24
      refine ⟨{ h.x with tu := tu2, u := u2, ty := ty2 }, G, ⟨rfl, rfl, rfl, rfl, rfl, hI, rfl, rfl⟩, hG, ?_, hTy, ?_⟩
      · exact NdAt.to (w := w2) hat2 hat
      have hGl := hG.len
      rcases hu with ⟨hz, A, cp, rfl⟩ | ⟨hp, hc2, cp, rfl, hcp, hcm⟩
      · cases G with
        | nil => exact teV_nil.2 ⟨A, cp, rfl⟩
        | cons => simp only [Te.len] at hGl; omega
      · cases G with
        | nil => simp only [Te.len] at hGl; omega
        | cons y' ps' r' =>
          simp only [Te.len] at hGl
          exact teV_cons.2 ⟨c, 0, cp, by rw [hGl]; rfl, by omega, hcm, by omega, hC⟩
  · intro b off hb hbT ha
    have hA1 : EAside Hs b off := fun x hx => ha x (List.mem_append_left _ hx)
    have hA2 : EAside [h] b off := fun x hx => ha x (List.mem_append_right _ hx)
    rw [hfr b off hb (hk b off hb hbT).1 (out b off hbT.lt hA1)]
    exact (hk b off hb hbT).2 hA2
theorem Te.tyb_pre {f : Te} (h : f.tyb) : ∀ t ∈ f.pre, t.1.ty.size < 1000000 ∧ t.2.tyb := by
  induction f with
  | nil => intro t ht; cases ht
  | cons x ps r ih1 ih2 =>
    intro t ht
    simp only [Te.pre, List.mem_cons, List.mem_append] at ht
    rcases ht with rfl | ht | ht
    · exact ⟨h.1, h.2.1⟩
    · exact ih1 h.2.1 t ht
    · exact ih2 h.2.2 t ht
theorem Te.size_pre (f : Te) : ∀ t ∈ f.pre, 1 + t.2.size ≤ f.size := by
  induction f with
  | nil => intro t ht; cases ht
  | cons x ps r ih1 ih2 =>
    intro t ht
    simp only [Te.pre, List.mem_cons, List.mem_append] at ht
    rcases ht with rfl | ht | ht
    · simp only [Te.size]; omega
    · have := ih1 t ht; simp only [Te.size]; omega
    · have := ih2 t ht; simp only [Te.size]; omega
end Go.Proofs.Ytfoangiphbmipaa
/- slices.Backward at terms. -/
namespace Go.Proofs.Ytfoangiphbmipaa
open Go.RowKit Go.Shelf
attribute [local go_sem] Oper.semAt_some

/-- A slice value that reads as these terms' cells, below block B. -/
def RdE (B : Nat) (w : World) (v : Value) (L : List Tm) : Prop :=
  ∃ A c, v = .slice A L.length c ∧ (0 < L.length → ∃ b off, A = some ⟨b, off, none⟩ ∧ b < B ∧ ∀ i (h : i < L.length), NdAt w b (off + i * 9) L[i].1)
theorem RdE.below {B : Nat} {w w' : World} {v : Value} {L : List Tm} (h : RdE B w v L) (hb : Below B w w') : RdE B w' v L := by
  obtain ⟨A, c, hv, h⟩ := h
  refine ⟨A, c, hv, fun hn => ?_⟩
  obtain ⟨b, off, hA, hlt, hc⟩ := h hn
  exact ⟨b, off, hA, hlt, fun i hi => (hc i hi).below hb hlt⟩
theorem RdE.mono {B C : Nat} {w : World} {v : Value} {L : List Tm} (h : RdE B w v L) (hC : B ≤ C) : RdE C w v L := by
  obtain ⟨A, c, hv, h⟩ := h
  refine ⟨A, c, hv, fun hn => ?_⟩
  obtain ⟨b, off, hA, hlt, hc⟩ := h hn
  exact ⟨b, off, hA, by omega, hc⟩
theorem teC_rd {B : Nat} {w : World} {f : Te} {b off : Nat} (h : TeC B w f b off) : ∀ i (hi : i < f.top.length), NdAt w b (off + i * 9) f.top[i].1 := by
  induction f generalizing off with
  | nil => intro i hi; simp [Te.top] at hi
  | cons x ps r _ ih =>
    obtain ⟨h1, _, _, h5⟩ := teC_cons.1 h
    intro i hi
    cases i with
    | zero => simpa [Te.top] using h1
    | succ i =>
      have := ih h5 i (by simpa [Te.top] using hi)
      rw [show off + (i + 1) * 9 = off + 9 + i * 9 by omega]
      simpa [Te.top] using this
theorem TeV.rd {B : Nat} {w : World} {f : Te} {v : Value} (h : TeV B w f v) : RdE B w v f.top := by
  cases f with
  | nil =>
    obtain ⟨A, c, rfl⟩ := teV_nil.1 h
    exact ⟨A, c, rfl, fun h => by simp [Te.top] at h⟩
  | cons x ps r =>
    obtain ⟨b, off, cap, rfl, _, _, hb, hc⟩ := teV_cons.1 h
    exact ⟨_, cap, by rw [Te.top_len]; rfl, fun _ => ⟨b, off, rfl, hb, teC_rd hc⟩⟩
set_option maxRecDepth 100000 in
set_option maxHeartbeats 2000000 in
/-- slices.Backward's closure: the last first, each with its place. -/
theorem eback1 (n : Nat) (hn : 1 ≤ n) (l Bs B : Nat) (A : Option Addr) (c : Nat) (L : List Tm) (hL : L.length ≤ 1000000) (J Jx : List (Int × Tm) → World → Prop)
    (hY : ∀ pre x W, J pre W → pre.length < L.length → YieldAt Fence.wide (n - 1) Try.prog l #[.int .i64 x.1, teVal x.2.1] W fun e W' =>
      (e = .returned (.bool true) ∧ J (pre ++ [x]) W' ∧ KpB B Bs W W') ∨ (e = .returned (.bool false) ∧ Jx (pre ++ [x]) W'))
    (W : World) (hBs : Boxed W Bs 25 (.slice A L.length c)) (hR : RdE B W (.slice A L.length c) L) (h0 : J [] W) :
    CallsIn Fence.wide n Try.prog 36 #[.func (.yield l) #[] #[], .pointer (some ⟨Bs, 0, none⟩)] W fun e W' => (∃ v, e = .returned v) ∧
      ((∃ ys : List (Int × Tm), ys.map (·.2) = L.reverse ∧ J ys W') ∨ (∃ pre, Jx pre W')) := by
  refine callsIn_of_wp Try.func36 rfl trivial ?_ rfl
  simp only [Try.ntmps36, List.size_toArray, List.length_cons, List.length_nil, Nat.reduceAdd, Nat.reduceSub, Array.replicate_succ, Array.replicate_zero, List.push_toArray, List.append_toArray, List.nil_append, List.cons_append]
  have e00 : W.cell? ⟨Bs, 0, none⟩ = some (.slice A L.length c) := hBs.cell
  have HBS := Lib.hid hBs
  clear hBs
  gi_wp2
  gi_loopw [3] (fun i wr => ∃ (k : Nat) (z : Int) (pre : List (Int × Tm)), k ≤ L.length ∧ i = .int .i64 z ∧ z + 1 = k ∧ pre.map (·.2) = (L.drop k).reverse ∧ J pre wr ∧ Below B W wr ∧ Boxed wr Bs 25 (.slice A L.length c))
    (fun i _ => (intOf i + 1).toNat)
  case atStart => exact ⟨L.length, _, [], Nat.le_refl _, rfl, by omega, by simp, h0, Below.refl _ _, HBS.out⟩
  case round =>
    obtain ⟨k, z, pre, hk, rfl, hz, hpre, hJs, hnx, hbx⟩ := hrel
    have e0 : wr.cell? ⟨Bs, 0, none⟩ = some (.slice A L.length c) := hbx.cell
    have HBX := Lib.hid hbx
    clear hbx
    by_cases hk0 : 1 ≤ k
    · obtain ⟨A', c', hv, hf⟩ := hR.below hnx
      injection hv with hv1 _ hv3
      subst hv1; subst hv3
      obtain ⟨b, off, rfl, hlt, hc⟩ := hf (by omega)
      obtain ⟨c0, c1, c2, c3, c4, c5, c6, c7, c8⟩ := hc (k - 1) (by omega)
      have hdrop : L.drop (k - 1) = L[k - 1] :: L.drop k := by
        have := List.drop_eq_getElem_cons (l := L) (i := k - 1) (by omega)
        rwa [show k - 1 + 1 = k by omega] at this
      have hpl : pre.length < L.length := by
        have : (pre.map (·.2)).length = pre.length := by simp
        rw [hpre] at this
        simp at this
        omega
      obtain ⟨x, hx⟩ : ∃ x, L[k - 1] = x := ⟨_, rfl⟩
      rw [hx] at c0 c1 c2 c3 c4 c5 c6 c7 c8 hdrop
      obtain ⟨⟨x0, x1, x2, x3, x4, x5, x6, x7, x8, x9⟩, x10⟩ := x
      dsimp only [slv] at c0 c1 c2 c3 c4 c5 c6 c7 c8
      obtain ⟨fn, tmps, assign, body, hy, hR2⟩ := hY pre (z, ⟨x0, x1, x2, x3, x4, x5, x6, x7, x8, x9⟩, x10) wr hJs hpl
      dsimp only [teVal, slv] at hy
      have f1 : (0 : Int) ≤ z := by omega
      have f2 : z < (L.length : Int) := by omega
      have f3 : z.toNat = k - 1 := by omega
      have f4 : decide ((0 : Int) ≤ z) = true := decide_eq_true f1
      have HZ := Lib.hid hz
      have HP := Lib.hid hpre
      have HD := Lib.hid hdrop
      clear hz hpre hdrop hx hc hf hpl
      gi_wp2
      refine hR2.mono ?_
      rintro e W3 (⟨rfl, hJ3, hk3⟩ | ⟨rfl, hJx3⟩)
      · gi_wp2
        go_roundw
        case rel => exact ⟨k - 1, z - 1, pre ++ [(z, ⟨x0, x1, x2, x3, x4, x5, x6, x7, x8, x9⟩, x10)], by omega, by go_num, by have := HZ.out; omega, by simp [HP.out, HD.out], hJ3, hnx.trans hk3.below, hk3.boxed HBX.out⟩
        case measure => simp [intOf]; omega
      · gi_wp2
        refine bodyPost_ret (results_none rfl _ _ _) rfl ?_
        exact ⟨⟨_, rfl⟩, .inr ⟨_, hJx3⟩⟩
    · obtain rfl : k = 0 := by omega
      have f1 : ¬ (0 : Int) ≤ z := by omega
      have f4 : decide ((0 : Int) ≤ z) = false := decide_eq_false f1
      have HP := Lib.hid hpre
      clear hz hpre
      gi_wp2
      go_end0
      exact ⟨⟨_, rfl⟩, .inl ⟨pre, by simpa using HP.out, hJs⟩⟩
set_option maxHeartbeats 1000000 in
/-- slices.Backward at types: the slice is boxed, the function that comes has the box. -/
theorem eback_make (A : Option Addr) (n c : Nat) (w : World) :
    Calls Try.prog 27 #[.slice A n c] w fun e w' => e = .returned (.func (.func 36) #[] #[.pointer (some ⟨w.heap.size, 0, none⟩)]) ∧ w' = w.alloc (.cells #[.slice A n c] 25) := by
  go_enter Try.func27, Try.ntmps27
  go_wp2
  go_ret
  exact ⟨rfl, rfl⟩
theorem eback_stops (n : Nat) (hn : 1 ≤ n) (Bs B : Nat) (A : Option Addr) (c : Nat) (L : List Tm) (hL : L.length ≤ 1000000) (w : World) (hBw : B ≤ w.heap.size) (hBs : Boxed w Bs 25 (.slice A L.length c)) (hR : RdE B w (.slice A L.length c) L) :
    SeqStopsK Fence.wide n Try.prog 36 #[.pointer (some ⟨Bs, 0, none⟩)] (fun x : Int × Tm => #[Value.int .i64 x.1, teVal x.2.1]) (KpB B Bs) (fun ys => ys.map (·.2) = L.reverse) (fun _ => True) L.length w := fun l J Jx W hW _ _ hY h0 => by
  have hbs : Boxed W Bs 25 (.slice A L.length c) := (hW.block Bs hBs.lt).trans hBs
  refine (eback1 n hn l Bs B A c L hL J Jx hY W hbs (hR.below (hW.mono hBw)) h0).mono ?_
  rintro e W' ⟨he, ⟨ys, hy, hj⟩ | ⟨pre, hj⟩⟩
  · exact ⟨he, .inl ⟨ys, hy, hj⟩⟩
  · exact ⟨he, .inr ⟨pre, trivial, hj⟩⟩
end Go.Proofs.Ytfoangiphbmipaa
