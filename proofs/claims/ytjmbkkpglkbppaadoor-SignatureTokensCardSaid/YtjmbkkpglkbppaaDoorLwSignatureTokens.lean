
import Derived.Test.YtjmbkkpglkbppaaDoorSgP
import Derived.Test.YtjmbkkpglkbppaaDoorPrA
import Derived.Test.YtjmbkkpglkbppaaDoorLexP
import Derived.Test.YtjmbkkpglkbppaaDoorTyI
import Derived.Test.YtjmbkkpglkbppaaDoorTyN
import Derived.Test.YtjmbkkpglkbppaaDoorTyC
import Derived.Test.YtjmbkkpglkbppaaDoorChB
import Derived.Deep.DeepCutAuto
import Derived.Deep.RegionWith
import Derived.Test.YtjmbkkpglkbppaaDoorPrB
import Derived.Test.YtjmbkkpglkbppaaDoorTyL
import Derived.Test.YtjmbkkpglkbppaaDoorTyK
import Derived.Test.YtjmbkkpglkbppaaDoorSgG
import Derived.Test.YtjmbkkpglkbppaaDoorLexE
import Derived.Test.YtjmbkkpglkbppaaDoorSgK
import Derived.Test.YtjmbkkpglkbppaaDoorSgJ
import Derived.Test.YtjmbkkpglkbppaaDoorPrG
import Derived.Test.YtjmbkkpglkbppaaDoorLexM
import Derived.Deep.CutBlock
import Derived.Test.YtjmbkkpglkbppaaDoorTyW
/- A type's tokens, and that the reader reads them back: the plain facts. Nothing here speaks of the program. -/
namespace Go.Proofs.YtjmbkkpglkbppaaDoor

/-- A type without variables: its kind, its tokens (1 to 4: the signs; 5, 6: int, bool), the type as it is read, how deep a reader goes. -/
structure Tt where
  k : Int
  tk : List Nat
  ty : Ty
  nd : Nat
def brkT (x : Tt) : List Nat := if x.k = 4 then 1 :: (x.tk ++ [2]) else x.tk
def sepK : List Tt → List Nat
  | [] => []
  | [x] => brkT x
  | x :: y :: r => brkT x ++ 3 :: sepK (y :: r)
def maxN : List Tt → Nat
  | [] => 0
  | x :: r => max x.nd (maxN r)
def mkTt (k : Int) (l : List Tt) : Tt :=
  if k = 2 then ⟨2, [5], (2, 0, .nil), 0⟩ else if k = 3 then ⟨3, [6], (3, 0, .nil), 0⟩
  else if k = 4 then (match l with
    | [x, y] => ⟨4, brkT x ++ 4 :: y.tk, arrT x.ty y.ty, 2 + max x.nd y.nd⟩
    | _ => ⟨0, [], (0, 0, .nil), 0⟩)
  else ⟨5, 1 :: (sepK l ++ [2]), (5, 0, tyL (l.map Tt.ty)), 2 + maxN l⟩
def Fo.tt : Fo → List Tt
  | .nil => []
  | .cons k _ _ ps r => mkTt k ps.tt :: r.tt
/-- Of a right type without variables. -/
def Fo.okR : Fo → Prop
  | .nil => True
  | .cons k _ _ ps r => (k = 2 ∨ k = 3 ∨ (k = 4 ∧ ps.len = 2) ∨ (k = 5 ∧ 2 ≤ ps.len ∧ ps.len ≤ 8)) ∧ ps.okR ∧ r.okR
theorem Fo.tt_len (f : Fo) : f.tt.length = f.len := by
  induction f with
  | nil => rfl
  | cons k n u ps r _ ih => simp [Fo.tt, Fo.len, ih]
def TkAt (S : Tk) (p : Int) (m : Nat) : Prop := if m = 5 then S.sg p = 0 ∧ S.bs p = some (2, 0) else if m = 6 then S.sg p = 0 ∧ S.bs p = some (3, 0) else S.sg p = m
def AtK (S : Tk) : Int → List Nat → Prop
  | _, [] => True
  | i, m :: r => TkAt S i m ∧ AtK S (i + 1) r
theorem AtK.app {S : Tk} {a b : List Nat} : ∀ {i : Int}, AtK S i (a ++ b) → AtK S i a ∧ AtK S (i + a.length) b := by
  induction a with
  | nil => intro i h; exact ⟨trivial, by simpa using h⟩
  | cons m r ih =>
    intro i h
    obtain ⟨h1, h2⟩ := h
    obtain ⟨h3, h4⟩ := ih h2
    refine ⟨⟨h1, h3⟩, ?_⟩
    have : i + ((m :: r).length : Nat) = i + 1 + (r.length : Nat) := by simp; omega
    rw [this]; exact h4
def Rd1 (x : Tt) : Prop := ∀ (S : Tk) (most i lev : Int) (K : List Fr) (o : Out), AtK S i x.tk → lev + x.nd ≤ most →
  (x.k ≠ 4 → M S most (.behind x.ty (i + x.tk.length) lev K) o → M S most (.first i lev K) o) ∧
  (S.sg (i + x.tk.length) ≠ 4 → M S most (.ends x.ty (i + x.tk.length) lev K) o → M S most (.first i lev K) o)
theorem Rd1.of {x : Tt} (h : ∀ (S : Tk) (most i lev : Int) (K : List Fr) (o : Out), AtK S i x.tk → lev + x.nd ≤ most → M S most (.behind x.ty (i + x.tk.length) lev K) o → M S most (.first i lev K) o) : Rd1 x :=
  fun S most i lev K o ha hl => ⟨fun _ => h S most i lev K o ha hl, fun h4 he => h S most i lev K o ha hl (.over h4 he)⟩
theorem sepK_len (x y : Tt) (r : List Tt) : (sepK (x :: y :: r)).length = (brkT x).length + 1 + (sepK (y :: r)).length := by
  simp only [sepK, List.length_append, List.length_cons]; omega
theorem brk_reads {x : Tt} (hx : Rd1 x) (S : Tk) (most i lev : Int) (K : List Fr) (o : Out) (ha : AtK S i (brkT x)) (hl : lev + 1 + x.nd ≤ most) (hM : M S most (.behind x.ty (i + (brkT x).length) lev K) o) : M S most (.first i lev K) o := by
  unfold brkT at ha hM
  split at ha
  · rename_i h4
    rw [if_pos h4] at hM
    obtain ⟨h1, ha⟩ := ha
    have h1 : S.sg i = 1 := by simpa [TkAt] using h1
    obtain ⟨h2, h3, _⟩ := AtK.app ha
    have h3 : S.sg (i + 1 + x.tk.length) = 2 := by simpa [TkAt] using h3
    refine .open_ h1 (by omega) ((hx S most (i + 1) (lev + 1) _ o h2 (by omega)).2 (by omega) (.close h3 ?_))
    have e1 : endT ⟨false, lev, []⟩ x.ty = x.ty := by simp [endT, tupTy]
    have e2 : i + ((1 :: (x.tk ++ [2])).length : Nat) = i + 1 + (x.tk.length : Nat) + 1 := by simp; omega
    rw [e1]; rw [e2] at hM; exact hM
  · rename_i h4
    rw [if_neg h4] at hM
    exact (hx S most i lev K o ha (by omega)).1 h4 hM
theorem tup_reads (l : List Tt) (hr : ∀ x ∈ l, Rd1 x) : ∀ (S : Tk) (most i lev l0 : Int) (ps : List Ty) (K : List Fr) (o : Out), l ≠ [] → ps.length + l.length ≤ 8 → AtK S i (sepK l ++ [2]) → lev + 1 + maxN l ≤ most →
    M S most (.behind (tupTy (ps ++ l.map Tt.ty)) (i + (sepK l).length + 1) l0 K) o → M S most (.first i lev (⟨false, l0, ps⟩ :: K)) o := by
  induction l with
  | nil => intro S most i lev l0 ps K o h; exact absurd rfl h
  | cons x r ih =>
    intro S most i lev l0 ps K o _ h8 hat hm hM
    have hx := hr x List.mem_cons_self
    have hxm : lev + 1 + x.nd ≤ most := by simp only [maxN] at hm; omega
    cases r with
    | nil =>
      simp only [sepK] at hat hM
      obtain ⟨h1, h2, _⟩ := AtK.app hat
      have h2 : S.sg (i + (brkT x).length) = 2 := by simpa [TkAt] using h2
      refine brk_reads hx S most i lev _ o h1 hxm (.over (by omega) (.close h2 ?_))
      have : endT ⟨false, l0, ps⟩ x.ty = tupTy (ps ++ [x].map Tt.ty) := by simp [endT]
      rw [this]; exact hM
    | cons y r =>
      simp only [sepK, List.append_assoc, List.cons_append] at hat
      obtain ⟨h1, h2, h3⟩ := AtK.app hat
      have h2 : S.sg (i + (brkT x).length) = 3 := by simpa [TkAt] using h2
      refine brk_reads hx S most i lev _ o h1 hxm (.over (by omega) (.more h2 (by simp at h8; omega) ?_))
      refine ih (fun z hz => hr z (List.mem_cons_of_mem _ hz)) S most _ lev l0 (ps ++ [x.ty]) K o (by simp) (by simp at h8 ⊢; omega) h3 (by simp only [maxN] at hm ⊢; omega) ?_
      rw [sepK_len] at hM
      have e1 : i + ((brkT x).length : Int) + 1 + ((sepK (y :: r)).length : Int) + 1 = i + (((brkT x).length + 1 + (sepK (y :: r)).length : Nat) : Int) + 1 := by push_cast; omega
      rw [e1]
      have e2 : ps ++ [x.ty] ++ (y :: r).map Tt.ty = ps ++ (x :: y :: r).map Tt.ty := by simp
      rw [e2]
      exact hM
theorem reads_all (f : Fo) (hf : f.okR) : ∀ x ∈ f.tt, Rd1 x := by
  induction f with
  | nil => intro x hx; cases hx
  | cons k n u ps r ihp ihr =>
    obtain ⟨hk, hp, hr⟩ := hf
    intro x hx
    rcases List.mem_cons.1 hx with rfl | hx
    · have hps := ihp hp
      have hlen := ps.tt_len
      rcases hk with rfl | rfl | ⟨rfl, h2⟩ | ⟨rfl, h2, h8⟩
      · refine Rd1.of fun S most i lev K o ha hl hM => ?_
        obtain ⟨h1, _⟩ := ha
        have h1 : S.sg i = 0 ∧ S.bs i = some (2, 0) := by simpa [TkAt] using h1
        exact .leaf (by omega) h1.2 hM
      · refine Rd1.of fun S most i lev K o ha hl hM => ?_
        obtain ⟨h1, _⟩ := ha
        have h1 : S.sg i = 0 ∧ S.bs i = some (3, 0) := by simpa [TkAt] using h1
        exact .leaf (by omega) h1.2 hM
      · match hl : ps.tt, hlen with
        | [x, y], _ =>
          rw [hl] at hps
          have hx := hps x (by simp)
          have hy := hps y (by simp)
          intro S most i lev K o ha hlv
          have hm : mkTt 4 [x, y] = ⟨4, brkT x ++ 4 :: y.tk, arrT x.ty y.ty, 2 + max x.nd y.nd⟩ := rfl
          rw [hm] at ha hlv ⊢
          refine ⟨fun h => absurd rfl h, fun h4 hM => ?_⟩
          dsimp only at ha hlv h4 hM
          obtain ⟨h1, h2, h3⟩ := AtK.app ha
          have h2 : S.sg (i + (brkT x).length) = 4 := by simpa [TkAt] using h2
          have e1 : i + ((brkT x ++ 4 :: y.tk).length : Nat) = i + ((brkT x).length : Nat) + 1 + (y.tk.length : Nat) := by simp; omega
          rw [e1] at h4 hM
          refine brk_reads hx S most i lev K o h1 (by omega) (.arrow h2 (by omega) ?_)
          exact (hy S most _ (lev + 1) _ o h3 (by omega)).2 h4 (.out hM)
        | [], h => rw [h2] at h; simp at h
        | [_], h => rw [h2] at h; simp at h
        | _ :: _ :: _ :: _, h => rw [h2] at h; simp at h
      · refine Rd1.of fun S most i lev K o ha hlv hM => ?_
        have hm : mkTt 5 ps.tt = ⟨5, 1 :: (sepK ps.tt ++ [2]), (5, 0, tyL (ps.tt.map Tt.ty)), 2 + maxN ps.tt⟩ := rfl
        rw [hm] at ha hlv hM
        dsimp only at ha hlv hM
        obtain ⟨h1, ha⟩ := ha
        have h1 : S.sg i = 1 := by simpa [TkAt] using h1
        refine .open_ h1 (by omega) (tup_reads _ hps S most (i + 1) (lev + 1) lev [] K o (by intro h; rw [h] at hlen; simp at hlen; omega) (by simp; omega) ha (by omega) ?_)
        have e1 : i + ((1 :: (sepK ps.tt ++ [2])).length : Nat) = i + 1 + ((sepK ps.tt).length : Nat) + 1 := by simp; omega
        rw [e1] at hM
        have e2 : tupTy ([] ++ ps.tt.map Tt.ty) = (5, 0, tyL (ps.tt.map Tt.ty)) := by
          match hl : ps.tt, hlen with
          | x :: y :: r, _ => rfl
          | [], h => simp at h <;> omega
          | [_], h => simp at h <;> omega
        rw [e2]; exact hM
    · exact ihr hr x hx
end Go.Proofs.YtjmbkkpglkbppaaDoor
/- A type's text is its tokens, one behind the other. -/
namespace Go.Proofs.YtjmbkkpglkbppaaDoor

def rendT : Nat → List UInt8
  | 1 => [40]
  | 2 => [41]
  | 3 => [32, 42, 32]
  | 4 => [32, 45, 62, 32]
  | 5 => [105, 110, 116]
  | _ => [98, 111, 111, 108]
def rend (l : List Nat) : List UInt8 := l.flatMap rendT
theorem rend_app (a b : List Nat) : rend (a ++ b) = rend a ++ rend b := by simp [rend]
theorem rend_cons (a : Nat) (b : List Nat) : rend (a :: b) = rendT a ++ rend b := by simp [rend]
theorem rend_nil : rend [] = [] := rfl
theorem brk_rend (x : Tt) : brk (x.k, rend x.tk) = rend (brkT x) := by
  unfold brk brkT
  dsimp only
  split
  · simp [rend_app, rend_cons, rend_nil, rendT]
  · rfl
theorem sep_rend (l : List Tt) : sepT (l.map fun x => (x.k, rend x.tk)) = rend (sepK l) := by
  induction l with
  | nil => rfl
  | cons x r ih =>
    cases r with
    | nil => simp only [List.map_cons, List.map_nil, sepT, sepK, brk_rend]
    | cons y r =>
      simp only [List.map_cons] at ih ⊢
      simp only [sepT, sepK, rend_app, rend_cons, brk_rend, ih]
      simp [rendT]
theorem txts_rend (f : Fo) (hf : f.okR) : f.txts = f.tt.map fun x => (x.k, rend x.tk) := by
  induction f with
  | nil => rfl
  | cons k n u ps r ihp ihr =>
    obtain ⟨hk, hp, hr⟩ := hf
    have hlen := ps.tt_len
    simp only [Fo.txts, Fo.tt, List.map_cons, ihr hr, ihp hp]
    congr 1
    rcases hk with rfl | rfl | ⟨rfl, h2⟩ | ⟨rfl, h2, h8⟩
    · simp [oneT, mkTt, rend, rendT]
    · simp [oneT, mkTt, rend, rendT]
    · match hl : ps.tt, hlen with
      | [x, y], _ =>
        have hm : mkTt 4 [x, y] = ⟨4, brkT x ++ 4 :: y.tk, arrT x.ty y.ty, 2 + max x.nd y.nd⟩ := rfl
        rw [hm]
        simp [oneT, rend_app, rend_cons, rendT, brk_rend]
      | [], h => rw [h2] at h; simp at h
      | [_], h => rw [h2] at h; simp at h
      | _ :: _ :: _ :: _, h => rw [h2] at h; simp at h
    · have hm : mkTt 5 ps.tt = ⟨5, 1 :: (sepK ps.tt ++ [2]), (5, 0, tyL (ps.tt.map Tt.ty)), 2 + maxN ps.tt⟩ := rfl
      rw [hm]
      simp [oneT, rend_app, rend_cons, rend_nil, rendT, sep_rend]
end Go.Proofs.YtjmbkkpglkbppaaDoor
/- A type's text, lexed by the document's answer: its tokens. The plain facts. -/
namespace Go.Proofs.YtjmbkkpglkbppaaDoor

def rendI (l : List Nat) : List Int := (rend l).map fun c => (c.toNat : Int)
theorem rendI_cons (m : Nat) (r : List Nat) : rendI (m :: r) = (rendT m).map (fun c => (c.toNat : Int)) ++ rendI r := by simp [rendI, rend_cons]
def Op (z : List Nat) : Prop := ∀ x r, z = x :: r → x ≠ 5 ∧ x ≠ 6
/-- No two words stand side by side. -/
def Sepd : List Nat → Prop
  | [] => True
  | m :: r => (1 ≤ m ∧ m ≤ 6) ∧ ((m = 5 ∨ m = 6) → Op r) ∧ Sepd r
def toksAt : Nat → List Nat → List (Int × Nat × Nat)
  | _, [] => []
  | k, 1 :: r => (4, k, k + 1) :: toksAt (k + 1) r
  | k, 2 :: r => (4, k, k + 1) :: toksAt (k + 1) r
  | k, 3 :: r => (4, k + 1, k + 2) :: toksAt (k + 3) r
  | k, 4 :: r => (4, k + 1, k + 3) :: toksAt (k + 4) r
  | k, 5 :: r => (3, k, k + 3) :: toksAt (k + 3) r
  | k, _ :: r => (3, k, k + 4) :: toksAt (k + 4) r
theorem drop_at {l : List Int} {k : Nat} {c : Int} {r : List Int} (h : l.drop k = c :: r) : ∃ hk : k < l.length, l[k] = c ∧ at_ l k = c ∧ l.drop (k + 1) = r := by
  have hk : k < l.length := by
    rcases Nat.lt_or_ge k l.length with h1 | h1
    · exact h1
    · rw [List.drop_eq_nil_of_le h1] at h; cases h
  rw [List.drop_eq_getElem_cons hk] at h
  injection h with h1 h2
  exact ⟨hk, h1, by rw [at_get _ _ hk, h1], h2⟩
theorem stop_at {l : List Int} {k : Nat} {c : Int} {r : List Int} (h : l.drop k = c :: r) (hc : (remB false c || blankB c) = false) : blankEnd false l k = k := by
  obtain ⟨hk, h1, _⟩ := drop_at h
  exact blankEnd_stop hk (by rw [h1]; exact hc)
theorem blank_at {l : List Int} {k : Nat} {r : List Int} (h : l.drop k = 32 :: r) : blankEnd false l k = blankEnd false l (k + 1) := by
  obtain ⟨hk, h1, _⟩ := drop_at h
  exact blankEnd_blank hk (by rw [h1]; rfl)
theorem sign_at {l : List Int} {k : Nat} {c : Int} {r : List Int} (h : l.drop k = c :: r) (hc : smallB c = false ∧ digitB c = false ∧ signB c = true) : tokenT l k = (4, k + 1, 0) := by
  obtain ⟨hk, _, h1, _⟩ := drop_at h
  unfold tokenT signT
  rw [h1, hc.1, hc.2.1, hc.2.2]
  simp
theorem arrow_at {l : List Int} {k : Nat} {r : List Int} (h : l.drop k = 45 :: 62 :: r) : tokenT l k = (4, k + 2, 0) := by
  obtain ⟨hk, _, h1, h2⟩ := drop_at h
  obtain ⟨_, _, h3, _⟩ := drop_at h2
  unfold tokenT signT
  rw [h1, h3]
  simp [smallB, digitB, signB]
theorem word_at {l : List Int} {k : Nat} {ws r : List Int} (h : l.drop k = ws ++ r) (hw : ∀ c ∈ ws, innerB c = true) (hne : ∃ c t, ws = c :: t ∧ smallB c = true) (hkw : kwB ws = true) (hr : r.takeWhile innerB = []) : tokenT l k = (3, k + ws.length, 0) := by
  obtain ⟨c, t, hc, hs⟩ := hne
  have h' := h
  rw [hc, List.cons_append] at h'
  obtain ⟨hk, _, h1, _⟩ := drop_at h'
  have he : endAt innerB l k = k + ws.length := by
    unfold endAt
    rw [h, List.takeWhile_append_of_pos hw, hr, List.append_nil]
  have hsub : sub l k (k + ws.length) = ws := by
    unfold sub
    rw [h]; simp
  unfold tokenT wordT
  rw [h1, if_pos hs, he, hsub, if_pos hkw]
theorem op_rend {r : List Nat} (h : Op r) (hs : Sepd r) : (rendI r).takeWhile innerB = [] := by
  cases r with
  | nil => rfl
  | cons x r =>
    obtain ⟨h5, h6⟩ := h x r rfl
    obtain ⟨⟨h1, h2⟩, _⟩ := hs
    rw [rendI_cons]
    have : x = 1 ∨ x = 2 ∨ x = 3 ∨ x = 4 := by omega
    rcases this with rfl | rfl | rfl | rfl <;> simp [rendT, innerB, smallB, digitB]
theorem lex_chain (l : List Int) : ∀ (tk : List Nat) (k f : Nat) (acc : List (Int × Nat × Nat)), l.drop k = rendI tk → Sepd tk → l.length < f + k → wordsA l f (blankEnd false l k) acc = .ok (acc ++ toksAt k tk) := by
  intro tk
  induction tk with
  | nil =>
    intro k f acc hd _ _
    have hk : l.length ≤ k := by
      have := congrArg List.length hd
      simp [rendI, rend] at this; omega
    rw [blankEnd_end hk, wordsA_end hk]; simp [toksAt]
  | cons m r ih =>
    intro k f acc hd hs hf
    obtain ⟨⟨h1, h6⟩, ho, hr⟩ := hs
    rw [rendI_cons] at hd
    have hm : m = 1 ∨ m = 2 ∨ m = 3 ∨ m = 4 ∨ m = 5 ∨ m = 6 := by omega
    rcases hm with rfl | rfl | rfl | rfl | rfl | rfl
    · have hd : l.drop k = 40 :: rendI r := hd
      obtain ⟨hk, _, _, h2⟩ := drop_at hd
      rw [stop_at hd rfl, wordsA_go (by omega) hk (sign_at hd ⟨rfl, rfl, rfl⟩), ih (k + 1) (f - 1) _ h2 hr (by omega)]
      simp [toksAt]
    · have hd : l.drop k = 41 :: rendI r := hd
      obtain ⟨hk, _, _, h2⟩ := drop_at hd
      rw [stop_at hd rfl, wordsA_go (by omega) hk (sign_at hd ⟨rfl, rfl, rfl⟩), ih (k + 1) (f - 1) _ h2 hr (by omega)]
      simp [toksAt]
    · have hd : l.drop k = 32 :: 42 :: 32 :: rendI r := hd
      obtain ⟨hk, _, _, h2⟩ := drop_at hd
      obtain ⟨hk2, _, _, h3⟩ := drop_at h2
      obtain ⟨hk3, _, _, h4⟩ := drop_at h3
      rw [blank_at hd, stop_at h2 rfl, wordsA_go (by omega) hk2 (sign_at h2 ⟨rfl, rfl, rfl⟩), blank_at h3, ih (k + 1 + 1 + 1) (f - 1) _ h4 hr (by omega)]
      simp [toksAt]
    · have hd : l.drop k = 32 :: 45 :: 62 :: 32 :: rendI r := hd
      obtain ⟨hk, _, _, h2⟩ := drop_at hd
      obtain ⟨hk2, _, _, h3⟩ := drop_at h2
      obtain ⟨hk3, _, _, h4⟩ := drop_at h3
      obtain ⟨hk4, _, _, h5⟩ := drop_at h4
      rw [blank_at hd, stop_at h2 rfl, wordsA_go (by omega) hk2 (arrow_at h2), blank_at h4, ih (k + 1 + 1 + 1 + 1) (f - 1) _ h5 hr (by omega)]
      simp [toksAt]
    · have hd : l.drop k = [105, 110, 116] ++ rendI r := hd
      obtain ⟨hk, _, _, h2⟩ := drop_at (c := 105) (r := 110 :: 116 :: rendI r) hd
      obtain ⟨hk2, _, _, h3⟩ := drop_at h2
      obtain ⟨hk3, _, _, h4⟩ := drop_at h3
      rw [stop_at (c := 105) (r := 110 :: 116 :: rendI r) hd rfl, wordsA_go (by omega) hk (word_at hd (by decide) ⟨105, [110, 116], rfl, rfl⟩ rfl (op_rend (ho (.inl rfl)) hr))]
      have := ih (k + 3) (f - 1) (acc ++ [(3, k, k + 3)]) h4 hr (by omega)
      exact this.trans (by simp [toksAt])
    · have hd : l.drop k = [98, 111, 111, 108] ++ rendI r := hd
      obtain ⟨hk, _, _, h2⟩ := drop_at (c := 98) (r := 111 :: 111 :: 108 :: rendI r) hd
      obtain ⟨hk2, _, _, h3⟩ := drop_at h2
      obtain ⟨hk3, _, _, h4⟩ := drop_at h3
      obtain ⟨hk4, _, _, h5⟩ := drop_at h4
      rw [stop_at (c := 98) (r := 111 :: 111 :: 108 :: rendI r) hd rfl, wordsA_go (by omega) hk (word_at hd (by decide) ⟨98, [111, 111, 108], rfl, rfl⟩ rfl (op_rend (ho (.inr rfl)) hr))]
      have := ih (k + 4) (f - 1) (acc ++ [(3, k, k + 4)]) h5 hr (by omega)
      exact this.trans (by simp [toksAt])
theorem lex_all (l : List Int) (tk : List Nat) (h : l = rendI tk) (hs : Sepd tk) : wordsE l = .ok (toksAt 0 tk) := by
  unfold wordsE
  rw [lex_chain l tk 0 (l.length + 1) [] (by simpa using h) hs (by omega)]
  simp
/-- A type's tokens are set apart. -/
def Qs (t : List Nat) : Prop := ∀ z, Sepd z → Op z → Sepd (t ++ z)
theorem op_sign {m : Nat} {z : List Nat} (h : m ≤ 4) : Op (m :: z) := by
  intro x r e
  injection e with e1 _
  omega
theorem Qs.brk {x : Tt} (h : Qs x.tk) : Qs (brkT x) := by
  intro z hz ho
  unfold brkT
  split
  · rw [List.cons_append, List.append_assoc]
    exact ⟨by omega, fun h5 => by omega, h _ ⟨by omega, fun h5 => by omega, hz⟩ (op_sign (by omega))⟩
  · exact h z hz ho
theorem Qs.sep (l : List Tt) (h : ∀ x ∈ l, Qs x.tk) (hne : l ≠ []) : Qs (sepK l) := by
  induction l with
  | nil => exact absurd rfl hne
  | cons x r ih =>
    cases r with
    | nil => exact Qs.brk (h x List.mem_cons_self)
    | cons y r =>
      intro z hz ho
      simp only [sepK, List.append_assoc, List.cons_append]
      exact Qs.brk (h x List.mem_cons_self) _ ⟨by omega, fun h5 => by omega, ih (fun w hw => h w (List.mem_cons_of_mem _ hw)) (by simp) z hz ho⟩ (op_sign (by omega))
theorem qs_all (f : Fo) (hf : f.okR) : ∀ x ∈ f.tt, Qs x.tk := by
  induction f with
  | nil => intro x hx; cases hx
  | cons k n u ps r ihp ihr =>
    obtain ⟨hk, hp, hr⟩ := hf
    intro x hx
    rcases List.mem_cons.1 hx with rfl | hx
    · have hps := ihp hp
      have hlen := ps.tt_len
      rcases hk with rfl | rfl | ⟨rfl, h2⟩ | ⟨rfl, h2, h8⟩
      · exact fun z hz ho => ⟨by omega, fun _ => ho, hz⟩
      · exact fun z hz ho => ⟨by omega, fun _ => ho, hz⟩
      · match hl : ps.tt, hlen with
        | [x, y], _ =>
          rw [hl] at hps
          have hm : mkTt 4 [x, y] = ⟨4, brkT x ++ 4 :: y.tk, arrT x.ty y.ty, 2 + max x.nd y.nd⟩ := rfl
          rw [hm]
          intro z hz ho
          rw [List.append_assoc, List.cons_append]
          exact Qs.brk (hps x (by simp)) _ ⟨by omega, fun h5 => by omega, hps y (by simp) z hz ho⟩ (op_sign (by omega))
        | [], h => rw [h2] at h; simp at h
        | [_], h => rw [h2] at h; simp at h
        | _ :: _ :: _ :: _, h => rw [h2] at h; simp at h
      · have hm : mkTt 5 ps.tt = ⟨5, 1 :: (sepK ps.tt ++ [2]), (5, 0, tyL (ps.tt.map Tt.ty)), 2 + maxN ps.tt⟩ := rfl
        rw [hm]
        intro z hz ho
        rw [List.cons_append, List.append_assoc]
        exact ⟨by omega, fun h5 => by omega, Qs.sep ps.tt hps (by intro h; rw [h] at hlen; simp at hlen; omega) _ ⟨by omega, fun h5 => by omega, hz⟩ (op_sign (by omega))⟩
    · exact ihr hr x hx
theorem type_lexed (l : List Int) (x : Tt) (h : Qs x.tk) (hl : l = rendI x.tk) : wordsE l = .ok (toksAt 0 x.tk) :=
  lex_all l x.tk hl (by simpa using h [] trivial (by intro a r e; cases e))
end Go.Proofs.YtjmbkkpglkbppaaDoor
/- The answer's Right. -/
namespace Go.Proofs.YtjmbkkpglkbppaaDoor
open Go.RowKit

theorem Fo.pre_split (f : Fo) (j : Nat) (hj : j < f.len) : f.pre = (f.take j).pre ++ (((f.at_ j).1, (f.at_ j).2.1, (f.at_ j).2.2.1) :: (f.at_ j).2.2.2.pre) ++ (f.drop (j + 1)).pre := by
  induction f generalizing j with
  | nil => simp [Fo.len] at hj
  | cons k n v ps r _ ih =>
    cases j with
    | zero => simp [Fo.at_, Fo.pre, Fo.take, Fo.drop]
    | succ j =>
      have := ih j (by simp [Fo.len] at hj; omega)
      simp only [Fo.pre, Fo.take, Fo.at_, Fo.drop]
      rw [this]
      simp
theorem Fo.pre_take (f : Fo) (j : Nat) (hj : j < f.len) : (f.take (j + 1)).pre = (f.take j).pre ++ (((f.at_ j).1, (f.at_ j).2.1, (f.at_ j).2.2.1) :: (f.at_ j).2.2.2.pre) := by
  rw [Fo.take_step f j hj, Fo.pre_app]
  simp [Fo.pre]
theorem allAlone_appJ (a b : List Tr) : allAlone (a ++ b) = (allAlone a && allAlone b) := by simp [allAlone]
theorem allAlone_cons (x : Tr) (b : List Tr) : allAlone (x :: b) = (alone x.1 x.2.1 x.2.2.2.1 && allAlone b) := by simp [allAlone]
theorem TyV.len {B : Nat} {w : World} {f : Fo} {u : Sl} (h : TyV B w f (slv u)) : u.2.1 = f.len := by
  obtain ⟨A, c, hv⟩ := h.slice
  unfold slv at hv
  injection hv
set_option maxHeartbeats 2000000 in
set_option maxRecDepth 100000 in
theorem rright_any (m : Nat) : ∀ (f : Fo) (k n : Int) (v : Value) (w : World), f.size < m → f.size ≤ 1000000 → TyV w.heap.size w f v →
    Calls Tryd.prog 11 #[tyVal k n v] w fun e w' => e = .returned (.bool (alone k n f.len && allAlone f.pre)) ∧ Below w.heap.size w w' := by
  induction m with
  | zero => intro f k n v w h; omega
  | succ m ih =>
    intro f k n v w hm hs h
    obtain ⟨A, c, rfl⟩ := h.slice
    have H := Lib.hid h
    have IH := Lib.hid ih
    have hll := f.len_le_size
    clear h ih
    unfold tyVal
    go_enter Tryd.func11, Tryd.ntmps11
    obtain ⟨q, hq⟩ : ∃ q, f.len = q := ⟨_, rfl⟩
    rw [hq] at hll ⊢
    have HB0 := Lib.hid (show ∀ (cs : Array Value) (t : TypeId), Below w.heap.size w (w.alloc (Obj.cells cs t)) from fun cs t => (Below.refl _ w).alloc (Nat.le_refl _) _)
    have HQ := Lib.hid hq
    clear hq
    have done : alone k n q = false → ∀ (cs : Array Value) (t : TypeId), (Ending.returned (.bool false) = .returned (.bool (alone k n q && allAlone f.pre)) ∧ Below w.heap.size w (w.alloc (Obj.cells cs t))) := by
      intro h1 cs t
      rw [h1]
      exact ⟨rfl, HB0.out _ _⟩
    have DONE := Lib.hid done
    clear done
    by_cases h1 : k = 1
    case' pos =>
      subst h1
      by_cases h2 : n < 0
      · have f2 : decide (n < 0) = true := decide_eq_true h2
        go_wp2_with fail
        go_ret
        exact DONE.out (by unfold alone; rw [if_pos rfl, decide_eq_false (by omega : ¬ 0 ≤ n)]; rfl) _ _
      have f2 : decide (n < 0) = false := decide_eq_false h2
      by_cases h3 : 1073741824 ≤ n
      · have f3 : decide (1073741824 ≤ n) = true := decide_eq_true h3
        go_wp2_with fail
        go_ret
        exact DONE.out (by unfold alone; rw [if_pos rfl, decide_eq_false (by omega : ¬ n < 1073741824)]; simp) _ _
      have f3 : decide (1073741824 ≤ n) = false := decide_eq_false h3
      by_cases h4 : 0 < q
      · have f5 : decide (0 < q) = true := decide_eq_true h4
        go_wp2_with fail
        go_ret
        exact DONE.out (by unfold alone; rw [if_pos rfl, beq_eq_false_iff_ne.2 (by omega : (q : Int) ≠ 0)]; simp) _ _
      have hal : alone 1 n q = true := by
        obtain rfl : q = 0 := by omega
        unfold alone
        rw [if_pos rfl, decide_eq_true (by omega : 0 ≤ n), decide_eq_true (by omega : n < 1073741824)]
        rfl
      have HA := Lib.hid hal
      have f5 : decide (0 < q) = false := decide_eq_false h4
      clear hal h2 h3 h4
      go_wp2_with fail
    case' neg =>
      by_cases h2 : n = 0
      case neg =>
        have f1 : (k == 1) = false := beq_eq_false_iff_ne.2 h1
        have f2 : (n != 0) = true := bne_iff_ne.2 h2
        go_wp2_with fail
        go_ret
        refine DONE.out ?_ _ _
        unfold alone
        simp [h1, h2]
      subst h2
      by_cases h2 : k = 2
      case' pos =>
        subst h2
        by_cases h4 : 0 < q
        · have f5 : decide (0 < q) = true := decide_eq_true h4
          go_wp2_with fail
          go_ret
          exact DONE.out (by unfold alone; simp; omega) _ _
        have hal : alone 2 0 q = true := by obtain rfl : q = 0 := by omega
                                            rfl
        have HA := Lib.hid hal
        have f5 : decide (0 < q) = false := decide_eq_false h4
        clear hal h4 h1
        go_wp2_with fail
      case' neg =>
        by_cases h3 : k = 3
        case' pos =>
          subst h3
          by_cases h4 : 0 < q
          · have f5 : decide (0 < q) = true := decide_eq_true h4
            go_wp2_with fail
            go_ret
            exact DONE.out (by unfold alone; simp; omega) _ _
          have hal : alone 3 0 q = true := by obtain rfl : q = 0 := by omega
                                              rfl
          have HA := Lib.hid hal
          have f5 : decide (0 < q) = false := decide_eq_false h4
          clear hal h4 h1 h2
          go_wp2_with fail
        case' neg =>
          by_cases h4 : k = 4
          case' pos =>
            subst h4
            by_cases h5 : q = 2
            case neg =>
              have f5 : ((q : Int) != 2) = true := bne_iff_ne.2 (by omega)
              go_wp2_with fail
              go_ret
              exact DONE.out (by unfold alone; simp; omega) _ _
            have f5 : ((q : Int) != 2) = false := by rw [h5]; rfl
            have hal : alone 4 0 q = true := by rw [h5]; rfl
            have HA := Lib.hid hal
            clear hal h5 h1 h2 h3
            go_wp2_with fail
          case' neg =>
            by_cases h5 : k = 5
            case' pos =>
              subst h5
              by_cases h6 : q < 2
              · have f5 : decide (q < 2) = true := decide_eq_true h6
                go_wp2_with fail
                go_ret
                exact DONE.out (by unfold alone; simp; omega) _ _
              have f5 : decide (q < 2) = false := decide_eq_false h6
              by_cases h7 : 8 < q
              · have f6 : decide (8 < q) = true := decide_eq_true h7
                go_wp2_with fail
                go_ret
                exact DONE.out (by unfold alone; simp; omega) _ _
              have f6 : decide (8 < q) = false := decide_eq_false h7
              have hal : alone 5 0 q = true := by unfold alone; simp; omega
              have HA := Lib.hid hal
              clear hal h1 h2 h3 h4
              go_wp2_with fail
              all_goals try (exfalso; omega)
            case' neg =>
              have f1 : (k == 1) = false := beq_eq_false_iff_ne.2 h1
              have f2 : (k == 2) = false := beq_eq_false_iff_ne.2 h2
              have f3 : (k == 3) = false := beq_eq_false_iff_ne.2 h3
              have f4 : (k == 4) = false := beq_eq_false_iff_ne.2 h4
              have f5 : (k == 5) = false := beq_eq_false_iff_ne.2 h5
              by_cases h6 : k < 1
              · have f6 : decide (k < 1) = true := decide_eq_true h6
                go_wp2_with fail
                go_ret
                exact DONE.out (by unfold alone; simp [h1, h2, h3, h4, h5]) _ _
              · have f6 : decide (k < 1) = false := decide_eq_false h6
                have f7 : decide (5 < k) = true := decide_eq_true (by omega)
                go_wp2_with fail
                go_ret
                exact DONE.out (by unfold alone; simp [h1, h2, h3, h4, h5]) _ _
    all_goals
      go_loopw [4] (fun t4 wr => ∃ j : Nat, j ≤ q ∧ t4 = .int .i64 j ∧ allAlone (f.take j).pre = true ∧ wr.cell? ⟨w.heap.size, 2, none⟩ = some (.slice A q c) ∧ Below w.heap.size w wr ∧ w.heap.size + 1 ≤ wr.heap.size) (fun t _ => q - (intOf t).toNat)
      case atStart => exact ⟨0, Nat.zero_le _, rfl, by simp [Fo.take_zero, Fo.pre, allAlone], by go_simp, HB0.out _ _, by simp⟩
      case round =>
        obtain ⟨j, hj, rfl, hja, e2, hb, hz⟩ := hrel
        have HB := Lib.hid hb
        have HJA := Lib.hid hja
        clear hja hb
        by_cases hjl : j < q
        · have hjf : j < f.len := by rw [HQ.out]; exact hjl
          obtain ⟨b, off, cap, hv, _, _, hlt, hC⟩ := H.out.form (by omega)
          injection hv with hA _ hcc
          subst hA; subst hcc
          obtain ⟨d0, d1, d2, hch⟩ := tyC_at hC j hjf
          have c0 := (HB.out.cell (p := ⟨b, off + j * 3, none⟩) hlt).trans d0
          have c1 := (HB.out.cell (p := ⟨b, off + j * 3 + 1, none⟩) hlt).trans d1
          have c2 := (HB.out.cell (p := ⟨b, off + j * 3 + 2, none⟩) hlt).trans d2
          have hch' : TyV wr.heap.size wr (f.at_ j).2.2.2 (slv (f.at_ j).2.2.1) := (hch.keep HB.out.size fun b off hb' => HB.out.cell (p := ⟨b, off, none⟩) hb')
          have hsz := f.at_size j hjf
          have hsp := f.pre_split j hjf
          have htk := f.pre_take j hjf
          have hpl := hch.len
          have hrec := IH.out (f.at_ j).2.2.2 (f.at_ j).1 (f.at_ j).2.1 (slv (f.at_ j).2.2.1) wr (by omega) (by omega) hch'
          clear d0 d1 d2 hC hch hch' hsz
          unfold tyVal at hrec
          generalize f.at_ j = p at *
          obtain ⟨pk, pn, pv, pf⟩ := p
          dsimp only at hsp htk hpl hrec c0 c1 c2
          obtain ⟨x, hx⟩ : ∃ x, (alone pk pn pf.len && allAlone pf.pre) = x := ⟨_, rfl⟩
          rw [hx] at hrec
          have hxa : allAlone ((pk, pn, pv) :: pf.pre) = x := by rw [allAlone_cons, ← hx, hpl]
          have HREC := Lib.hid hrec
          have HSP := Lib.hid (show allAlone f.pre = (x && allAlone (f.drop (j + 1)).pre) by rw [hsp, allAlone_appJ, allAlone_appJ, HJA.out, hxa]; rfl)
          have HTK := Lib.hid (show allAlone (f.take (j + 1)).pre = x by rw [htk, allAlone_appJ, HJA.out, hxa]; rfl)
          clear hrec hsp htk hpl hx hxa hjf
          go_wp2_with fail
          refine HREC.out.mono ?_
          rintro e w2 ⟨rfl, hb3⟩
          have e2' := (hb3.cell (p := ⟨w.heap.size, 2, none⟩) (by simp only; omega)).trans e2
          have HB3 := Lib.hid hb3
          clear hb3
          cases x
          · go_wp2_with fail
            go_ret
            exact ⟨ret_bool (by rw [HA.out, HSP.out]; rfl), HB.out.trans (HB3.out.mono (by omega))⟩
          · go_wp2_with fail
            go_roundw
            case rel => exact ⟨j + 1, by omega, by go_num, HTK.out, e2', HB.out.trans (HB3.out.mono (by omega)), Nat.le_trans hz HB3.out.size⟩
            case measure => simp [intOf]; omega
        · obtain rfl : j = q := by omega
          have HT : Hid (f.take j = f) := Lib.hid (by rw [← HQ.out]; exact f.take_len)
          go_wp2_with fail
          go_ret
          exact ⟨ret_bool (by rw [HA.out, ← HT.out, HJA.out]; rfl), HB.out⟩
end Go.Proofs.YtjmbkkpglkbppaaDoor
/- Variables: the plain facts; an append of numbers; the answer's Vars. -/
namespace Go.Proofs.YtjmbkkpglkbppaaDoor
open Go.RowKit Go.Shelf
attribute [local go_sem ↓] builtin_app
theorem intInfo : (Tryd.prog.info? 3).map (fun i => (i.zero, i.size, i.bytes)) = some (some (.int .i64 0), 1, 8) := by kernel_rfl
def ints (L : List Int) : List Value := L.map (Value.int .i64)
theorem ints_len (L : List Int) : (ints L).length = L.length := by simp [ints]
theorem ints_app (a b : List Int) : ints (a ++ b) = ints a ++ ints b := by simp [ints]
theorem ints_one (L : List Int) : ∀ u ∈ ints L, u.oneCell' = true := by
  intro u hu
  obtain ⟨x, _, rfl⟩ := List.mem_map.1 hu
  rfl
/-- An append of numbers. -/
theorem app_int (W : World) (base : Nat) (v : Value) (L : List Int) (own : W.ownsRow base 3 1 v L.length (ints L)) (vx : Value) (L2 : List Int) (rd : Rd W 1 vx L2.length (ints L2)) (hl : L.length + L2.length ≤ 100000000) (hbase : base ≤ W.heap.size) :
    ∃ v' W', (app_ #[37, 37] 37 #[v, vx]).run Tryd.prog W = .ok v' W' ∧ W'.ownsRow base 3 1 v' (L ++ L2).length (ints (L ++ L2)) ∧ Below base W W' ∧ KeepT 28 W W' ∧ W.grownBy W' v.ownBlock ∧ (v'.ownBlock = v.ownBlock ∨ v'.ownBlock = some W.heap.size) := by
  obtain ⟨i0, hi0, hz0, hz1, hz2⟩ := info_parts intInfo
  obtain ⟨v1, w1, hrun, hown, hg, hat⟩ := run_append_rd (P := Tryd.prog) W base 37 37 3 i0 _ 1 8 Tryd.underlying37 hi0 hz0 hz1 hz2 rfl (by omega) v _ _ own vx _ _ rd (ints_one _) (by unfold maxLen; omega) (by omega) hbase
  refine ⟨v1, w1, hrun, ?_, (Below.refl _ _).grown hg hbase (fun k e => (own.lt k e).1), KeepT.grown hg (row_not own (by decide)), hg, hat⟩
  rw [List.length_append, ints_app]
  exact hown
/-- One type's variable, behind others. -/
def addV (l : List Int) (x : Tr) : List Int := if x.1 = 1 ∧ ¬ x.2.1 ∈ l then l ++ [x.2.1] else l
def varsL (l : List Int) (L : List Tr) : List Int := L.foldl addV l
theorem varsL_len (L : List Tr) (l : List Int) : (varsL l L).length ≤ l.length + L.length := by
  induction L generalizing l with
  | nil => simp [varsL]
  | cons x r ih =>
    have h := ih (addV l x)
    have h2 : (addV l x).length ≤ l.length + 1 := by unfold addV; split <;> simp
    simp only [varsL, List.foldl_cons, List.length_cons] at h ⊢
    omega
theorem varsL_app (l : List Int) (a b : List Tr) : varsL l (a ++ b) = varsL (varsL l a) b := by simp [varsL]
/-- A list of numbers, at a value. -/
def IsInts (L : List Int) (w : World) (e : Ending) (w' : World) : Prop := ∃ v, e = .returned v ∧ Rd w' 1 v L.length (ints L) ∧ Below w.heap.size w w'
theorem Rd.form {w : World} {size : Nat} {v : Value} {n : Nat} {xs : List Value} (h : Rd w size v n xs) : ∃ A c, v = .slice A n c := by
  rcases h.2 with ⟨h0, A, c, h⟩ | ⟨b, off, cap, h, _⟩
  · exact ⟨A, c, by rw [h, h0]⟩
  · exact ⟨_, cap, h⟩
set_option maxHeartbeats 2000000 in
set_option maxRecDepth 100000 in
theorem rvars_any (m : Nat) : ∀ (f : Fo) (k n : Int) (v : Value) (w : World) (L : List Int) (vl : Value), f.size < m → L.length + f.size ≤ 100000 → TyV w.heap.size w f v → Rd w 1 vl L.length (ints L) →
    Calls Tryd.prog 12 #[tyVal k n v, vl] w (IsInts (varsL L ((k, n, (none, 0, 0)) :: f.pre)) w) := by
  induction m with
  | zero => intro f k n v w L vl h; omega
  | succ m ih =>
    intro f k n v w L vl hm hs h hR
    obtain ⟨A, c, rfl⟩ := h.slice
    obtain ⟨A2, c2, rfl⟩ := hR.form
    have H := Lib.hid h
    have IH := Lib.hid ih
    have hll := f.len_le_size
    have HR := Lib.hid hR
    obtain ⟨W0, hW0⟩ : ∃ W0, w.alloc (.cells #[.int .i64 k, .int .i64 n, .slice A f.len c] 28) = W0 := ⟨_, rfl⟩
    have hb0 : Below w.heap.size w W0 := by rw [← hW0]; exact (Below.refl _ _).alloc (Nat.le_refl _) _
    have hx0 : W0.heap[w.heap.size]? = some (Obj.cells #[.int .i64 k, .int .i64 n, .slice A f.len c] 28) := by rw [← hW0]; exact heap_alloc_new w _
    have hl0 : w.heap.size < W0.heap.size := (Array.getElem?_eq_some_iff.1 hx0).1
    have x0 : W0.cell? ⟨w.heap.size, 0, none⟩ = some (.int .i64 k) := cell_of_row W0 _ 0 _ _ (0, 0) hx0
    have x1 : W0.cell? ⟨w.heap.size, 1, none⟩ = some (.int .i64 n) := cell_of_row W0 _ 1 _ _ (0, 0) hx0
    have x2 : W0.cell? ⟨w.heap.size, 2, none⟩ = some (.slice A f.len c) := cell_of_row W0 _ 2 _ _ (0, 0) hx0
    have HB0 := Lib.hid hb0
    clear h ih hR hx0 hb0
    unfold tyVal
    go_enter Tryd.func12, Tryd.ntmps12
    by_cases h1 : k = 1
    · subst h1
      have hin := rin_any L (.slice A2 L.length c2) n W0 (HR.out.below HB0.out) (by omega)
      by_cases hmem : n ∈ L
      · rw [show decide (n ∈ L) = true from decide_eq_true hmem] at hin
        have HIN := Lib.hid hin
        clear hin
        go_upto_if 15 with (go_at_call 20; refine HIN.out.mono ?_; rintro e w2 ⟨rfl, hb2⟩)
        have haddk : addV L (1, n, (none, 0, 0)) = L := by unfold addV; rw [if_neg (by simp [hmem])]
        have hRw : Rd w2 1 (.slice A2 L.length c2) L.length (ints L) := (HR.out.below HB0.out).below hb2
        have HB2 := Lib.hid hb2
        have hSS : Rd w2 1 (.slice A2 L.length c2) (addV L (1, n, (none, 0, 0))).length (ints (addV L (1, n, (none, 0, 0)))) := by rw [haddk]; exact hRw
        clear hb2 haddk hRw
        obtain ⟨L1, hL1⟩ : ∃ L1, addV L (1, n, (none, 0, 0)) = L1 := ⟨_, rfl⟩
        have hL1l : L1.length ≤ L.length + 1 := by rw [← hL1]; unfold addV; split <;> simp
        rw [hL1] at hSS
        have HST := Lib.hid (And.intro hSS (HB2.out))
        have HV := Lib.hid (show varsL L ((1, n, (none, 0, 0)) :: f.pre) = varsL L1 f.pre by rw [← hL1]; rfl)
        clear hL1
        go_wp2_with fail
        go_loopw [1, 5] (fun t1 t5 wr => ∃ j : Nat, j ≤ f.len ∧ t5 = .int .i64 j ∧ Rd wr 1 t1 (varsL L1 (f.take j).pre).length (ints (varsL L1 (f.take j).pre)) ∧ Below W0.heap.size W0 wr) (fun _ t _ => f.len - (intOf t).toNat)
        case atStart => exact ⟨0, Nat.zero_le _, rfl, by rw [Fo.take_zero]; exact HST.out.1, HST.out.2⟩
        case round =>
          obtain ⟨j, hj, rfl, hRj, hb⟩ := hrel
          have e2 : wr.cell? ⟨w.heap.size, 2, none⟩ = some (.slice A f.len c) := (hb.cell (p := ⟨w.heap.size, 2, none⟩) hl0).trans x2
          have HB := Lib.hid hb
          have HRJ := Lib.hid hRj
          have hz := hb.size
          clear hb hRj
          by_cases hjl : j < f.len
          · obtain ⟨b, off, cap, hv, _, _, hlt, hC⟩ := H.out.form (by omega)
            injection hv with hA _ hcc
            subst hA; subst hcc
            obtain ⟨d0, d1, d2, hch⟩ := tyC_at hC j hjl
            have hbb := HB0.out.trans (HB.out.mono HB0.out.size)
            have c0 := (hbb.cell (p := ⟨b, off + j * 3, none⟩) hlt).trans d0
            have c1 := (hbb.cell (p := ⟨b, off + j * 3 + 1, none⟩) hlt).trans d1
            have c2 := (hbb.cell (p := ⟨b, off + j * 3 + 2, none⟩) hlt).trans d2
            have hch' : TyV wr.heap.size wr (f.at_ j).2.2.2 (slv (f.at_ j).2.2.1) := (hch.keep hbb.size fun b off hb' => hbb.cell (p := ⟨b, off, none⟩) hb')
            have hsz := f.at_size j hjl
            have hpt := Fo.pre_take f j hjl
            have hle := f.size_take_le (j + 1)
            have hst := f.size_take_step j hjl
            have hvl := varsL_len (f.take j).pre L1
            rw [Fo.pre_len] at hvl
            have hva : varsL L1 (f.take (j + 1)).pre = varsL (varsL L1 (f.take j).pre) (((f.at_ j).1, (f.at_ j).2.1, (none, 0, 0)) :: (f.at_ j).2.2.2.pre) := by
              rw [hpt, varsL_app]
              rfl
            clear d0 d1 d2 hC hch hpt hbb
            have hrec := IH.out (f.at_ j).2.2.2 (f.at_ j).1 (f.at_ j).2.1 (slv (f.at_ j).2.2.1) wr (varsL L1 (f.take j).pre) u1 (by omega) (by omega) hch' HRJ.out
            unfold tyVal at hrec
            generalize f.at_ j = p at *
            obtain ⟨pk, pn, ⟨p1, p2, p3⟩, pf⟩ := p
            dsimp only [slv] at c0 c1 c2 hrec hva
            have HREC := Lib.hid hrec
            have HVA := Lib.hid hva
            clear hrec hva hch' hst hvl
            go_wp2_with fail
            refine HREC.out.mono ?_
            rintro e w5 ⟨v5, rfl, hR5, hb5⟩
            have HR5 := Lib.hid hR5
            have HB5 := Lib.hid hb5
            clear hR5 hb5
            go_wp2_with fail
            go_roundw
            case rel => exact ⟨j + 1, by omega, by go_num, by rw [HVA.out]; exact HR5.out, HB.out.trans (HB5.out.mono hz)⟩
            case measure => simp [intOf]; omega
          · obtain rfl : j = f.len := by omega
            have HT : Hid (f.take f.len = f) := Lib.hid f.take_len
            go_wp2_with fail
            go_ret
            refine ⟨_, rfl, ?_, HB0.out.trans (HB.out.mono HB0.out.size)⟩
            have h := HRJ.out
            rw [HT.out] at h
            rw [HV.out]
            exact h
      · rw [show decide (n ∈ L) = false from decide_eq_false hmem] at hin
        have HIN := Lib.hid hin
        clear hin
        go_upto_region 2 with (go_at_call 20; refine HIN.out.mono ?_; rintro e w2 ⟨rfl, hb2⟩)
        have hRw : Rd w2 1 (.slice A2 L.length c2) L.length (ints L) := (HR.out.below HB0.out).below hb2
        have y1 : w2.cell? ⟨w.heap.size, 1, none⟩ = some (.int .i64 n) := (hb2.cell (p := ⟨w.heap.size, 1, none⟩) hl0).trans x1
        have hlw : w.heap.size < w2.heap.size := Nat.lt_of_lt_of_le hl0 hb2.size
        have hBa : Below w2.heap.size w2 (w2.alloc (.cells #[] 3)).drew := ((Below.refl _ _).alloc (Nat.le_refl _) _).drew
        have hBb : Below w2.heap.size w2 ((w2.alloc (.cells #[] 3)).alloc (.cells #[.int .i64 n] 3)).drew := (((Below.refl _ _).alloc (Nat.le_refl _) _).alloc (by simp) _).drew
        have hBc : Below w2.heap.size w2 ((w2.alloc (.cells #[.int .i64 n] 3)).alloc (.cells #[] 3)).drew := (((Below.refl _ _).alloc (Nat.le_refl _) _).alloc (by simp) _).drew
        obtain ⟨va, wa, run1a, own1a, ba, _, ga, _⟩ := app_int (w2.alloc (.cells #[] 3)).drew w2.heap.size (.slice (some ⟨w2.heap.size, 0, none⟩) 0 0) [] ((own_none_yet w2 _ (Nat.le_refl _) _ _).drew) (.slice A2 L.length c2) L (hRw.below hBa) (by simp; omega) (by simp)
        obtain ⟨va2, wa2, run2a, own2a, ba2, _⟩ := app_int (wa.alloc (.cells #[.int .i64 n] 3)) w2.heap.size va _ (own1a.alloc _) (.slice (some ⟨wa.heap.size, 0, none⟩) 1 1) [n] (rd_new wa [.int .i64 n] _ 1 1 rfl (by unfold maxLen; omega)) (by simp; omega) (by have := hBa.size; have := ba.size; simp at *; omega)
        have rb : Rd ((w2.alloc (.cells #[] 3)).alloc (.cells #[.int .i64 n] 3)).drew 1 (.slice (some ⟨w2.heap.size + 1, 0, none⟩) 1 1) 1 (ints [n]) := by
          have h := rd_new (w2.alloc (.cells #[] 3)) [.int .i64 n] 3 1 1 rfl (by unfold maxLen; omega)
          simp only [World.size_alloc] at h
          exact h.drew
        have rc : Rd ((w2.alloc (.cells #[.int .i64 n] 3)).alloc (.cells #[] 3)).drew 1 (.slice (some ⟨w2.heap.size, 0, none⟩) 1 1) 1 (ints [n]) :=
          ((rd_new w2 [.int .i64 n] 3 1 1 rfl (by unfold maxLen; omega)).alloc _).drew
        have oc : ((w2.alloc (.cells #[.int .i64 n] 3)).alloc (.cells #[] 3)).drew.ownsRow w2.heap.size 3 1 (.slice (some ⟨w2.heap.size + 1, 0, none⟩) 0 0) 0 [] := by
          have h := own_none_yet (w2.alloc (.cells #[.int .i64 n] 3)) w2.heap.size (by simp) 3 1
          simp only [World.size_alloc] at h
          exact h.drew
        obtain ⟨vb, wb, run1b, own1b, bb, _, gb, _⟩ := app_int ((w2.alloc (.cells #[] 3)).alloc (.cells #[.int .i64 n] 3)).drew w2.heap.size (.slice (some ⟨w2.heap.size, 0, none⟩) 0 0) [] (((own_none_yet w2 _ (Nat.le_refl _) _ _).alloc _).drew) (.slice A2 L.length c2) L (hRw.below hBb) (by simp; omega) (by simp <;> omega)
        obtain ⟨vb2, wb2, run2b, own2b, bb2, _⟩ := app_int wb w2.heap.size vb _ own1b (.slice (some ⟨w2.heap.size + 1, 0, none⟩) 1 1) [n] (rb.far (by simp) gb (by simp [Value.ownBlock])) (by simp; omega) (by have := hBb.size; have := bb.size; simp at *; omega)
        obtain ⟨vc, w3c, run1c, own1c, bc, _, gc, _⟩ := app_int ((w2.alloc (.cells #[.int .i64 n] 3)).alloc (.cells #[] 3)).drew w2.heap.size (.slice (some ⟨w2.heap.size + 1, 0, none⟩) 0 0) [] oc (.slice A2 L.length c2) L (hRw.below hBc) (by simp; omega) (by simp <;> omega)
        obtain ⟨vc2, wc2, run2c, own2c, bc2, _⟩ := app_int w3c w2.heap.size vc _ own1c (.slice (some ⟨w2.heap.size, 0, none⟩) 1 1) [n] (rc.far (by simp <;> omega) gc (by simp [Value.ownBlock])) (by simp; omega) (by have := hBc.size; have := bc.size; simp at *; omega)
        have y1a : wa.cell? ⟨w.heap.size, 1, none⟩ = some (.int .i64 n) := (ba.cell (p := ⟨w.heap.size, 1, none⟩) hlw).trans ((hBa.cell (p := ⟨w.heap.size, 1, none⟩) hlw).trans y1)
        have y1b : wb.cell? ⟨w.heap.size, 1, none⟩ = some (.int .i64 n) := (bb.cell (p := ⟨w.heap.size, 1, none⟩) hlw).trans ((hBb.cell (p := ⟨w.heap.size, 1, none⟩) hlw).trans y1)
        have FA := Lib.hid (And.intro (Rd.of_own own2a) (hBa.trans (ba.trans ((Below.refl w2.heap.size wa).alloc (by have := hBa.size; have := ba.size; simp at *; omega) _ |>.trans ba2))))
        have FB := Lib.hid (And.intro (Rd.of_own own2b) (hBb.trans (bb.trans bb2)))
        have FC := Lib.hid (And.intro (Rd.of_own own2c) (hBc.trans (bc.trans bc2)))
        have hadd : addV L (1, n, (none, 0, 0)) = L ++ [n] := by unfold addV; rw [if_pos ⟨rfl, hmem⟩]
        have HADD := Lib.hid hadd
        have HB2 := Lib.hid hb2
        clear hadd rb rc oc own1a own2a own1b own2b own1c own2c ga gb gc hRw hBa hBb hBc ba ba2 bb bb2 bc bc2 hb2
        go_cut [1] (fun s1 wx => Rd wx 1 s1 (addV L (1, n, (none, 0, 0))).length (ints (addV L (1, n, (none, 0, 0)))) ∧ Below w2.heap.size w2 wx)
        case first =>
          go_region
          all_goals go_wp2_with fail
          all_goals go_meet
          all_goals rw [HADD.out]
          all_goals first | exact FA.out | exact FB.out | exact FC.out
        case rest =>
          obtain ⟨hSS, hBc⟩ := hcut
          obtain ⟨L1, hL1⟩ : ∃ L1, addV L (1, n, (none, 0, 0)) = L1 := ⟨_, rfl⟩
          have hL1l : L1.length ≤ L.length + 1 := by rw [← hL1]; unfold addV; split <;> simp
          rw [hL1] at hSS
          have HST := Lib.hid (And.intro hSS (HB2.out.trans (hBc.mono HB2.out.size)))
          have HV := Lib.hid (show varsL L ((1, n, (none, 0, 0)) :: f.pre) = varsL L1 f.pre by rw [← hL1]; rfl)
          clear hL1
          go_wp2_with fail
          go_loopw [1, 5] (fun t1 t5 wr => ∃ j : Nat, j ≤ f.len ∧ t5 = .int .i64 j ∧ Rd wr 1 t1 (varsL L1 (f.take j).pre).length (ints (varsL L1 (f.take j).pre)) ∧ Below W0.heap.size W0 wr) (fun _ t _ => f.len - (intOf t).toNat)
          case atStart => exact ⟨0, Nat.zero_le _, rfl, by rw [Fo.take_zero]; exact HST.out.1, HST.out.2⟩
          case round =>
            obtain ⟨j, hj, rfl, hRj, hb⟩ := hrel
            have e2 : wr.cell? ⟨w.heap.size, 2, none⟩ = some (.slice A f.len c) := (hb.cell (p := ⟨w.heap.size, 2, none⟩) hl0).trans x2
            have HB := Lib.hid hb
            have HRJ := Lib.hid hRj
            have hz := hb.size
            clear hb hRj
            by_cases hjl : j < f.len
            · obtain ⟨b, off, cap, hv, _, _, hlt, hC⟩ := H.out.form (by omega)
              injection hv with hA _ hcc
              subst hA; subst hcc
              obtain ⟨d0, d1, d2, hch⟩ := tyC_at hC j hjl
              have hbb := HB0.out.trans (HB.out.mono HB0.out.size)
              have c0 := (hbb.cell (p := ⟨b, off + j * 3, none⟩) hlt).trans d0
              have c1 := (hbb.cell (p := ⟨b, off + j * 3 + 1, none⟩) hlt).trans d1
              have c2 := (hbb.cell (p := ⟨b, off + j * 3 + 2, none⟩) hlt).trans d2
              have hch' : TyV wr.heap.size wr (f.at_ j).2.2.2 (slv (f.at_ j).2.2.1) := (hch.keep hbb.size fun b off hb' => hbb.cell (p := ⟨b, off, none⟩) hb')
              have hsz := f.at_size j hjl
              have hpt := Fo.pre_take f j hjl
              have hle := f.size_take_le (j + 1)
              have hst := f.size_take_step j hjl
              have hvl := varsL_len (f.take j).pre L1
              rw [Fo.pre_len] at hvl
              have hva : varsL L1 (f.take (j + 1)).pre = varsL (varsL L1 (f.take j).pre) (((f.at_ j).1, (f.at_ j).2.1, (none, 0, 0)) :: (f.at_ j).2.2.2.pre) := by
                rw [hpt, varsL_app]
                rfl
              clear d0 d1 d2 hC hch hpt hbb
              have hrec := IH.out (f.at_ j).2.2.2 (f.at_ j).1 (f.at_ j).2.1 (slv (f.at_ j).2.2.1) wr (varsL L1 (f.take j).pre) u1 (by omega) (by omega) hch' HRJ.out
              unfold tyVal at hrec
              generalize f.at_ j = p at *
              obtain ⟨pk, pn, ⟨p1, p2, p3⟩, pf⟩ := p
              dsimp only [slv] at c0 c1 c2 hrec hva
              have HREC := Lib.hid hrec
              have HVA := Lib.hid hva
              clear hrec hva hch' hst hvl
              go_wp2_with fail
              refine HREC.out.mono ?_
              rintro e w5 ⟨v5, rfl, hR5, hb5⟩
              have HR5 := Lib.hid hR5
              have HB5 := Lib.hid hb5
              clear hR5 hb5
              go_wp2_with fail
              go_roundw
              case rel => exact ⟨j + 1, by omega, by go_num, by rw [HVA.out]; exact HR5.out, HB.out.trans (HB5.out.mono hz)⟩
              case measure => simp [intOf]; omega
            · obtain rfl : j = f.len := by omega
              have HT : Hid (f.take f.len = f) := Lib.hid f.take_len
              go_wp2_with fail
              go_ret
              refine ⟨_, rfl, ?_, HB0.out.trans (HB.out.mono HB0.out.size)⟩
              have h := HRJ.out
              rw [HT.out] at h
              rw [HV.out]
              exact h
    · have f1 : (k == 1) = false := beq_eq_false_iff_ne.2 h1
      have haddk : addV L (k, n, (none, 0, 0)) = L := by unfold addV; rw [if_neg (by simp [h1])]
      have hSS : Rd W0 1 (.slice A2 L.length c2) (addV L (k, n, (none, 0, 0))).length (ints (addV L (k, n, (none, 0, 0)))) := by rw [haddk]; exact HR.out.below HB0.out
      clear haddk
      obtain ⟨L1, hL1⟩ : ∃ L1, addV L (k, n, (none, 0, 0)) = L1 := ⟨_, rfl⟩
      have hL1l : L1.length ≤ L.length + 1 := by rw [← hL1]; unfold addV; split <;> simp
      rw [hL1] at hSS
      have HST := Lib.hid (And.intro hSS (Below.refl W0.heap.size W0))
      have HV := Lib.hid (show varsL L ((k, n, (none, 0, 0)) :: f.pre) = varsL L1 f.pre by rw [← hL1]; rfl)
      clear hL1
      go_wp2_with fail
      go_loopw [1, 5] (fun t1 t5 wr => ∃ j : Nat, j ≤ f.len ∧ t5 = .int .i64 j ∧ Rd wr 1 t1 (varsL L1 (f.take j).pre).length (ints (varsL L1 (f.take j).pre)) ∧ Below W0.heap.size W0 wr) (fun _ t _ => f.len - (intOf t).toNat)
      case atStart => exact ⟨0, Nat.zero_le _, rfl, by rw [Fo.take_zero]; exact HST.out.1, HST.out.2⟩
      case round =>
        obtain ⟨j, hj, rfl, hRj, hb⟩ := hrel
        have e2 : wr.cell? ⟨w.heap.size, 2, none⟩ = some (.slice A f.len c) := (hb.cell (p := ⟨w.heap.size, 2, none⟩) hl0).trans x2
        have HB := Lib.hid hb
        have HRJ := Lib.hid hRj
        have hz := hb.size
        clear hb hRj
        by_cases hjl : j < f.len
        · obtain ⟨b, off, cap, hv, _, _, hlt, hC⟩ := H.out.form (by omega)
          injection hv with hA _ hcc
          subst hA; subst hcc
          obtain ⟨d0, d1, d2, hch⟩ := tyC_at hC j hjl
          have hbb := HB0.out.trans (HB.out.mono HB0.out.size)
          have c0 := (hbb.cell (p := ⟨b, off + j * 3, none⟩) hlt).trans d0
          have c1 := (hbb.cell (p := ⟨b, off + j * 3 + 1, none⟩) hlt).trans d1
          have c2 := (hbb.cell (p := ⟨b, off + j * 3 + 2, none⟩) hlt).trans d2
          have hch' : TyV wr.heap.size wr (f.at_ j).2.2.2 (slv (f.at_ j).2.2.1) := (hch.keep hbb.size fun b off hb' => hbb.cell (p := ⟨b, off, none⟩) hb')
          have hsz := f.at_size j hjl
          have hpt := Fo.pre_take f j hjl
          have hle := f.size_take_le (j + 1)
          have hst := f.size_take_step j hjl
          have hvl := varsL_len (f.take j).pre L1
          rw [Fo.pre_len] at hvl
          have hva : varsL L1 (f.take (j + 1)).pre = varsL (varsL L1 (f.take j).pre) (((f.at_ j).1, (f.at_ j).2.1, (none, 0, 0)) :: (f.at_ j).2.2.2.pre) := by
            rw [hpt, varsL_app]
            rfl
          clear d0 d1 d2 hC hch hpt hbb
          have hrec := IH.out (f.at_ j).2.2.2 (f.at_ j).1 (f.at_ j).2.1 (slv (f.at_ j).2.2.1) wr (varsL L1 (f.take j).pre) u1 (by omega) (by omega) hch' HRJ.out
          unfold tyVal at hrec
          generalize f.at_ j = p at *
          obtain ⟨pk, pn, ⟨p1, p2, p3⟩, pf⟩ := p
          dsimp only [slv] at c0 c1 c2 hrec hva
          have HREC := Lib.hid hrec
          have HVA := Lib.hid hva
          clear hrec hva hch' hst hvl
          go_wp2_with fail
          refine HREC.out.mono ?_
          rintro e w5 ⟨v5, rfl, hR5, hb5⟩
          have HR5 := Lib.hid hR5
          have HB5 := Lib.hid hb5
          clear hR5 hb5
          go_wp2_with fail
          go_roundw
          case rel => exact ⟨j + 1, by omega, by go_num, by rw [HVA.out]; exact HR5.out, HB.out.trans (HB5.out.mono hz)⟩
          case measure => simp [intOf]; omega
        · obtain rfl : j = f.len := by omega
          have HT : Hid (f.take f.len = f) := Lib.hid f.take_len
          go_wp2_with fail
          go_ret
          refine ⟨_, rfl, ?_, HB0.out.trans (HB.out.mono HB0.out.size)⟩
          have h := HRJ.out
          rw [HT.out] at h
          rw [HV.out]
          exact h
end Go.Proofs.YtjmbkkpglkbppaaDoor
/- A right type without variables: its tokens, and what they are read as, is the type. The plain facts. -/
namespace Go.Proofs.YtjmbkkpglkbppaaDoor

theorem varsL_none (L : List Tr) : ∀ l, varsL l L = [] → l = [] ∧ ∀ x ∈ L, x.1 ≠ 1 := by
  induction L with
  | nil => intro l h; exact ⟨h, fun x hx => by cases hx⟩
  | cons y r ih =>
    intro l h
    have h' : varsL (addV l y) r = [] := h
    obtain ⟨h1, h2⟩ := ih _ h'
    unfold addV at h1
    split at h1
    · simp at h1
    · rename_i hn
      subst h1
      refine ⟨rfl, fun x hx => ?_⟩
      rcases List.mem_cons.1 hx with rfl | hx
      · intro e; exact hn ⟨e, by simp⟩
      · exact h2 x hx
theorem len_nil0 {f : Fo} (h : f.len = 0) : f = .nil := by
  cases f with
  | nil => rfl
  | cons => simp [Fo.len] at h
theorem okR_of (f : Fo) (hok : f.ok = true) (hv : ∀ x ∈ f.pre, x.1 ≠ 1) : f.okR ∧ f.same (tyL (f.tt.map Tt.ty)) = true := by
  induction f with
  | nil => exact ⟨trivial, rfl⟩
  | cons k n u ps r ihp ihr =>
    simp only [Fo.ok, Bool.and_eq_true] at hok
    have hk1 : k ≠ 1 := hv (k, n, u) (by simp [Fo.pre])
    obtain ⟨p1, p2⟩ := ihp (by simp_all) (fun x hx => hv x (by simp [Fo.pre, hx]))
    obtain ⟨r1, r2⟩ := ihr (by simp_all) (fun x hx => hv x (by simp [Fo.pre, hx]))
    have ha : alone k n ps.len = true := by simp_all
    have hlen := ps.tt_len
    unfold alone at ha
    rw [if_neg hk1] at ha
    simp only [Fo.okR, Fo.tt, List.map_cons, tyL, Fo.same, Bool.and_eq_true, beq_iff_eq]
    split at ha
    · rename_i h23
      simp only [Bool.and_eq_true, beq_iff_eq] at ha
      obtain rfl := len_nil0 (f := ps) (by omega)
      rcases h23 with rfl | rfl
      · exact ⟨⟨.inl rfl, p1, r1⟩, ⟨⟨rfl, ha.1⟩, rfl⟩, r2⟩
      · exact ⟨⟨.inr (.inl rfl), p1, r1⟩, ⟨⟨rfl, ha.1⟩, rfl⟩, r2⟩
    · split at ha
      · rename_i h4
        subst h4
        simp only [Bool.and_eq_true, beq_iff_eq] at ha
        have h2 : ps.len = 2 := by omega
        refine ⟨⟨.inr (.inr (.inl ⟨rfl, h2⟩)), p1, r1⟩, ?_⟩
        match hl : ps.tt, hlen with
        | [x, y], _ =>
          rw [hl] at p2
          have hm : mkTt 4 [x, y] = ⟨4, brkT x ++ 4 :: y.tk, arrT x.ty y.ty, 2 + max x.nd y.nd⟩ := rfl
          rw [hm]
          exact ⟨⟨⟨rfl, ha.1⟩, p2⟩, r2⟩
        | [], h => rw [h2] at h; simp at h
        | [_], h => rw [h2] at h; simp at h
        | _ :: _ :: _ :: _, h => rw [h2] at h; simp at h
      · split at ha
        · rename_i h5
          subst h5
          simp only [Bool.and_eq_true, beq_iff_eq, decide_eq_true_eq] at ha
          have hm : mkTt 5 ps.tt = ⟨5, 1 :: (sepK ps.tt ++ [2]), (5, 0, tyL (ps.tt.map Tt.ty)), 2 + maxN ps.tt⟩ := rfl
          rw [hm]
          exact ⟨⟨.inr (.inr (.inr ⟨rfl, by omega, by omega⟩)), p1, r1⟩, ⟨⟨rfl, ha.1.1⟩, p2⟩, r2⟩
        · simp at ha
theorem nd_le (f : Fo) : maxN f.tt ≤ 2 * f.depth := by
  induction f with
  | nil => simp [Fo.tt, maxN]
  | cons k n u ps r ihp ihr =>
    have h1 : (mkTt k ps.tt).nd ≤ 2 + maxN ps.tt := by
      unfold mkTt
      split
      · simp
      · split
        · simp
        · split
          · split
            · rename_i x y e
              rw [e]; simp [maxN] <;> omega
            · simp
          · simp
    simp only [Fo.tt, maxN, Fo.depth]
    omega
end Go.Proofs.YtjmbkkpglkbppaaDoor
/- A type's tokens, as the reader sees them in memory's list of tokens. -/
namespace Go.Proofs.YtjmbkkpglkbppaaDoor

def tvOf (s : ByteArray) (t : Int × Nat × Nat) : TV := (t.1, s.extract t.2.1 t.2.2, t.2.1, t.2.2)
theorem cells_tv (s : ByteArray) (ts : List (Int × Nat × Nat)) : toksCells s ts = tvsCells (ts.map (tvOf s)) := by
  unfold toksCells tvsCells
  rw [List.flatMap_map]
  rfl
theorem tokAt_mid (p q : List TV) (a : TV) : tokAt (p ++ a :: q) (p.length : Nat) = a := by
  rw [tokAt_in _ _ (by simp)]
  simp
theorem sub_at {l ws r : List Int} {k : Nat} (h : l.drop k = ws ++ r) : sub l k (k + ws.length) = ws := by
  unfold sub
  rw [h]; simp
theorem ext_list {s : ByteArray} {a b : Nat} {L : List UInt8} (h : sub (bs s) a b = L.map fun c => (c.toNat : Int)) : (s.extract a b).toList = L := by
  have := bs_beq (s.extract a b) L
  rw [bs_extract, h] at this
  simpa using this
theorem sees_mid {p q : List TV} {a : TV} {L : List UInt8} (x : List UInt8) (h4 : a.1 = 4) (hL : a.2.1.toList = L) : seesB (p ++ a :: q) (p.length : Nat) x = (L == x) := by
  unfold seesB
  rw [tokAt_mid, h4, hL]
  rfl
theorem sees_not {p q : List TV} {a : TV} (x : List UInt8) (h3 : a.1 = 3) : seesB (p ++ a :: q) (p.length : Nat) x = false := by
  unfold seesB
  rw [tokAt_mid, h3]
  rfl
theorem tk_sign {p q : List TV} {a : TV} (m : Nat) (h4 : a.1 = 4) (hm : m = 1 ∧ a.2.1.toList = [40] ∨ m = 2 ∧ a.2.1.toList = [41] ∨ m = 3 ∧ a.2.1.toList = [42] ∨ m = 4 ∧ a.2.1.toList = [45, 62]) : TkAt (tkOf namedB (p ++ a :: q)) (p.length : Nat) m := by
  unfold TkAt
  rcases hm with ⟨rfl, hL⟩ | ⟨rfl, hL⟩ | ⟨rfl, hL⟩ | ⟨rfl, hL⟩ <;>
    simp [tkOf, sgOf, sees_mid (p := p) (q := q) _ h4 hL]
theorem tk_word {p q : List TV} {a : TV} (m : Nat) (h3 : a.1 = 3) (hm : m = 5 ∧ a.2.1.toList = [105, 110, 116] ∨ m = 6 ∧ a.2.1.toList = [98, 111, 111, 108]) : TkAt (tkOf namedB (p ++ a :: q)) (p.length : Nat) m := by
  unfold TkAt
  have hs : sgOf (p ++ a :: q) (p.length : Nat) = 0 := by
    unfold sgOf
    simp [sees_not (p := p) (q := q) _ h3]
  rcases hm with ⟨rfl, hL⟩ | ⟨rfl, hL⟩
  · rw [if_pos rfl]
    refine ⟨hs, ?_⟩
    show namedB (tokAt _ _) = _
    rw [tokAt_mid]
    unfold namedB
    rw [if_pos ⟨h3, hL⟩]
  · rw [if_neg (by omega), if_pos rfl]
    refine ⟨hs, ?_⟩
    show namedB (tokAt _ _) = _
    rw [tokAt_mid]
    unfold namedB
    rw [if_neg (by rw [hL]; simp), if_pos ⟨h3, hL⟩]
theorem at_toks (s : ByteArray) : ∀ (tk : List Nat) (k : Nat) (p z : List TV), (bs s).drop k = rendI tk → (∀ m ∈ tk, 1 ≤ m ∧ m ≤ 6) → AtK (tkOf namedB (p ++ ((toksAt k tk).map (tvOf s) ++ z))) (p.length : Nat) tk := by
  intro tk
  induction tk with
  | nil => intro k p z _ _; trivial
  | cons m r ih =>
    intro k p z hd hall
    have hm := hall m List.mem_cons_self
    have hr : ∀ m ∈ r, 1 ≤ m ∧ m ≤ 6 := fun x hx => hall x (List.mem_cons_of_mem _ hx)
    rw [rendI_cons] at hd
    have go : ∀ (k' : Nat) (a : TV), (bs s).drop k' = rendI r → TkAt (tkOf namedB (p ++ (a :: ((toksAt k' r).map (tvOf s) ++ z)))) (p.length : Nat) m → AtK (tkOf namedB (p ++ (a :: ((toksAt k' r).map (tvOf s) ++ z)))) (p.length : Nat) (m :: r) := by
      intro k' a hd' ht
      refine ⟨ht, ?_⟩
      have := ih k' (p ++ [a]) z hd' hr
      rw [List.append_assoc, List.length_append] at this
      exact this
    have hm' : m = 1 ∨ m = 2 ∨ m = 3 ∨ m = 4 ∨ m = 5 ∨ m = 6 := by omega
    rcases hm' with rfl | rfl | rfl | rfl | rfl | rfl
    · have hd : (bs s).drop k = [40] ++ rendI r := hd
      obtain ⟨_, _, _, h2⟩ := drop_at (r := rendI r) hd
      exact go (k + 1) _ h2 (tk_sign 1 rfl (.inl ⟨rfl, ext_list (L := [40]) (sub_at hd)⟩))
    · have hd : (bs s).drop k = [41] ++ rendI r := hd
      obtain ⟨_, _, _, h2⟩ := drop_at (r := rendI r) hd
      exact go (k + 1) _ h2 (tk_sign 2 rfl (.inr (.inl ⟨rfl, ext_list (L := [41]) (sub_at hd)⟩)))
    · have hd : (bs s).drop k = 32 :: 42 :: 32 :: rendI r := hd
      obtain ⟨_, _, _, h2⟩ := drop_at hd
      obtain ⟨_, _, _, h3⟩ := drop_at h2
      obtain ⟨_, _, _, h4⟩ := drop_at h3
      exact go (k + 3) _ h4 (tk_sign 3 rfl (.inr (.inr (.inl ⟨rfl, ext_list (L := [42]) (sub_at (ws := [42]) h2)⟩))))
    · have hd : (bs s).drop k = 32 :: 45 :: 62 :: 32 :: rendI r := hd
      obtain ⟨_, _, _, h2⟩ := drop_at hd
      obtain ⟨_, _, _, h3⟩ := drop_at h2
      obtain ⟨_, _, _, h4⟩ := drop_at h3
      obtain ⟨_, _, _, h5⟩ := drop_at h4
      exact go (k + 4) _ h5 (tk_sign 4 rfl (.inr (.inr (.inr ⟨rfl, ext_list (L := [45, 62]) (sub_at (ws := [45, 62]) h2)⟩))))
    · have hd : (bs s).drop k = [105, 110, 116] ++ rendI r := hd
      obtain ⟨_, _, _, h2⟩ := drop_at (c := 105) (r := 110 :: 116 :: rendI r) hd
      obtain ⟨_, _, _, h3⟩ := drop_at h2
      obtain ⟨_, _, _, h4⟩ := drop_at h3
      exact go (k + 3) _ h4 (tk_word 5 rfl (.inl ⟨rfl, ext_list (L := [105, 110, 116]) (sub_at hd)⟩))
    · have hd : (bs s).drop k = [98, 111, 111, 108] ++ rendI r := hd
      obtain ⟨_, _, _, h2⟩ := drop_at (c := 98) (r := 111 :: 111 :: 108 :: rendI r) hd
      obtain ⟨_, _, _, h3⟩ := drop_at h2
      obtain ⟨_, _, _, h4⟩ := drop_at h3
      obtain ⟨_, _, _, h5⟩ := drop_at h4
      exact go (k + 4) _ h5 (tk_word 6 rfl (.inr ⟨rfl, ext_list (L := [98, 111, 111, 108]) (sub_at hd)⟩))
theorem sepd_all : ∀ (tk : List Nat), Sepd tk → ∀ m ∈ tk, 1 ≤ m ∧ m ≤ 6 := by
  intro tk
  induction tk with
  | nil => intro _ m hm; cases hm
  | cons x r ih =>
    intro h m hm
    rcases List.mem_cons.1 hm with rfl | hm
    · exact h.1
    · exact ih h.2.2 m hm
theorem toksAt_len : ∀ (tk : List Nat) (k : Nat), Sepd tk → (toksAt k tk).length = tk.length := by
  intro tk
  induction tk with
  | nil => intro k _; rfl
  | cons m r ih =>
    intro k h
    have hm : m = 1 ∨ m = 2 ∨ m = 3 ∨ m = 4 ∨ m = 5 ∨ m = 6 := by have := h.1; omega
    rcases hm with rfl | rfl | rfl | rfl | rfl | rfl <;> simp [toksAt, ih _ h.2.2]
theorem rend_len (tk : List Nat) : tk.length ≤ (rendI tk).length := by
  induction tk with
  | nil => simp
  | cons m r ih =>
    rw [rendI_cons, List.length_append, List.length_cons, List.length_map]
    have : 0 < (rendT m).length := by unfold rendT; split <;> simp
    omega
/-- A type's text, lexed by the document's answer, is read as the type. -/
theorem tokens_read (s : ByteArray) (k n : Int) (u : Sl) (ps : Fo) (hok : (alone k n ps.len && ps.ok) = true) (hv : varsL [] ((k, n, (none, 0, 0)) :: ps.pre) = []) (hd : ps.depth ≤ 39) (hs : s = ⟨(oneT k n ps.txts).toArray⟩) :
    ∃ (ts : List (Int × Nat × Nat)) (t : Ty), wordsE (bs s) = .ok ts ∧ M (tkOf namedB ((ts ++ [(0, s.size, s.size)]).map (tvOf s))) 1000 (.first 0 1 []) (.done t ts.length) ∧ k = t.1 ∧ n = t.2.1 ∧ ps.same t.2.2 = true ∧ ts.length ≤ s.size := by
  have hok1 : (Fo.cons k n u ps .nil).ok = true := by simp only [Fo.ok, hok, Bool.and_self]
  obtain ⟨_, hv1⟩ := varsL_none _ _ hv
  obtain ⟨hR, hS⟩ := okR_of (.cons k n u ps .nil) hok1 (by
    intro x hx
    simp only [Fo.pre, List.append_nil] at hx
    rcases List.mem_cons.1 hx with rfl | hx
    · exact hv1 (k, n, (none, 0, 0)) List.mem_cons_self
    · exact hv1 x (List.mem_cons_of_mem _ hx))
  have hT := txts_rend _ hR
  simp only [Fo.txts, Fo.tt, List.map_cons, List.map_nil, List.cons.injEq, Prod.mk.injEq, and_true] at hT
  obtain ⟨_, hT⟩ := hT
  obtain ⟨x, hx⟩ : ∃ x, mkTt k ps.tt = x := ⟨_, rfl⟩
  have hmem : x ∈ (Fo.cons k n u ps .nil).tt := by simp [Fo.tt, hx]
  have hrd := reads_all _ hR x hmem
  have hq := qs_all _ hR x hmem
  have hnd := nd_le (.cons k n u ps .nil)
  simp only [Fo.tt, maxN, Fo.depth, hx] at hnd
  simp only [Fo.tt, List.map_cons, List.map_nil, tyL, Fo.same, hx, Bool.and_eq_true, beq_iff_eq, and_true] at hS
  rw [hx] at hT
  have hb : bs s = rendI x.tk := by rw [hs, hT]; rfl
  have hsep : Sepd x.tk := by simpa using hq [] trivial (by intro a r e; cases e)
  refine ⟨toksAt 0 x.tk, x.ty, type_lexed _ x hq hb, ?_, hS.1.1, hS.1.2, hS.2, ?_⟩
  · have hat := at_toks s x.tk 0 [] [tvOf s (0, s.size, s.size)] (by simpa using hb) (sepd_all _ hsep)
    simp only [List.nil_append, List.length_nil] at hat
    have hmap : (toksAt 0 x.tk ++ [(0, s.size, s.size)]).map (tvOf s) = (toksAt 0 x.tk).map (tvOf s) ++ [tvOf s (0, s.size, s.size)] := by simp
    rw [hmap]
    have hlen := toksAt_len x.tk 0 hsep
    refine ((hrd _ 1000 0 1 [] _ hat (by omega)).2 ?_ ?_)
    · intro h4
      have hz := tokAt_mid ((toksAt 0 x.tk).map (tvOf s)) [] (tvOf s (0, s.size, s.size))
      rw [List.length_map, hlen] at hz
      rw [Int.zero_add] at h4
      have h0 : sgOf ((toksAt 0 x.tk).map (tvOf s) ++ [tvOf s (0, s.size, s.size)]) (x.tk.length : Nat) = 0 := by
        unfold sgOf seesB
        rw [hz]
        rfl
      exact absurd (h0.symm.trans h4) (by omega)
    · rw [hlen]
      have : (0 : Int) + (x.tk.length : Nat) = (x.tk.length : Nat) := by omega
      rw [this]
      exact .whole
  · rw [toksAt_len _ _ hsep, ← bs_length, hb]
    exact rend_len _
end Go.Proofs.YtjmbkkpglkbppaaDoor
/- Types read from tokens: how great they are at most. Nothing here speaks of the program. -/
namespace Go.Proofs.YtjmbkkpglkbppaaDoor

def tsz (t : Ty) : Nat := 1 + t.2.2.size
def lsz (l : List Ty) : Nat := (l.map tsz).sum
theorem tyL_size (l : List Ty) : (tyL l).size = lsz l := by
  induction l with
  | nil => rfl
  | cons t r ih => simp only [tyL, Fo.size, ih, lsz, List.map_cons, List.sum_cons, tsz]
theorem lsz_snoc (l : List Ty) (t : Ty) : lsz (l ++ [t]) = lsz l + tsz t := by simp [lsz]
theorem endT_size (b : Fr) (t : Ty) : tsz (endT b t) ≤ 1 + lsz b.parts + tsz t := by
  have h : lsz (b.parts ++ [t]) = lsz b.parts + tsz t := lsz_snoc _ _
  unfold endT
  split
  · simp only [tsz, tyL_size] at *
    omega
  · generalize hl : b.parts ++ [t] = l at *
    match l with
    | [] => simp at hl
    | [x] => have h2 : lsz [x] = tsz x := by simp [lsz]
             simp only [tupTy]; omega
    | x :: y :: r => simp only [tupTy, tsz, tyL_size] at *; omega
def frsz (K : List Fr) : Nat := (K.map fun b => 1 + lsz b.parts).sum
theorem frsz_cons (b : Fr) (K : List Fr) : frsz (b :: K) = 1 + lsz b.parts + frsz K := by simp [frsz]
def Pos.wt : Pos → Nat
  | first _ _ K => frsz K
  | behind t _ _ K => tsz t + frsz K
  | ends t _ _ K => tsz t + frsz K
theorem M.size {S : Tk} {most : Int} {p : Pos} {o : Out} (h : M S most p o) : ∀ t j, o = .done t j → (tsz t : Int) ≤ p.wt + (j - p.i) := by
  induction h with
  | open_ h hl n ih => intro t j he; have := ih t j he; simp only [Pos.wt, Pos.i, frsz_cons, lsz, List.map_nil, List.sum_nil] at *; omega
  | deep => intro t j he; cases he
  | none => intro t j he; cases he
  | leaf h hb x ih => intro t j he; have := ih t j he; simp only [Pos.wt, Pos.i, tsz, Fo.size] at *; omega
  | arrow h hl n ih => intro t j he; have := ih t j he; simp only [Pos.wt, Pos.i, frsz_cons, lsz, List.map_cons, List.map_nil, List.sum_cons, List.sum_nil] at *; omega
  | adeep => intro t j he; cases he
  | over h n ih => intro t j he; have := ih t j he; simp only [Pos.wt, Pos.i] at *; omega
  | whole => intro t j he; cases he; simp only [Pos.wt, Pos.i, frsz, List.map_nil, List.sum_nil]; omega
  | @out t i lev l ps K o n ih => intro t' j he; have := ih t' j he; have h2 := endT_size ⟨true, l, ps⟩ t; simp only [Pos.wt, Pos.i, frsz_cons] at *; omega
  | @close t i lev l ps K o h n ih => intro t' j he; have := ih t' j he; have h2 := endT_size ⟨false, l, ps⟩ t; simp only [Pos.wt, Pos.i, frsz_cons] at *; omega
  | form => intro t j he; cases he
  | many => intro t j he; cases he
  | more h hp n ih => intro t' j he; have := ih t' j he; simp only [Pos.wt, Pos.i, frsz_cons, lsz_snoc] at *; omega
theorem M.end_ {S : Tk} {most : Int} {N : Int} (hS : ∀ i, (S.sg i ≠ 0 ∨ S.bs i ≠ Option.none) → i < N) {p : Pos} {o : Out} (h : M S most p o) : o.pos ≤ p.i ∨ o.pos ≤ N := by
  induction h with
  | @open_ i _ _ _ h hl n ih => have := hS i (.inl (by omega)); simp only [Pos.i, Out.pos] at *; omega
  | @deep i _ _ h hl => have := hS i (.inl (by omega)); simp only [Pos.i, Out.pos] at *; omega
  | none => left; simp only [Pos.i, Out.pos]; omega
  | @leaf i _ _ _ _ _ h hb x ih => have := hS i (.inr (by rw [hb]; simp)); simp only [Pos.i] at *; omega
  | @arrow _ i _ _ _ h hl n ih => have := hS i (.inl (by omega)); simp only [Pos.i] at *; omega
  | @adeep _ i _ _ h hl => have := hS i (.inl (by omega)); simp only [Pos.i, Out.pos] at *; omega
  | over h n ih => simpa only [Pos.i] using ih
  | whole => left; simp only [Pos.i, Out.pos]; omega
  | out n ih => simpa only [Pos.i] using ih
  | @close _ i _ _ _ _ _ h n ih => have := hS i (.inl (by omega)); simp only [Pos.i] at *; omega
  | form => left; simp only [Pos.i, Out.pos]; omega
  | many => left; simp only [Pos.i, Out.pos]; omega
  | @more _ i _ _ _ _ _ h hp n ih => have := hS i (.inl (by omega)); simp only [Pos.i] at *; omega
/-- What is read of so many tokens is no greater. -/
theorem RdIs.small {S : Tk} {most : Int} {N : Int} (hN : 0 ≤ N) (hS : ∀ i, (S.sg i ≠ 0 ∨ S.bs i ≠ Option.none) → 0 ≤ i ∧ i < N) {i lev : Int} {o : Out} (h : RdIs S most i lev o) : (o.ty.2.2.size : Int) ≤ N := by
  rcases h with ⟨_, rfl⟩ | ⟨_, h⟩
  · simp [Out.ty, Fo.size]; exact hN
  · cases o with
    | err e j => simp [Out.ty, Fo.size]; exact hN
    | done t j =>
      by_cases hi : 0 ≤ i
      · have h1 := h.size t j rfl
        have h2 := h.end_ (fun i hi => (hS i hi).2)
        simp only [Pos.wt, Pos.i, frsz, List.map_nil, List.sum_nil, Out.pos, tsz, Out.ty] at *
        omega
      · cases h with
        | open_ h => have := hS i (.inl (by omega)); omega
        | leaf h hb => have := hS i (.inr (by rw [hb]; simp)); omega
end Go.Proofs.YtjmbkkpglkbppaaDoor
/- SignatureLevels. -/
namespace Go.Proofs.YtjmbkkpglkbppaaDoor
open Go.RowKit Go.Shelf

theorem same_img {f g h : Fo} (a : Img id f g) (b : Img id f h) : g.same h = true := by
  induction f generalizing g h with
  | nil => cases g <;> cases h <;> simp_all [Img, Fo.same]
  | cons k n u ps r ih1 ih2 =>
    cases g with
    | nil => simp [Img] at a
    | cons k1 n1 u1 ps1 r1 =>
      cases h with
      | nil => simp [Img] at b
      | cons k2 n2 u2 ps2 r2 =>
        obtain ⟨e1, e2, e3, e4⟩ := a
        obtain ⟨e1', e2', e3', e4'⟩ := b
        simp [Fo.same, e1, e1', e2, e2', ih1 e3 e3', ih2 e4 e4']
theorem tk_in (ts : List TV) (i : Int) (h : (tkOf namedB ts).sg i ≠ 0 ∨ (tkOf namedB ts).bs i ≠ none) : 0 ≤ i ∧ i < ts.length := by
  by_cases ho : i < 0 ∨ (ts.length : Int) ≤ i
  · exfalso
    have ht := tokAt_out ts i ho
    rcases h with h | h
    · apply h
      show sgOf ts i = 0
      simp [sgOf, seesB, ht]
    · apply h
      show namedB (tokAt ts i) = none
      rw [ht]
      simp [namedB]
  · omega
end Go.Proofs.YtjmbkkpglkbppaaDoor
/- The guard of the laws: is there room for a type? -/
namespace Go.Proofs.YtjmbkkpglkbppaaDoor
open Go.RowKit

/-- What room gives. -/
def RoomIs (n deep : Nat) (f : Fo) (r : Int) : Prop :=
  -1 ≤ r ∧ r ≤ n ∧ (0 ≤ r → 1 + (f.size : Int) + r = n ∧ 1 + f.depth ≤ deep) ∧ (1 + f.size ≤ n → 1 + f.depth ≤ deep → r = (n : Int) - (1 + f.size))
theorem RoomIs.zero (n : Nat) (f : Fo) : RoomIs n 0 f (-1) := ⟨by omega, by omega, by omega, by omega⟩
theorem RoomIs.none (deep : Nat) (f : Fo) : RoomIs 0 deep f (-1) := ⟨by omega, by omega, by omega, by omega⟩
set_option maxHeartbeats 1000000 in
set_option maxRecDepth 100000 in
theorem room_any (deep : Nat) : ∀ (f : Fo) (k n0 : Int) (v : Value) (n : Nat) (w : World), deep ≤ 40 → n ≤ 300 → TyV w.heap.size w f v →
    Calls Tryd.prog 19 #[tyVal k n0 v, .int .i64 n, .int .i64 deep] w fun e w' => ∃ r, e = .returned (.int .i64 r) ∧ Below w.heap.size w w' ∧ RoomIs n deep f r := by
  induction deep with
  | zero =>
    intro f k n0 v n w hd hn h
    obtain ⟨A, c, rfl⟩ := h.slice
    clear h
    unfold tyVal
    go_enter Tryd.func19, Tryd.ntmps19
    go_wp2_with fail
    go_ret
    exact ⟨_, rfl, (Below.refl _ _).alloc (Nat.le_refl _) _, RoomIs.zero n f⟩
  | succ deep ih =>
    intro f k n0 v n w hd hn h
    obtain ⟨A, c, rfl⟩ := h.slice
    have H := Lib.hid h
    have IH := Lib.hid ih
    have hml : f.len ≤ maxLen := by
      rcases Nat.eq_zero_or_pos f.len with h0 | h0
      · omega
      · obtain ⟨_, _, cap, _, h1, h2, _⟩ := h.form h0
        exact Nat.le_trans h1 h2
    replace hml : f.len ≤ 9223372036854775807 := by unfold maxLen at hml; omega
    clear h ih
    rw [show (((deep + 1 : Nat)) : Int) = (deep : Int) + 1 from by omega]
    unfold tyVal
    go_enter Tryd.func19, Tryd.ntmps19
    have HB0 := Lib.hid (show ∀ (cs : Array Value) (t : TypeId), Below w.heap.size w (w.alloc (Obj.cells cs t)) from fun cs t => (Below.refl _ w).alloc (Nat.le_refl _) _)
    have f1 : ((deep : Int) + 1 == 0) = false := beq_eq_false_iff_ne.2 (by omega)
    go_wp2_with fail
    go_loopw [1, 7] (fun t1 t7 wr => ∃ (j : Nat) (r : Int), j ≤ f.len ∧ t7 = .int .i64 j ∧ t1 = .int .i64 r ∧ RoomIs n (deep + 1) (f.take j) r ∧ wr.cell? ⟨w.heap.size, 2, none⟩ = some (.slice A f.len c) ∧ Below w.heap.size w wr ∧ w.heap.size + 1 ≤ wr.heap.size) (fun _ t _ => f.len - (intOf t).toNat)
    case atStart =>
      refine ⟨0, (n : Int) - 1, Nat.zero_le _, rfl, by go_num, ?_, by go_simp, HB0.out _ _, by simp⟩
      unfold RoomIs
      simp only [Fo.take_zero, Fo.size, Fo.depth]
      omega
    case round =>
      obtain ⟨j, r, hj, rfl, rfl, hr, e2, hb, hz⟩ := hrel
      have HB := Lib.hid hb
      have HR := Lib.hid hr
      have hr0 : -1 ≤ r ∧ r ≤ n := ⟨hr.1, hr.2.1⟩
      clear hb hr
      by_cases hjl : j < f.len
      · by_cases hr1 : 0 ≤ r
        · obtain ⟨rn, rfl⟩ := Int.eq_ofNat_of_zero_le hr1
          obtain ⟨b, off, cap, hv, _, _, hlt, hC⟩ := H.out.form (by omega)
          injection hv with hA _ hcc
          subst hA; subst hcc
          obtain ⟨d0, d1, d2, hch⟩ := tyC_at hC j hjl
          have c0 := (HB.out.cell (p := ⟨b, off + j * 3, none⟩) hlt).trans d0
          have c1 := (HB.out.cell (p := ⟨b, off + j * 3 + 1, none⟩) hlt).trans d1
          have c2 := (HB.out.cell (p := ⟨b, off + j * 3 + 2, none⟩) hlt).trans d2
          have hch' : TyV wr.heap.size wr (f.at_ j).2.2.2 (slv (f.at_ j).2.2.1) := hch.keep HB.out.size fun b off hb' => HB.out.cell (p := ⟨b, off, none⟩) hb'
          have HST := Lib.hid (f.size_take_step j hjl)
          have HDT := Lib.hid (f.depth_take_step j hjl)
          have hrec := IH.out (f.at_ j).2.2.2 (f.at_ j).1 (f.at_ j).2.1 (slv (f.at_ j).2.2.1) rn wr (by omega) (by omega) hch'
          clear d0 d1 d2 hC hch hch'
          unfold tyVal at hrec
          generalize f.at_ j = p at *
          obtain ⟨pk, pn, pv, pf⟩ := p
          dsimp only [slv] at hrec c0 c1 c2
          have HREC := Lib.hid hrec
          clear hrec
          have f2 : decide ((0 : Int) ≤ rn) = true := decide_eq_true hr1
          go_wp2_with fail
          refine HREC.out.mono ?_
          rintro e w2 ⟨r2, rfl, hb3, hr2⟩
          have e2' := (hb3.cell (p := ⟨w.heap.size, 2, none⟩) (by show w.heap.size < wr.heap.size; omega)).trans e2
          have HB3 := Lib.hid hb3
          have HR2 := Lib.hid hr2
          clear hb3 hr2
          go_wp2_with fail
          go_roundw
          case rel =>
            refine ⟨j + 1, r2, by omega, by go_num, rfl, ?_, e2', HB.out.trans (HB3.out.mono (by omega)), Nat.le_trans hz HB3.out.size⟩
            have h1 := HR.out
            have h2 := HR2.out
            have h3 := HST.out
            have h4 := HDT.out
            unfold RoomIs at h1 h2 ⊢
            omega
          case measure => simp [intOf]; omega
        · have f2 : decide ((0 : Int) ≤ r) = false := decide_eq_false hr1
          have HTL := Lib.hid (f.size_take_le j)
          have HDL := Lib.hid (f.depth_take_le j)
          go_wp2_with fail
          go_ret
          refine ⟨_, rfl, HB.out, ?_⟩
          have h1 := HR.out
          have h3 := HTL.out
          have h4 := HDL.out
          unfold RoomIs at h1 ⊢
          omega
      · obtain rfl : j = f.len := by omega
        have HT : Hid (f.take f.len = f) := Lib.hid f.take_len
        go_wp2_with fail
        go_ret
        refine ⟨_, rfl, HB.out, ?_⟩
        have h1 := HR.out
        rwa [HT.out] at h1
set_option maxHeartbeats 1000000 in
/-- Is there more than is asked of? -/
theorem great_any (f : Fo) (k n0 : Int) (v : Value) (w : World) (h : TyV w.heap.size w f v) :
    Calls Tryd.prog 10 #[tyVal k n0 v] w fun e w' => e = .returned (.bool (!(decide (1 + f.size ≤ 300) && decide (1 + f.depth ≤ 40)))) ∧ Below w.heap.size w w' := by
  obtain ⟨A, c, rfl⟩ := h.slice
  obtain ⟨w1, hw1⟩ : ∃ w1, w.alloc (Obj.cells #[.int .i64 k, .int .i64 n0, .slice A f.len c] 28) = w1 := ⟨_, rfl⟩
  have hb1 : Below w.heap.size w w1 := by rw [← hw1]; exact (Below.refl _ _).alloc (Nat.le_refl _) _
  have hs1 := hb1.size
  have hc := room_any 40 f k n0 (.slice A f.len c) 300 w1 (by omega) (by omega) (h.keep hs1 fun b off hb' => hb1.cell (p := ⟨b, off, none⟩) hb')
  rw [← hw1] at hc
  have HC := Lib.hid hc
  have HB1 := Lib.hid hb1
  have HW1 := Lib.hid hw1
  clear h hc hs1 hb1 hw1
  unfold tyVal at HC ⊢
  go_enter Tryd.func10, Tryd.ntmps10
  go_wp2_with fail
  refine HC.out.mono ?_
  rintro e w' ⟨r, rfl, hb, hr⟩
  have hd : decide (r < 0) = !(decide (1 + f.size ≤ 300) && decide (1 + f.depth ≤ 40)) := by
    unfold RoomIs at hr
    by_cases h1 : r < 0
    · have : ¬ (1 + f.size ≤ 300 ∧ 1 + f.depth ≤ 40) := by omega
      rw [decide_eq_true h1]
      simp only [← Bool.decide_and, decide_eq_false this]
      rfl
    · have : 1 + f.size ≤ 300 ∧ 1 + f.depth ≤ 40 := by omega
      rw [decide_eq_false h1]
      simp only [← Bool.decide_and, decide_eq_true this]
      rfl
  have HD := Lib.hid hd
  rw [HW1.out] at hb
  have HB := Lib.hid (show Below w.heap.size w w' from HB1.out.trans (hb.mono HB1.out.size))
  clear hd hr hb
  go_wp2_with fail
  go_ret
  exact ⟨ret_bool HD.out, HB.out⟩
end Go.Proofs.YtjmbkkpglkbppaaDoor
/- SignatureTokens: the walk. -/
namespace Go.Proofs.YtjmbkkpglkbppaaDoor
open Go.RowKit Go.Shelf

theorem same_img2 {f g h : Fo} (a : Img id f g) (b : h.same f = true) : g.same h = true := by
  induction f generalizing g h with
  | nil => cases g <;> cases h <;> simp_all [Img, Fo.same]
  | cons k n u ps r ih1 ih2 =>
    cases g with
    | nil => simp [Img] at a
    | cons k1 n1 u1 ps1 r1 =>
      cases h with
      | nil => simp [Fo.same] at b
      | cons k2 n2 u2 ps2 r2 =>
        simp only [Img] at a
        simp only [Fo.same, Bool.and_eq_true, beq_iff_eq] at b ⊢
        obtain ⟨rfl, hn, h3, h4⟩ := a
        obtain ⟨⟨⟨rfl, rfl⟩, h7⟩, h8⟩ := b
        refine ⟨⟨⟨rfl, ?_⟩, ih1 h3 h7⟩, ih2 h4 h8⟩
        rw [hn]; unfold nm; split <;> rfl
set_option maxRecDepth 100000 in
set_option maxHeartbeats 4000000 in
theorem tokens_any (w : World) (k n : Int) (u : Sl) (F : Fo) (hF : TyV w.heap.size w F (slv u)) (ht : Tab w) :
    Calls Tryd.prog 4 #[tyVal k n (slv u)] w fun e w' => e = .returned (.bool true) ∧ Below w.heap.size w w' := by
  obtain ⟨W0, hW0⟩ : ∃ W0, w.alloc (.cells #[.int .i64 k, .int .i64 n, slv u] 28) = W0 := ⟨_, rfl⟩
  have hb0 : Below w.heap.size w W0 := by rw [← hW0]; exact (Below.refl _ _).alloc (Nat.le_refl _) _
  have hx0 : W0.heap[w.heap.size]? = some (Obj.cells #[.int .i64 k, .int .i64 n, slv u] 28) := by rw [← hW0]; exact heap_alloc_new w _
  have hl : w.heap.size < W0.heap.size := (Array.getElem?_eq_some_iff.1 hx0).1
  have HL := Lib.hid hl
  have ht0 := Lib.hid (ht.below hb0)
  have hF0 := Lib.hid (show TyV W0.heap.size W0 F (slv u) from hF.keep hb0.size fun b off hlt => hb0.cell (p := ⟨b, off, none⟩) hlt)
  have HFB := Lib.hid (show ∀ W, Below W0.heap.size W0 W → TyV W.heap.size W F (slv u) from fun W hb => hF0.out.below hb |>.keep hb.size fun _ _ _ => rfl)
  have HGR := great_any F k n (slv u) W0 hF0.out
  obtain ⟨gb, hgb⟩ : ∃ gb, (!(decide (1 + F.size ≤ 300) && decide (1 + F.depth ≤ 40))) = gb := ⟨_, rfl⟩
  rw [hgb] at HGR
  have HGB := Lib.hid hgb
  have haok := Lib.hid (allAlone_ok F hF0.out.list)
  obtain ⟨u1, u2, u3⟩ := u
  dsimp only [tyVal, slv] at *
  have x0 : W0.cell? ⟨w.heap.size, 0, none⟩ = some (.int .i64 k) := cell_of_row W0 _ 0 _ _ (0, 0) hx0
  have x1 : W0.cell? ⟨w.heap.size, 1, none⟩ = some (.int .i64 n) := cell_of_row W0 _ 1 _ _ (0, 0) hx0
  have x2 : W0.cell? ⟨w.heap.size, 2, none⟩ = some (.slice u1 u2 u3) := cell_of_row W0 _ 2 _ _ (0, 0) hx0
  have HX := Lib.hid (show ∀ W, Below W0.heap.size W0 W → W.cell? ⟨w.heap.size, 0, none⟩ = some (.int .i64 k) ∧ W.cell? ⟨w.heap.size, 1, none⟩ = some (.int .i64 n) ∧ W.cell? ⟨w.heap.size, 2, none⟩ = some (.slice u1 u2 u3) from fun W hb => ⟨(hb.cell (p := ⟨w.heap.size, 0, none⟩) hl).trans x0, (hb.cell (p := ⟨w.heap.size, 1, none⟩) hl).trans x1, (hb.cell (p := ⟨w.heap.size, 2, none⟩) hl).trans x2⟩)
  have HB0 := Lib.hid hb0
  have HAW := Lib.hid (show ∀ W, Below W0.heap.size W0 W → Calls Tryd.prog 6 #[] W fun e w' => e = .returned (.bool true) ∧ Below w.heap.size w w' from fun W hb => (awake4_any W (ht0.out.below hb)).mono fun e w' ⟨h1, h2⟩ => ⟨h1, hb0.trans ((hb.trans (h2.mono hb.size)).mono hb0.size)⟩)
  clear hgb hb0 hx0 ht hF hl
  go_enter Tryd.func4, Tryd.ntmps4
  go_wp2_with fail
  refine HGR.mono ?_
  rintro e w2 ⟨rfl, hb2⟩
  obtain ⟨y0, y1, y2⟩ := HX.out w2 hb2
  have HB2 := Lib.hid hb2
  clear hb2 HGR x0 x1 x2 hW0
  cases gb with
  | true =>
    go_wp2_with fail
    refine (HAW.out _ HB2.out).mono ?_
    rintro e w3 ⟨rfl, hb3⟩
    have HB3 := Lib.hid hb3
    clear hb3
    go_wp2_with fail
    go_ret
    exact ⟨rfl, HB3.out⟩
  | false =>
    have hsz : F.size ≤ 299 ∧ F.depth ≤ 39 := by
      have := HGB.out
      simp at this
      omega
    have HR := rright_any _ F k n (slv (u1, u2, u3)) w2 (Nat.lt_succ_self _) (by omega) (HFB.out w2 HB2.out)
    obtain ⟨okb, hok⟩ : ∃ okb, (alone k n F.len && F.ok) = okb := ⟨_, rfl⟩
    rw [haok.out, hok] at HR
    have HOK := Lib.hid hok
    clear hok
    dsimp only [tyVal, slv] at *
    go_wp2_with fail
    refine HR.mono ?_
    rintro e w3 ⟨rfl, hb3⟩
    have hb3' := HB2.out.trans (hb3.mono HB2.out.size)
    obtain ⟨z0, z1, z2⟩ := HX.out w3 hb3'
    have HB3 := Lib.hid hb3'
    clear hb3 hb3' HR y0 y1 y2
    cases okb with
    | false =>
      go_wp2_with fail
      refine (HAW.out _ HB3.out).mono ?_
      rintro e w4 ⟨rfl, hb4⟩
      have HB4 := Lib.hid hb4
      clear hb4
      go_wp2_with fail
      go_ret
      exact ⟨rfl, HB4.out⟩
    | true =>
      have HV := rvars_any _ F k n (slv (u1, u2, u3)) w3 [] (.slice none 0 0) (Nat.lt_succ_self _) (by simp; omega) (HFB.out w3 HB3.out) ⟨rfl, .inl ⟨rfl, none, 0, rfl⟩⟩
      obtain ⟨L, hL⟩ : ∃ L, varsL [] ((k, n, (none, 0, 0)) :: F.pre) = L := ⟨_, rfl⟩
      rw [hL] at HV
      have HVL := Lib.hid hL
      clear hL
      dsimp only [tyVal, slv] at *
      go_wp2_with fail
      refine HV.mono ?_
      rintro e w4 ⟨vv, rfl, hrv, hb4⟩
      obtain ⟨Av, cv, rfl⟩ := hrv.form
      have hb4' := HB3.out.trans (hb4.mono HB3.out.size)
      obtain ⟨y0, y1, y2⟩ := HX.out w4 hb4'
      have HB4 := Lib.hid hb4'
      clear hb4 hb4' HV hrv z0 z1 z2
      by_cases hl0 : 0 < L.length
      · have f1 : decide ((0 : Int) < (L.length : Nat)) = true := decide_eq_true (by omega)
        go_wp2_with fail
        refine (HAW.out _ HB4.out).mono ?_
        rintro e w5 ⟨rfl, hb5⟩
        have HB5 := Lib.hid hb5
        clear hb5
        go_wp2_with fail
        go_ret
        exact ⟨rfl, HB5.out⟩
      · have f1 : decide ((0 : Int) < (L.length : Nat)) = false := decide_eq_false (by omega)
        obtain rfl : L = [] := List.eq_nil_of_length_eq_zero (by omega)
        obtain ⟨X, hX⟩ : ∃ X : ByteArray, X = ⟨(oneT k n F.txts).toArray⟩ := ⟨_, rfl⟩
        obtain ⟨ts, ⟨t1, t2, t3⟩, hE, hM, hk, hn, hsame, htl⟩ := tokens_read X k n (u1, u2, u3) F HOK.out HVL.out hsz.2 hX
        dsimp only at hk hn hsame
        subst hk
        subst hn
        have hXs : X.size ≤ 20000 := by
          have h1 := oneT_len k n F.txts
          have h2 := txts_len F
          rw [hX]
          show (oneT k n F.txts).toArray.size ≤ 20000
          rw [List.size_toArray]; omega
        have HP := print_any w4 k n (u1, u2, u3) F (HFB.out w4 HB4.out) (by omega) (ht0.out.below HB4.out)
        rw [HOK.out, if_pos rfl] at HP
        simp only [strB, ← hX] at HP
        have HM := Lib.hid (And.intro hM (And.intro hsame hE))
        have HXX := Lib.hid hX
        clear hM hsame hE hX hl0
        dsimp only [tyVal, slv] at *
        go_wp2_with fail
        refine HP.mono ?_
        rintro e w5 ⟨rfl, hb5⟩
        have HB5 := Lib.hid (HB4.out.trans (hb5.mono HB4.out.size))
        have HW := rwords_any X w5 (by omega)
        clear hb5 HP y0 y1 y2
        go_wp2_with fail
        refine HW.mono ?_
        rintro e w6 hw
        unfold WordsPost at hw
        rw [HM.out.2.2] at hw
        dsimp only at hw
        obtain ⟨hb6, v, rfl, hown⟩ := hw
        obtain ⟨A6, c6, rfl, _, _⟩ := own_form hown
        have hrd : RdT w6 (.slice A6 (ts.length + 1) c6) ((ts ++ [(0, X.size, X.size)]).map (tvOf X)) := by
          have h1 := Rd.of_own hown
          rw [cells_tv] at h1
          unfold RdT
          rw [List.length_map, List.length_append]
          exact h1
        have HRD := sread_any w6 _ _ 0 1 1000 hrd (by simp; omega) (by omega)
        have hb6' := HB5.out.trans (hb6.mono HB5.out.size)
        have HB6 := Lib.hid hb6'
        clear hrd hown hb6 hb6' HW
        go_wp2_with fail
        refine HRD.mono ?_
        rintro e w7 ⟨o, ⟨v1, v2, v3⟩, f, hR, rfl, hf, hfr, hb7⟩
        obtain rfl : o = .done (k, n, t3) ts.length := hR.one (.inr ⟨by omega, HM.out.1⟩)
        have hsm := hR.small (N := (((ts ++ [(0, X.size, X.size)]).map (tvOf X)).length : Nat)) (by omega) (tk_in _)
        dsimp only [tyVal, slv, Out.ty, Out.pos, Out.no] at hf hsm ⊢
        subst hf
        have hb7' := HB6.out.trans (hb7.mono HB6.out.size)
        obtain ⟨W8, hW8⟩ : ∃ W8, w7.alloc (.cells #[.int .i64 k, .int .i64 n, .slice v1 v2 v3] 28) = W8 := ⟨_, rfl⟩
        have hal : Below w7.heap.size w7 W8 := by rw [← hW8]; exact (Below.refl _ _).alloc (Nat.le_refl _) _
        have hb8 := hb7'.trans (hal.mono hb7'.size)
        obtain ⟨y0, y1, y2⟩ := HX.out W8 hb8
        have hx8 : W8.heap[w7.heap.size]? = some (Obj.cells #[.int .i64 k, .int .i64 n, .slice v1 v2 v3] 28) := by rw [← hW8]; exact heap_alloc_new w7 _
        have z0 : W8.cell? ⟨w7.heap.size, 0, none⟩ = some (.int .i64 k) := cell_of_row W8 _ 0 _ _ (0, 0) hx8
        have z1 : W8.cell? ⟨w7.heap.size, 1, none⟩ = some (.int .i64 n) := cell_of_row W8 _ 1 _ _ (0, 0) hx8
        have z2 : W8.cell? ⟨w7.heap.size, 2, none⟩ = some (.slice v1 v2 v3) := cell_of_row W8 _ 2 _ _ (0, 0) hx8
        obtain ⟨G1, hG1, hT1⟩ := (hfr.below hal).now
        have hs1 := hG1.size
        have hS := rsame_any (G1.size + 1) G1 F k n k n (slv (v1, v2, v3)) (slv (u1, u2, u3)) W8 (by omega) (by simp at hsm; omega) (by omega) hT1 (HFB.out W8 hb8)
        rw [same_img2 hG1 HM.out.2.1] at hS
        simp only [beq_self_eq_true, Bool.and_self, tyVal, slv] at hS
        have H8 := Lib.hid hb8
        clear hR hfr hb7 hb7' hsm HRD hal hb8 hG1 hT1 hs1 hx8
        go_wp2_with fail
        refine hS.mono ?_
        rintro e w9 ⟨rfl, hb9⟩
        have H9 := Lib.hid (H8.out.trans (hb9.mono H8.out.size))
        clear hb9 hS z0 z1 z2 y0 y1 y2
        go_wp2_with fail
        refine (HAW.out _ H9.out).mono ?_
        rintro e w10 ⟨rfl, hb10⟩
        have H10 := Lib.hid hb10
        clear hb10
        go_wp2_with fail
        go_ret
        exact ⟨rfl, H10.out⟩
end Go.Proofs.YtjmbkkpglkbppaaDoor
/- SignatureTokens: for every input the law returns true, and the arguments read behind the call as they did before. -/
namespace Go.Proofs.YtjmbkkpglkbppaaDoor.SignatureTokens
open Go.ChangeShapes Go.WideShapes Go.ChangeAt Go.RowKit Go.Proofs.YtjmbkkpglkbppaaDoor.Card
set_option linter.unusedVariables false

set_option maxRecDepth 100000 in
theorem lifted (os : Os) (started : os.Started) (H : Type) (enc : TypeId × Value → H) :
    ReturnsInHanded {} Tryd.checked os 4 .any (fun w args => (Rows.signatureTokensSpec.pre enc Tryd.prog Tryd.f4 [] false w args ∧ laidMetH Tryd.prog laid3 w) ∧ sizedMet enc Tryd.prog Tryd.f4 (OpenSpec.ofChange Rows.signatureTokensSpec) false w args)
      (Rows.signatureTokensSpec.post enc Tryd.prog Tryd.f4 false true false false) := by
  refine returnsInHanded_of_change_and (C := Tryd.checked) (X := fun w _ => laidMetH Tryd.prog laid3 w) (fun _ _ _ hh h => h.of_heap hh) own started (by kernel_rfl) Tryd.func4
    (ChangeSpec.witness_shaped (enc := enc) (C := Tryd.checked) (os := os) (X := fun w _ => laidMetH Tryd.prog laid3 w) false (World.doorLaid Tryd.prog 400 os) #[.agg #[.int .i64 0, .int .i64 0, .slice none 0 0]] 8 rfl (World.shaped_of_RefB (by kernel_rfl) (by kernel_rfl)) (by kernel_rfl) (by kernel_rfl) (by kernel_rfl) (door_met os _)) ?_
  intro W base args ds gs before hval0 hW _ _ hL _
  have hval : ∀ (j : Nat) t v, Tryd.f4.params[j]? = some t → args[j]? = some v → Value.okWide Tryd.prog W .any base t v := hval0
  have hW' := hW
  obtain ⟨p, q, hA0, hV, rfl, hfz, hnd⟩ := hW
  have hA : DataW.TrodAll enc Tryd.prog W 0 (fun _ => true) true Tryd.f4.params.toList args.toList ds p := hA0
  rw [Tryd.params4] at hA hval
  obtain ⟨v0, vs0, d0, ds0, p0, q0, hargs, rfl, rfl, h0, r0⟩ := trodAll_cons hA
  obtain ⟨rfl, rfl, rfl⟩ := trodAll_nil r0
  obtain rfl : args = #[v0] := by cases args; simp_all
  obtain ⟨rfl, rfl⟩ := trodVars_none hV
  have z0 := h0
  have lt0 : ∀ x ∈ p0, x.block < W.heap.size := by obtain ⟨m, hm⟩ := z0; exact DataW.trod_lt m _ _ _ hm
  obtain ⟨k0, n0, F0, u0, rfl, hF0, hw0, hW0⟩ := ArgT1_open (hval 0 28 v0 rfl rfl) h0
  clear hA0 hval0
  have T := tab_of_laid hL
  refine (tokens_any W k0 n0 u0 F0 hF0 T).mono fun e W' ⟨he, bel⟩ => ?_
  subst he
  exact ⟨_, rfl, _, _, _, [], _, [], hW', trodAll_mk1 (shut_bool Tryd.underlying4 _), (trodAll_cons_mk (Below.trod laidOut (by kernel_rfl) (of_decide_eq_true (by kernel_rfl)) z0 bel lt0) trodAll_mk0), rfl, bel.frame _, fun h => by cases h⟩
set_option maxRecDepth 100000 in
theorem over : Rows.SignatureTokensSaid :=
  OpenClaim.holds_of_wide 4 Tryd.f4 rfl rfl rfl rfl rfl rfl rfl ⟨rfl, rfl, rfl, rfl, rfl⟩ rfl rfl rfl rfl rfl (by kernel_rfl) Tryd.func4 (by kernel_rfl)
    (of_decide_eq_true (by kernel_rfl)) (by unfold Func.isWrapper; first | (rw [if_pos (by decide +kernel)]; kernel_rfl) | (rw [if_neg (by decide +kernel)]; exact ⟨rfl, rfl⟩))
    (fun os started H enc _ => lifted os started H enc)
theorem proved : Rows.SignatureTokensCardSaid :=
  Claim7.holds_tied_plain_at .later [] [.data, .data, .data] true (true, _) false
    over (fun _ h => by cases h) (by kernel_rfl) (fun _ h => by cases h) signatureTokens_row_tie rfl ⟨rfl, rfl⟩ (by kernel_rfl) rfl
    (fun f fn hf hfn => by
      obtain rfl : f = 4 := Option.some.inj ((show Tryd.prog.funcNamed "pangram/pangramlaw04.SignatureTokens" = some 4 by kernel_rfl).symm.trans hf) |>.symm
      obtain rfl : fn = Tryd.f4 := (Option.some.inj (Tryd.func4.symm.trans hfn)).symm
      exact ⟨by kernel_rfl, fun j t ht => by
        rw [Tryd.params4] at ht
        have hm : t ∈ [28] := by simpa using Array.mem_of_getElem? ht
        have hall : ([28].all fun u => !Tryd.prog.wantsStandIn u) = true := by kernel_rfl
        exact (show Tryd.prog.wantsStandIn t = false by simpa using List.all_eq_true.1 hall t hm)⟩)
    (by kernel_rfl)
#print axioms proved
end Go.Proofs.YtjmbkkpglkbppaaDoor.SignatureTokens
