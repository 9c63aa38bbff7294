/- Types read from tokens: the plain facts. What the reader does, step by step (M); what the answer does (Rf); they end alike. Nothing here speaks of the program. -/
import Derived.Test.YtjmbkkpglkbppaaDoorTyP
namespace Go.Proofs.YtjmbkkpglkbppaaDoor

/-- A type, plain: its kind, its number, its parts. -/
abbrev Ty := Int × Int × Fo
def tyL : List Ty → Fo
  | [] => .nil
  | t :: r => .cons t.1 t.2.1 (none, 0, 0) t.2.2 (tyL r)
theorem tyL_len (l : List Ty) : (tyL l).len = l.length := by
  induction l with
  | nil => rfl
  | cons t r ih => simp [tyL, Fo.len, ih]
def arrT (t u : Ty) : Ty := (4, 0, tyL [t, u])
def tupTy : List Ty → Ty
  | [] => (5, 0, .nil)
  | [t] => t
  | t :: u :: r => (5, 0, tyL (t :: u :: r))
structure Fr where
  arrow : Bool
  lev : Int
  parts : List Ty
def endT (b : Fr) (t : Ty) : Ty := if b.arrow = true then (4, 0, tyL (b.parts ++ [t])) else tupTy (b.parts ++ [t])
inductive Out where
  | done (t : Ty) (i : Int) : Out
  | err (e i : Int) : Out
namespace Out
def pos : Out → Int
  | done _ i => i
  | err _ i => i
def no : Out → Int
  | done _ _ => 0
  | err e _ => e
def ty : Out → Ty
  | done t _ => t
  | err _ _ => (0, 0, .nil)
end Out
/-- What the tokens are: 1 to 4: '(', ')', '*', '->'; and which ones stand for a type. -/
structure Tk where
  sg : Int → Nat
  bs : Int → Option (Int × Int)
inductive Pos where
  | first (i lev : Int) (K : List Fr) : Pos
  | behind (t : Ty) (i lev : Int) (K : List Fr) : Pos
  | ends (t : Ty) (i lev : Int) (K : List Fr) : Pos
def Pos.i : Pos → Int
  | first i _ _ => i
  | behind _ i _ _ => i
  | ends _ i _ _ => i
/-- The reader, step by step. -/
inductive M (S : Tk) (most : Int) : Pos → Out → Prop where
  | open_ {i lev K o} (h : S.sg i = 1) (hl : lev ≠ most) (n : M S most (.first (i + 1) (lev + 1) (⟨false, lev, []⟩ :: K)) o) : M S most (.first i lev K) o
  | deep {i lev K} (h : S.sg i = 1) (hl : lev = most) : M S most (.first i lev K) (.err 4 (i + 1))
  | none {i lev K} (h : S.sg i ≠ 1) (hb : S.bs i = none) : M S most (.first i lev K) (.err 3 i)
  | leaf {i lev K o k n} (h : S.sg i ≠ 1) (hb : S.bs i = some (k, n)) (x : M S most (.behind (k, n, .nil) (i + 1) lev K) o) : M S most (.first i lev K) o
  | arrow {t i lev K o} (h : S.sg i = 4) (hl : lev ≠ most) (n : M S most (.first (i + 1) (lev + 1) (⟨true, lev, [t]⟩ :: K)) o) : M S most (.behind t i lev K) o
  | adeep {t i lev K} (h : S.sg i = 4) (hl : lev = most) : M S most (.behind t i lev K) (.err 4 (i + 1))
  | over {t i lev K o} (h : S.sg i ≠ 4) (n : M S most (.ends t i lev K) o) : M S most (.behind t i lev K) o
  | whole {t i lev} : M S most (.ends t i lev []) (.done t i)
  | out {t i lev l ps K o} (n : M S most (.ends (endT ⟨true, l, ps⟩ t) i l K) o) : M S most (.ends t i lev (⟨true, l, ps⟩ :: K)) o
  | close {t i lev l ps K o} (h : S.sg i = 2) (n : M S most (.behind (endT ⟨false, l, ps⟩ t) (i + 1) l K) o) : M S most (.ends t i lev (⟨false, l, ps⟩ :: K)) o
  | form {t i lev l ps K} (h : S.sg i ≠ 2) (h' : S.sg i ≠ 3) : M S most (.ends t i lev (⟨false, l, ps⟩ :: K)) (.err 3 i)
  | many {t i lev l ps K} (h : S.sg i = 3) (hp : ps.length = 7) : M S most (.ends t i lev (⟨false, l, ps⟩ :: K)) (.err 6 i)
  | more {t i lev l ps K o} (h : S.sg i = 3) (hp : ps.length ≠ 7) (n : M S most (.first (i + 1) lev (⟨false, l, ps ++ [t]⟩ :: K)) o) : M S most (.ends t i lev (⟨false, l, ps⟩ :: K)) o
theorem M.one {S : Tk} {most : Int} {p : Pos} {o o' : Out} (h : M S most p o) (h' : M S most p o') : o = o' := by
  induction h generalizing o' with
  | open_ h hl n ih => cases h' with
    | open_ _ _ n' => exact ih n'
    | deep => contradiction
    | none => contradiction
    | leaf => contradiction
  | deep h hl => cases h' <;> first | rfl | contradiction
  | none h hb => cases h' with
    | open_ => contradiction
    | deep => contradiction
    | none => rfl
    | leaf _ hb' => rw [hb] at hb'; cases hb'
  | leaf h hb x ih => cases h' with
    | open_ => contradiction
    | deep => contradiction
    | none _ hb' => rw [hb] at hb'; cases hb'
    | leaf _ hb' x' => rw [hb] at hb'; cases hb'; exact ih x'
  | arrow h hl n ih => cases h' with
    | arrow _ _ n' => exact ih n'
    | adeep => contradiction
    | over => contradiction
  | adeep h hl => cases h' <;> first | rfl | contradiction
  | over h n ih => cases h' with
    | arrow => contradiction
    | adeep => contradiction
    | over _ n' => exact ih n'
  | whole => cases h'; rfl
  | out n ih => cases h' with
    | out n' => exact ih n'
  | close h n ih => cases h' with
    | close _ n' => exact ih n'
    | form => contradiction
    | many h2 => omega
    | more h2 => omega
  | form h h2 => cases h' with
    | close => contradiction
    | form => rfl
    | many => contradiction
    | more => contradiction
  | many h hp => cases h' with
    | close h2 => omega
    | form => contradiction
    | many => rfl
    | more => contradiction
  | more h hp n ih => cases h' with
    | close h2 => omega
    | form => contradiction
    | many => contradiction
    | more _ _ n' => exact ih n'
/-- What is behind lies behind. -/
theorem M.pos {S : Tk} {most : Int} {p : Pos} {o : Out} (h : M S most p o) : p.i ≤ o.pos := by
  induction h <;> simp only [Pos.i, Out.pos] at * <;> omega
/-- One level more changes nothing where it was deep enough. -/
theorem M.more_levels {S : Tk} {most : Int} {p : Pos} {o : Out} (h : M S most p o) : (o.no ≠ 4 → (∀ i lev K, p = .first i lev K → lev ≤ most ∧ ∀ b ∈ K, b.lev ≤ most) → (∀ t i lev K, p = .behind t i lev K → lev ≤ most ∧ ∀ b ∈ K, b.lev ≤ most) → (∀ t i lev K, p = .ends t i lev K → lev ≤ most ∧ ∀ b ∈ K, b.lev ≤ most) → M S (most + 1) p o) := by
  induction h with
  | @open_ i lev K o h hl n ih =>
    intro he h1 _ _
    obtain ⟨hle, hK⟩ := h1 _ _ _ rfl
    refine .open_ h (by omega) (ih he ?_ (by intros; contradiction) (by intros; contradiction))
    rintro _ _ _ ⟨⟩
    refine ⟨by omega, fun b hb => ?_⟩
    rcases List.mem_cons.1 hb with rfl | hb
    · exact hle
    · exact hK b hb
  | deep => intro he; simp [Out.no] at he
  | none h hb => intros; exact .none h hb
  | leaf h hb x ih =>
    intro he h1 _ _
    refine .leaf h hb (ih he (by intros; contradiction) ?_ (by intros; contradiction))
    rintro _ _ _ _ ⟨⟩
    exact h1 _ _ _ rfl
  | @arrow t i lev K o h hl n ih =>
    intro he _ h1 _
    obtain ⟨hle, hK⟩ := h1 _ _ _ _ rfl
    refine .arrow h (by omega) (ih he ?_ (by intros; contradiction) (by intros; contradiction))
    rintro _ _ _ ⟨⟩
    refine ⟨by omega, fun b hb => ?_⟩
    rcases List.mem_cons.1 hb with rfl | hb
    · exact hle
    · exact hK b hb
  | adeep => intro he; simp [Out.no] at he
  | over h n ih =>
    intro he _ h1 _
    refine .over h (ih he (by intros; contradiction) (by intros; contradiction) ?_)
    rintro _ _ _ _ ⟨⟩
    exact h1 _ _ _ _ rfl
  | whole => intros; exact .whole
  | out n ih =>
    intro he _ _ h1
    obtain ⟨hle, hK⟩ := h1 _ _ _ _ rfl
    refine .out (ih he (by intros; contradiction) (by intros; contradiction) ?_)
    rintro _ _ _ _ ⟨⟩
    exact ⟨hK _ List.mem_cons_self, fun b hb => hK b (List.mem_cons_of_mem _ hb)⟩
  | close h n ih =>
    intro he _ _ h1
    obtain ⟨hle, hK⟩ := h1 _ _ _ _ rfl
    refine .close h (ih he (by intros; contradiction) ?_ (by intros; contradiction))
    rintro _ _ _ _ ⟨⟩
    exact ⟨hK _ List.mem_cons_self, fun b hb => hK b (List.mem_cons_of_mem _ hb)⟩
  | form h h' => intros; exact .form h h'
  | many h hp => intros; exact .many h hp
  | more h hp n ih =>
    intro he _ _ h1
    obtain ⟨hle, hK⟩ := h1 _ _ _ _ rfl
    refine .more h hp (ih he ?_ (by intros; contradiction) (by intros; contradiction))
    rintro _ _ _ ⟨⟩
    refine ⟨hle, fun b hb => ?_⟩
    rcases List.mem_cons.1 hb with rfl | hb
    · have := hK _ List.mem_cons_self; exact this
    · exact hK b (List.mem_cons_of_mem _ hb)
/-- Where it was too deep, with one level more it ends no earlier. -/
theorem M.deep_levels {S : Tk} {most : Int} {p : Pos} {o o' : Out} (h : M S most p o) (he : o.no = 4) (h' : M S (most + 1) p o')
    (hp : (∀ i lev K, p = .first i lev K → lev ≤ most ∧ ∀ b ∈ K, b.lev ≤ most) ∧ (∀ t i lev K, p = .behind t i lev K → lev ≤ most ∧ ∀ b ∈ K, b.lev ≤ most) ∧ (∀ t i lev K, p = .ends t i lev K → lev ≤ most ∧ ∀ b ∈ K, b.lev ≤ most)) : o.pos ≤ o'.pos := by
  induction h generalizing o' with
  | @open_ i lev K o h hl n ih =>
    obtain ⟨hle, hK⟩ := hp.1 _ _ _ rfl
    cases h' with
    | open_ _ _ n' =>
      refine ih he n' ⟨?_, by intros; contradiction, by intros; contradiction⟩
      rintro _ _ _ ⟨⟩
      refine ⟨by omega, fun b hb => ?_⟩
      rcases List.mem_cons.1 hb with rfl | hb
      · exact hle
      · exact hK b hb
    | deep => omega
    | none => contradiction
    | leaf => contradiction
  | @deep i lev K h hl =>
    obtain ⟨hle, hK⟩ := hp.1 _ _ _ rfl
    cases h' with
    | open_ _ _ n' => exact n'.pos
    | deep => omega
    | none => contradiction
    | leaf => contradiction
  | none h hb => simp [Out.no] at he
  | leaf h hb x ih =>
    cases h' with
    | open_ => contradiction
    | deep => contradiction
    | none _ hb' => rw [hb] at hb'; cases hb'
    | leaf _ hb' x' =>
      rw [hb] at hb'; cases hb'
      refine ih he x' ⟨by intros; contradiction, ?_, by intros; contradiction⟩
      rintro _ _ _ _ ⟨⟩
      exact hp.1 _ _ _ rfl
  | @arrow t i lev K o h hl n ih =>
    obtain ⟨hle, hK⟩ := hp.2.1 _ _ _ _ rfl
    cases h' with
    | arrow _ _ n' =>
      refine ih he n' ⟨?_, by intros; contradiction, by intros; contradiction⟩
      rintro _ _ _ ⟨⟩
      refine ⟨by omega, fun b hb => ?_⟩
      rcases List.mem_cons.1 hb with rfl | hb
      · exact hle
      · exact hK b hb
    | adeep => omega
    | over => contradiction
  | @adeep t i lev K h hl =>
    obtain ⟨hle, hK⟩ := hp.2.1 _ _ _ _ rfl
    cases h' with
    | arrow _ _ n' => exact n'.pos
    | adeep => omega
    | over => contradiction
  | over h n ih =>
    cases h' with
    | arrow => contradiction
    | adeep => contradiction
    | over _ n' =>
      refine ih he n' ⟨by intros; contradiction, by intros; contradiction, ?_⟩
      rintro _ _ _ _ ⟨⟩
      exact hp.2.1 _ _ _ _ rfl
  | whole => simp [Out.no] at he
  | out n ih =>
    obtain ⟨hle, hK⟩ := hp.2.2 _ _ _ _ rfl
    cases h' with
    | out n' =>
      refine ih he n' ⟨by intros; contradiction, by intros; contradiction, ?_⟩
      rintro _ _ _ _ ⟨⟩
      exact ⟨hK _ List.mem_cons_self, fun b hb => hK b (List.mem_cons_of_mem _ hb)⟩
  | close h n ih =>
    obtain ⟨hle, hK⟩ := hp.2.2 _ _ _ _ rfl
    cases h' with
    | close _ n' =>
      refine ih he n' ⟨by intros; contradiction, ?_, by intros; contradiction⟩
      rintro _ _ _ _ ⟨⟩
      exact ⟨hK _ List.mem_cons_self, fun b hb => hK b (List.mem_cons_of_mem _ hb)⟩
    | form => contradiction
    | many h2 => omega
    | more h2 => omega
  | form h h' => simp [Out.no] at he
  | many h hp => simp [Out.no] at he
  | more h hq n ih =>
    obtain ⟨hle, hK⟩ := hp.2.2 _ _ _ _ rfl
    cases h' with
    | close h2 => omega
    | form => contradiction
    | many => contradiction
    | more _ _ n' =>
      refine ih he n' ⟨?_, by intros; contradiction, by intros; contradiction⟩
      rintro _ _ _ ⟨⟩
      refine ⟨hle, fun b hb => ?_⟩
      rcases List.mem_cons.1 hb with rfl | hb
      · have := hK _ List.mem_cons_self; exact this
      · exact hK b (List.mem_cons_of_mem _ hb)
inductive RP where
  | r (i lev : Int) : RP
  | a (i lev : Int) : RP
  | t (ps : List Ty) (i lev : Int) : RP
/-- The answer. -/
inductive Rf (S : Tk) (most : Int) : RP → Out → Prop where
  | deep {i lev} (h : most < lev) : Rf S most (.r i lev) (.err 4 i)
  | bad {i lev e j} (h : lev ≤ most) (x : Rf S most (.a i lev) (.err e j)) : Rf S most (.r i lev) (.err e j)
  | plain {i lev t j} (h : lev ≤ most) (x : Rf S most (.a i lev) (.done t j)) (hj : S.sg j ≠ 4) : Rf S most (.r i lev) (.done t j)
  | arrow {i lev t j u j'} (h : lev ≤ most) (x : Rf S most (.a i lev) (.done t j)) (hj : S.sg j = 4) (y : Rf S most (.r (j + 1) (lev + 1)) (.done u j')) : Rf S most (.r i lev) (.done (arrT t u) j')
  | abad {i lev t j e j'} (h : lev ≤ most) (x : Rf S most (.a i lev) (.done t j)) (hj : S.sg j = 4) (y : Rf S most (.r (j + 1) (lev + 1)) (.err e j')) : Rf S most (.r i lev) (.err e j')
  | leaf {i lev k n} (h : S.sg i ≠ 1) (hb : S.bs i = some (k, n)) : Rf S most (.a i lev) (.done (k, n, .nil) (i + 1))
  | none {i lev} (h : S.sg i ≠ 1) (hb : S.bs i = none) : Rf S most (.a i lev) (.err 3 i)
  | open_ {i lev p j o} (h : S.sg i = 1) (x : Rf S most (.r (i + 1) (lev + 1)) (.done p j)) (y : Rf S most (.t [p] j lev) o) : Rf S most (.a i lev) o
  | obad {i lev e j} (h : S.sg i = 1) (x : Rf S most (.r (i + 1) (lev + 1)) (.err e j)) : Rf S most (.a i lev) (.err e j)
  | many {ps j lev} (h : S.sg j = 3) (hl : 8 ≤ ps.length) : Rf S most (.t ps j lev) (.err 6 j)
  | mbad {ps j lev e j'} (h : S.sg j = 3) (hl : ps.length < 8) (x : Rf S most (.r (j + 1) (lev + 1)) (.err e j')) : Rf S most (.t ps j lev) (.err e j')
  | more {ps j lev p j' o} (h : S.sg j = 3) (hl : ps.length < 8) (x : Rf S most (.r (j + 1) (lev + 1)) (.done p j')) (y : Rf S most (.t (ps ++ [p]) j' lev) o) : Rf S most (.t ps j lev) o
  | form {ps j lev} (h : S.sg j ≠ 3) (h' : S.sg j ≠ 2) : Rf S most (.t ps j lev) (.err 3 j)
  | close {ps j lev} (h : S.sg j = 2) : Rf S most (.t ps j lev) (.done (tupTy ps) (j + 1))
/-- What is said of the answer's three questions. -/
def Meets (S : Tk) (most : Int) : RP → Out → Prop
  | .r i lev, o => ∀ K, lev ≤ most → (∀ e j, o = .err e j → M S most (.first i lev K) o) ∧ (∀ t j, o = .done t j → ∀ o', M S most (.ends t j lev K) o' → M S most (.first i lev K) o')
  | .a i lev, o => ∀ K, lev ≤ most → (∀ e j, o = .err e j → M S most (.first i lev K) o) ∧ (∀ t j, o = .done t j → ∀ o', M S most (.behind t j lev K) o' → M S most (.first i lev K) o')
  | .t l i lev, o => ∀ K ps t, l = ps ++ [t] → lev < most → ps.length ≤ 7 → (∀ e j, o = .err e j → M S most (.ends t i (lev + 1) (⟨false, lev, ps⟩ :: K)) o) ∧ (∀ u j, o = .done u j → ∀ o', M S most (.behind u j lev K) o' → M S most (.ends t i (lev + 1) (⟨false, lev, ps⟩ :: K)) o')
theorem deep_r {S : Tk} {most i : Int} {lev : Int} {o : Out} (h : Rf S most (.r i lev) o) (hl : most < lev) : o = .err 4 i := by
  cases h <;> first | rfl | omega
theorem Rf.meets {S : Tk} {most : Int} {p : RP} {o : Out} (h : Rf S most p o) : Meets S most p o := by
  induction h with
  | deep h => intro K hl; omega
  | bad h x ih =>
    intro K hl
    exact ⟨fun e j he => (ih K hl).1 e j he, fun t j he => by cases he⟩
  | plain h x hj ih =>
    intro K hl
    refine ⟨fun e j he => by (cases he), fun t j he o' ho' => ?_⟩
    cases he
    exact (ih K hl).2 _ _ rfl _ (.over hj ho')
  | @arrow i lev t j u j' h x hj y ihx ihy =>
    intro K hl
    refine ⟨fun e j he => by (cases he), fun t2 j2 he o' ho' => ?_⟩
    cases he
    refine (ihx K hl).2 _ _ rfl _ ?_
    by_cases hm : lev = most
    · have := deep_r y (by omega)
      cases this
    · exact .arrow hj hm ((ihy _ (by omega)).2 _ _ rfl _ (.out ho'))
  | @abad i lev t j e j' h x hj y ihx ihy =>
    intro K hl
    refine ⟨fun e2 j2 he => ?_, fun t2 j2 he => by (cases he)⟩
    cases he
    refine (ihx K hl).2 _ _ rfl _ ?_
    by_cases hm : lev = most
    · have := deep_r y (by omega)
      cases this
      exact .adeep hj hm
    · exact .arrow hj hm ((ihy _ (by omega)).1 _ _ rfl)
  | leaf h hb =>
    intro K hl
    refine ⟨fun e j he => by (cases he), fun t j he o' ho' => ?_⟩
    cases he
    exact .leaf h hb ho'
  | none h hb =>
    intro K hl
    exact ⟨fun e j he => .none h hb, fun t j he => by cases he⟩
  | @open_ i lev p j o h x y ihx ihy =>
    intro K hl
    by_cases hm : lev = most
    · have := deep_r x (by omega)
      cases this
    · have hy := ihy K [] p rfl (by omega) (by simp)
      refine ⟨fun e j he => ?_, fun u j he o' ho' => ?_⟩
      · exact .open_ h hm ((ihx _ (by omega)).2 _ _ rfl _ (hy.1 e j he))
      · exact .open_ h hm ((ihx _ (by omega)).2 _ _ rfl _ (hy.2 u j he o' ho'))
  | @obad i lev e j h x ihx =>
    intro K hl
    refine ⟨fun e2 j2 he => ?_, fun t j he => by (cases he)⟩
    by_cases hm : lev = most
    · have := deep_r x (by omega)
      cases this
      exact .deep h hm
    · exact .open_ h hm ((ihx _ (by omega)).1 _ _ rfl)
  | many h hl =>
    intro K ps t hps hm h7
    subst hps
    exact ⟨fun e j he => .many h (by simp at hl; omega), fun u j he => by cases he⟩
  | @mbad ps j lev e j' h hl x ihx =>
    intro K qs t hps hm h7
    subst hps
    refine ⟨fun e2 j2 he => ?_, fun u j he => by (cases he)⟩
    exact .more h (by simp at hl; omega) ((ihx _ (by omega)).1 _ _ rfl)
  | @more ps j lev p j' o h hl x y ihx ihy =>
    intro K qs t hps hm h7
    subst hps
    simp only [List.length_append, List.length_singleton] at hl
    have hy := ihy K (qs ++ [t]) p rfl hm (by simp; omega)
    refine ⟨fun e j he => ?_, fun u j he o' ho' => ?_⟩
    · exact .more h (by omega) ((ihx _ (by omega)).2 _ _ rfl _ (hy.1 e j he))
    · exact .more h (by omega) ((ihx _ (by omega)).2 _ _ rfl _ (hy.2 u j he o' ho'))
  | form h h' =>
    intro K ps t hps hm h7
    exact ⟨fun e j he => .form h' h, fun u j he => by cases he⟩
  | close h =>
    intro K ps t hps hm h7
    subst hps
    refine ⟨fun e j he => by (cases he), fun u j he o' ho' => ?_⟩
    cases he
    exact .close h ho'
/-- What the whole reader answers. -/
def RdIs (S : Tk) (most i lev : Int) (o : Out) : Prop := (most < lev ∧ o = .err 4 i) ∨ (lev ≤ most ∧ M S most (.first i lev []) o)
theorem Rf.is {S : Tk} {most i lev : Int} {o : Out} (h : Rf S most (.r i lev) o) : RdIs S most i lev o := by
  by_cases hl : most < lev
  · exact .inl ⟨hl, deep_r h hl⟩
  · refine .inr ⟨by omega, ?_⟩
    have := h.meets [] (by omega)
    cases o with
    | done t j => exact this.2 t j rfl _ .whole
    | err e j => exact this.1 e j rfl
theorem RdIs.one {S : Tk} {most i lev : Int} {o o' : Out} (h : RdIs S most i lev o) (h' : RdIs S most i lev o') : o = o' := by
  rcases h with ⟨h1, rfl⟩ | ⟨h1, h⟩ <;> rcases h' with ⟨h2, rfl⟩ | ⟨h2, h'⟩
  · rfl
  · omega
  · omega
  · exact h.one h'
theorem RdIs.more {S : Tk} {most i : Int} {o o' : Out} (h : RdIs S most i 1 o) (h' : RdIs S (most + 1) i 1 o') : (o.no ≠ 4 → o = o') ∧ (o.no = 4 → o.pos ≤ o'.pos) := by
  have side : (1 : Int) ≤ most → ((∀ i' lev K, Pos.first i 1 [] = .first i' lev K → lev ≤ most ∧ ∀ b ∈ K, b.lev ≤ most) ∧ (∀ t i' lev K, Pos.first i 1 [] = .behind t i' lev K → lev ≤ most ∧ ∀ b ∈ K, b.lev ≤ most) ∧ (∀ t i' lev K, Pos.first i 1 [] = .ends t i' lev K → lev ≤ most ∧ ∀ b ∈ K, b.lev ≤ most)) := by
    intro h
    refine ⟨?_, by intros; contradiction, by intros; contradiction⟩
    rintro _ _ _ ⟨⟩
    exact ⟨h, by simp⟩
  rcases h with ⟨h1, rfl⟩ | ⟨h1, h⟩
  · refine ⟨fun he => absurd rfl he, fun _ => ?_⟩
    rcases h' with ⟨h2, rfl⟩ | ⟨h2, h'⟩
    · exact Int.le_refl _
    · exact h'.pos
  · rcases h' with ⟨h2, rfl⟩ | ⟨h2, h'⟩
    · omega
    · obtain ⟨s1, s2, s3⟩ := side h1
      exact ⟨fun he => (h.more_levels he s1 s2 s3).one h', fun he => h.deep_levels he h' ⟨s1, s2, s3⟩⟩
end Go.Proofs.YtjmbkkpglkbppaaDoor
