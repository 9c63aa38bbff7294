/- Types that are read: what lies in memory while they are. Nothing here speaks of the program. -/
import Derived.Test.YtjmbkkpglkbppaaDoorSgP
import Derived.Test.YtjmbkkpglkbppaaDoorChB
import Derived.Test.YtjmbkkpglkbppaaDoorMemA
namespace Go.Proofs.YtjmbkkpglkbppaaDoor
open Go.RowKit

theorem img_idn (f : Fo) : Img id f f := by
  induction f with
  | nil => trivial
  | cons k n u ps r ih1 ih2 => exact ⟨rfl, by unfold nm; split <;> rfl, ih1, ih2⟩
/-- A list of types in memory that the call made: it hangs on blocks of types alone, and on none of A. -/
def FinT (T : TypeId) (B : Nat) (A : List Nat) (w : World) (f : Fo) (u : Sl) : Prop :=
  ∀ W : World, w.heap.size ≤ W.heap.size → (∀ (b : Nat) (cs : Array Value), B ≤ b → b ∉ A → w.heap[b]? = some (Obj.cells cs T) → W.heap[b]? = some (Obj.cells cs T)) → ∃ g, Img id f g ∧ TyV W.heap.size W g (slv u)
theorem FinT.to {T : TypeId} {B : Nat} {A A' : List Nat} {w w' : World} {f : Fo} {u : Sl} (h : FinT T B A w f u) (hs : w.heap.size ≤ w'.heap.size)
    (hc : ∀ (b : Nat) (cs : Array Value), B ≤ b → b ∉ A → w.heap[b]? = some (Obj.cells cs T) → b ∉ A' ∧ w'.heap[b]? = some (Obj.cells cs T)) : FinT T B A' w' f u :=
  fun W hs' hc' => h W (Nat.le_trans hs hs') fun b cs hb hA hl => hc' b cs hb (hc b cs hb hA hl).1 (hc b cs hb hA hl).2
theorem FinT.keep {T : TypeId} {B : Nat} {A : List Nat} {w w' : World} {f : Fo} {u : Sl} (h : FinT T B A w f u) (k : KeepT T w w') : FinT T B A w' f u :=
  h.to k.1 fun b cs _ hA hl => ⟨hA, k.2 b cs hl⟩
theorem FinT.less {T : TypeId} {B : Nat} {A A' : List Nat} {w : World} {f : Fo} {u : Sl} (h : FinT T B A w f u) (hA : ∀ b ∈ A', b ∈ A) : FinT T B A' w f u :=
  h.to (Nat.le_refl _) fun b _ _ hb hl => ⟨fun hb' => hb (hA b hb'), hl⟩
theorem FinT.fresh {T : TypeId} {B : Nat} {A : List Nat} {w : World} {f : Fo} {u : Sl} (h : FinT T B A w f u) : FreshT T B w id f u :=
  fun W hs hc => h W hs fun b cs hb _ hl => hc b cs hb hl
theorem fin_nil {T : TypeId} {B : Nat} {A : List Nat} {w : World} : FinT T B A w .nil (none, 0, 0) :=
  fun _ _ _ => ⟨.nil, trivial, tyV_nil.2 ⟨_, _, rfl⟩⟩
/-- A part: a type's cells, and what its parts are. -/
abbrev Pt := Int × Int × Sl × Fo
def ptC (p : Pt) : List Value := [.int .i64 p.1, .int .i64 p.2.1, slv p.2.2.1]
theorem ptC_len (L : List Pt) : (L.flatMap ptC).length = L.length * 3 := by
  induction L with
  | nil => rfl
  | cons p r ih => rw [List.flatMap_cons, List.length_append, ih, List.length_cons]; simp only [ptC, List.length_cons, List.length_nil]; omega
theorem ptC_one (L : List Pt) : ∀ u ∈ L.flatMap ptC, u.oneCell' = true := by
  intro u hu
  obtain ⟨p, _, hp⟩ := List.mem_flatMap.1 hu
  simp only [ptC, List.mem_cons, List.not_mem_nil, or_false] at hp
  rcases hp with rfl | rfl | rfl <;> rfl
def ptP (p : Pt) : Ty := (p.1, p.2.1, p.2.2.2)
/-- Parts that lie in a row read as types. -/
theorem parts_read {W : World} {b : Nat} (L : List Pt) (off : Nat) (hc : ∀ j u, (L.flatMap ptC)[j]? = some u → W.cell? ⟨b, off + j, none⟩ = some u) (hp : ∀ p ∈ L, ∃ g, Img id p.2.2.2 g ∧ TyV W.heap.size W g (slv p.2.2.1)) :
    ∃ G, Img id (tyL (L.map ptP)) G ∧ TyC W.heap.size W G b off := by
  induction L generalizing off with
  | nil => exact ⟨.nil, trivial, tyC_nil⟩
  | cons p r ih =>
    obtain ⟨g, hg, hv⟩ := hp p List.mem_cons_self
    simp only [List.flatMap_cons, ptC, List.cons_append, List.nil_append] at hc
    obtain ⟨G, hG, hC⟩ := ih (off + 3) (fun j u hu => by
      have := hc (j + 3) u (by simpa using hu)
      rwa [show off + (j + 3) = off + 3 + j by omega] at this) fun q hq => hp q (List.mem_cons_of_mem _ hq)
    refine ⟨.cons p.1 p.2.1 p.2.2.1 g G, ⟨rfl, ?_, hg, hG⟩, tyC_cons.2 ⟨hc 0 _ rfl, hc 1 _ rfl, hc 2 _ rfl, hv, hC⟩⟩
    unfold nm; split <;> rfl
/-- What is begun, in memory: its parts lie at a slice. -/
structure MF where
  arrow : Bool
  lev : Int
  v : Sl
  L : List Pt
def MF.fr (m : MF) : Fr := ⟨m.arrow, m.lev, m.L.map ptP⟩
def mfC (m : MF) : List Value := [.bool m.arrow, .int .i64 m.lev, slv m.v]
theorem mfC_len (ms : List MF) : (ms.flatMap mfC).length = ms.length * 3 := by
  induction ms with
  | nil => rfl
  | cons p r ih => rw [List.flatMap_cons, List.length_append, ih, List.length_cons]; simp only [mfC, List.length_cons, List.length_nil]; omega
theorem mfC_one (ms : List MF) : ∀ u ∈ ms.flatMap mfC, u.oneCell' = true := by
  intro u hu
  obtain ⟨p, _, hp⟩ := List.mem_flatMap.1 hu
  simp only [mfC, List.mem_cons, List.not_mem_nil, or_false] at hp
  rcases hp with rfl | rfl | rfl <;> rfl
/-- The blocks in which parts lie that are still to come. -/
def actB (m : MF) : List Nat := ((slv m.v).ownBlock).toList
def acts (ms : List MF) : List Nat := ms.flatMap actB
theorem acts_app (a b : List MF) : acts (a ++ b) = acts a ++ acts b := by simp [acts]
/-- What holds of what is begun. -/
structure FrI (T : TypeId) (B : Nat) (A : List Nat) (w : World) (ms : List MF) : Prop where
  row : ∀ m ∈ ms, w.ownsRow B T 3 (slv m.v) m.L.length (m.L.flatMap ptC)
  fin : ∀ m ∈ ms, ∀ p ∈ m.L, FinT T B A w p.2.2.2 p.2.2.1
theorem row_keepT {T : TypeId} {w w' : World} {base : Nat} {size : Nat} {v : Value} {n : Nat} {xs : List Value} (h : w.ownsRow base T size v n xs) (k : KeepT T w w') : w'.ownsRow base T size v n xs := by
  refine ⟨h.1, ?_⟩
  rcases h.2 with h2 | ⟨g, cap, cur, hv, hg, hh, r⟩
  · exact .inl h2
  · exact .inr ⟨g, cap, cur, hv, hg, k.2 g cur hh, r⟩
theorem FrI.keep {T : TypeId} {B : Nat} {A : List Nat} {w w' : World} {ms : List MF} (h : FrI T B A w ms) (k : KeepT T w w') : FrI T B A w' ms :=
  ⟨fun m hm => row_keepT (h.row m hm) k, fun m hm p hp => (h.fin m hm p hp).keep k⟩
theorem act_lt {T : TypeId} {B : Nat} {A : List Nat} {w : World} {ms : List MF} (h : FrI T B A w ms) : ∀ b ∈ acts ms, B ≤ b ∧ b < w.heap.size := by
  intro b hb
  obtain ⟨m, hm, hb⟩ := List.mem_flatMap.1 hb
  simp only [actB, Option.mem_toList] at hb
  rcases (h.row m hm).2 with ⟨e, _⟩ | ⟨g, cap, cur, e, hg, hh, _⟩
  · rw [e] at hb; simp [Value.ownBlock] at hb
  · rw [e] at hb
    simp only [Value.ownBlock, Option.some.injEq] at hb
    subst hb
    exact ⟨hg, (Array.getElem?_eq_some_iff.1 hh).1⟩
/-- A list of parts is whole: what they are a list of hangs on their row, and on what they hang on. -/
theorem fin_row {T : TypeId} {B : Nat} {A A' : List Nat} {w : World} {v : Sl} {L : List Pt} (hr : w.ownsRow B T 3 (slv v) L.length (L.flatMap ptC)) (hp : ∀ p ∈ L, FinT T B A w p.2.2.2 p.2.2.1)
    (hA : ∀ b ∈ A', b ∈ A) (hg : ∀ b, (slv v).ownBlock = some b → b ∉ A') : FinT T B A' w (tyL (L.map ptP)) v := by
  intro W hs hc
  have hparts : ∀ p ∈ L, ∃ g, Img id p.2.2.2 g ∧ TyV W.heap.size W g (slv p.2.2.1) := fun p hp' => hp p hp' W hs fun b cs hb hbA hl => hc b cs hb (fun h => hbA (hA b h)) hl
  rcases hr.2 with ⟨e, h0⟩ | ⟨g, cap, cur, e, hgB, hh, hnc, hcm, hcs, htake⟩
  · have : L = [] := List.eq_nil_of_length_eq_zero h0
    subst this
    exact ⟨.nil, trivial, by rw [e]; exact tyV_nil.2 ⟨_, _, rfl⟩⟩
  · have hW := hc g cur hgB (hg g (by rw [e]; rfl)) hh
    have hrow : W.ownsRow B T 3 (slv v) L.length (L.flatMap ptC) := ⟨hr.1, .inr ⟨g, cap, cur, e, hgB, hW, hnc, hcm, hcs, htake⟩⟩
    rw [e] at hrow ⊢
    obtain ⟨G, hG, hC⟩ := parts_read (W := W) (b := g) L 0 (fun j u hu => by
      have := hrow.cells (g := g) rfl j u hu
      rwa [Addr.add_lit] at this) hparts
    have hGl := hG.len
    rw [tyL_len, List.length_map] at hGl
    refine ⟨G, hG, ?_⟩
    cases G with
    | nil =>
      simp only [Fo.len] at hGl
      rw [← hGl]
      exact tyV_nil.2 ⟨_, _, rfl⟩
    | cons k n u ps r =>
      simp only [Fo.len] at hGl
      refine tyV_cons.2 ⟨g, 0, cap, by rw [← hGl], by omega, hcm, ?_, hC⟩
      exact (Array.getElem?_eq_some_iff.1 hW).1
/-- A part more. -/
theorem FrI.put {T : TypeId} {B : Nat} {X : List Nat} {w w' : World} {ms : List MF} {m : MF} {v' : Sl} {p : Pt} (h : FrI T B (X ++ acts (ms ++ [m])) w (ms ++ [m])) (hnd : (acts (ms ++ [m])).Nodup) (_hX : ∀ b ∈ X, b < w.heap.size)
    (hrow : w'.ownsRow B T 3 (slv v') (m.L.length + 1) (m.L.flatMap ptC ++ ptC p)) (hg : w.grownBy w' (slv m.v).ownBlock) (hat : (slv v').ownBlock = (slv m.v).ownBlock ∨ (slv v').ownBlock = some w.heap.size)
    (hp : FinT T B (X ++ acts (ms ++ [m])) w p.2.2.2 p.2.2.1) :
    FrI T B (X ++ acts (ms ++ [{ m with v := v', L := m.L ++ [p] }])) w' (ms ++ [{ m with v := v', L := m.L ++ [p] }]) ∧ (acts (ms ++ [{ m with v := v', L := m.L ++ [p] }])).Nodup := by
  have hlt := act_lt h
  have hsub : ∀ b ∈ actB { m with v := v', L := m.L ++ [p] }, b ∈ actB m ∨ b = w.heap.size := by
    intro b hb
    simp only [actB, Option.mem_toList] at hb ⊢
    rcases hat with e | e
    · exact .inl (e ▸ hb)
    · rw [e] at hb; exact .inr (by simpa using hb.symm)
  have hto : ∀ (b : Nat) (cs : Array Value), B ≤ b → b ∉ X ++ acts (ms ++ [m]) → w.heap[b]? = some (Obj.cells cs T) → b ∉ X ++ acts (ms ++ [{ m with v := v', L := m.L ++ [p] }]) ∧ w'.heap[b]? = some (Obj.cells cs T) := by
    intro b cs _ hb hl
    have hbl := (Array.getElem?_eq_some_iff.1 hl).1
    rw [acts_app] at hb
    simp only [acts, List.flatMap_cons, List.flatMap_nil, List.append_nil, List.mem_append, not_or] at hb
    refine ⟨?_, (hg.block b hbl fun e => hb.2.2 (by simp only [actB, Option.mem_toList]; exact e.symm)).trans hl⟩
    rw [acts_app]
    simp only [acts, List.flatMap_cons, List.flatMap_nil, List.append_nil, List.mem_append, not_or]
    refine ⟨hb.1, hb.2.1, fun h' => ?_⟩
    rcases hsub b h' with h' | h'
    · exact hb.2.2 h'
    · omega
  rw [acts_app] at hnd
  have hnd2 := List.nodup_append.1 hnd
  refine ⟨⟨fun x hx => ?_, fun x hx q hq => ?_⟩, ?_⟩
  · rcases List.mem_append.1 hx with hx' | hx'
    · have hr := h.row x (List.mem_append_left _ hx')
      refine hr.kept hg ?_
      rcases e : (slv x.v).ownBlock with _ | b
      · exact .inl rfl
      · refine .inr fun e' => ?_
        have h1 : b ∈ acts ms := List.mem_flatMap.2 ⟨x, hx', by simp only [actB, Option.mem_toList]; exact e⟩
        have h2 : b ∈ acts [m] := by simp only [acts, List.flatMap_cons, List.flatMap_nil, List.append_nil, actB, Option.mem_toList]; exact e'.symm
        exact hnd2.2.2 b h1 b h2 rfl
    · obtain rfl := List.mem_singleton.1 hx'
      simp only [List.length_append, List.length_singleton, List.flatMap_append, List.flatMap_cons, List.flatMap_nil, List.append_nil]
      exact hrow
  · rcases List.mem_append.1 hx with hx' | hx'
    · exact (h.fin x (List.mem_append_left _ hx') q hq).to hg.size hto
    · obtain rfl := List.mem_singleton.1 hx'
      rcases List.mem_append.1 hq with hq | hq
      · exact (h.fin m (List.mem_append_right _ (List.mem_singleton.2 rfl)) q hq).to hg.size hto
      · obtain rfl := List.mem_singleton.1 hq
        exact hp.to hg.size hto
  · rw [acts_app]
    refine List.nodup_append.2 ⟨hnd2.1, ?_, fun a ha b hb => ?_⟩
    · simp only [acts, List.flatMap_cons, List.flatMap_nil, List.append_nil, actB]
      rcases (slv v').ownBlock with _ | b <;> simp
    · simp only [acts, List.flatMap_cons, List.flatMap_nil, List.append_nil] at hb
      rcases hsub b hb with hb | hb
      · exact hnd2.2.2 a ha b (by simpa [acts] using hb)
      · rintro rfl
        have := hlt a (by rw [acts_app]; exact List.mem_append_left _ ha)
        omega
/-- The last that is begun, whole. -/
theorem FrI.take {T : TypeId} {B : Nat} {X : List Nat} {w : World} {ms : List MF} {m : MF} (h : FrI T B (X ++ acts (ms ++ [m])) w (ms ++ [m])) (hnd : (acts (ms ++ [m])).Nodup) (hX : ∀ b, (slv m.v).ownBlock = some b → b ∉ X) :
    FrI T B (X ++ acts ms) w ms ∧ (acts ms).Nodup ∧ FinT T B (X ++ acts ms) w (tyL (m.L.map ptP)) m.v := by
  rw [acts_app] at hnd h
  have hnd2 := List.nodup_append.1 hnd
  have hless : ∀ b ∈ X ++ acts ms, b ∈ X ++ (acts ms ++ acts [m]) := by
    intro b hb
    rcases List.mem_append.1 hb with hb | hb
    · exact List.mem_append_left _ hb
    · exact List.mem_append_right _ (List.mem_append_left _ hb)
  refine ⟨⟨fun x hx => h.row x (List.mem_append_left _ hx), fun x hx q hq => (h.fin x (List.mem_append_left _ hx) q hq).less hless⟩, hnd2.1, ?_⟩
  refine fin_row (h.row m (List.mem_append_right _ (List.mem_singleton.2 rfl))) (h.fin m (List.mem_append_right _ (List.mem_singleton.2 rfl))) hless fun b e hb => ?_
  rcases List.mem_append.1 hb with hb | hb
  · exact hX b e hb
  · exact hnd2.2.2 b hb b (by simp only [acts, List.flatMap_cons, List.flatMap_nil, List.append_nil, actB, Option.mem_toList]; exact e) rfl
/-- What the newly laid blocks are, no type that was there hangs on. -/
theorem FinT.aside {T : TypeId} {B : Nat} {A X : List Nat} {w w' : World} {f : Fo} {u : Sl} (h : FinT T B A w f u) (k : KeepT T w w') (hX : ∀ b ∈ X, w.heap.size ≤ b) : FinT T B (X ++ A) w' f u :=
  h.to k.1 fun b cs _ hA hl => ⟨fun hb => by
    rcases List.mem_append.1 hb with hb | hb
    · have := hX b hb
      have := (Array.getElem?_eq_some_iff.1 hl).1
      omega
    · exact hA hb, k.2 b cs hl⟩
theorem FrI.aside {T : TypeId} {B : Nat} {A X : List Nat} {w w' : World} {ms : List MF} (h : FrI T B A w ms) (k : KeepT T w w') (hX : ∀ b ∈ X, w.heap.size ≤ b) : FrI T B (X ++ A) w' ms :=
  ⟨fun m hm => row_keepT (h.row m hm) k, fun m hm p hp => (h.fin m hm p hp).aside k hX⟩
/-- What lay aside may be written to. -/
theorem FinT.back {T : TypeId} {B : Nat} {A X : List Nat} {w w' : World} {f : Fo} {u : Sl} (h : FinT T B (X ++ A) w f u) (hs : w.heap.size ≤ w'.heap.size) (k : ∀ (b : Nat) (cs : Array Value), b ∉ X → w.heap[b]? = some (Obj.cells cs T) → w'.heap[b]? = some (Obj.cells cs T)) : FinT T B A w' f u :=
  h.to hs fun b cs _ hA hl => ⟨fun hb => hA (List.mem_append_right _ hb), k b cs (fun hb => hA (List.mem_append_left _ hb)) hl⟩
theorem FrI.back {T : TypeId} {B : Nat} {A X : List Nat} {w w' : World} {ms : List MF} (h : FrI T B (X ++ A) w ms) (hs : w.heap.size ≤ w'.heap.size) (k : ∀ (b : Nat) (cs : Array Value), b ∉ X → w.heap[b]? = some (Obj.cells cs T) → w'.heap[b]? = some (Obj.cells cs T))
    (hX : ∀ m ∈ ms, ∀ b, (slv m.v).ownBlock = some b → b ∉ X) : FrI T B A w' ms := by
  refine ⟨fun m hm => ?_, fun m hm p hp => (h.fin m hm p hp).back hs k⟩
  have hr := h.row m hm
  refine ⟨hr.1, ?_⟩
  rcases hr.2 with h2 | ⟨g, cap, cur, hv, hg, hh, r⟩
  · exact .inl h2
  · exact .inr ⟨g, cap, cur, hv, hg, k g cur (hX m hm g (by rw [hv]; rfl)) hh, r⟩
/-- One more is begun. -/
theorem FrI.push {T : TypeId} {B : Nat} {w : World} {ms : List MF} {m : MF} (h : FrI T B (acts ms) w ms) (hnd : (acts ms).Nodup) (hrow : w.ownsRow B T 3 (slv m.v) m.L.length (m.L.flatMap ptC))
    (hfin : ∀ p ∈ m.L, FinT T B (acts (ms ++ [m])) w p.2.2.2 p.2.2.1) (hfs : ∀ x ∈ ms, ∀ p ∈ x.L, FinT T B (acts (ms ++ [m])) w p.2.2.2 p.2.2.1) (hne : ∀ b, (slv m.v).ownBlock = some b → b ∉ acts ms) :
    FrI T B (acts (ms ++ [m])) w (ms ++ [m]) ∧ (acts (ms ++ [m])).Nodup := by
  refine ⟨⟨fun x hx => ?_, fun x hx q hq => ?_⟩, ?_⟩
  · rcases List.mem_append.1 hx with hx | hx
    · exact h.row x hx
    · obtain rfl := List.mem_singleton.1 hx; exact hrow
  · rcases List.mem_append.1 hx with hx | hx
    · exact hfs x hx q hq
    · obtain rfl := List.mem_singleton.1 hx; exact hfin q hq
  · rw [acts_app]
    refine List.nodup_append.2 ⟨hnd, ?_, fun a ha b hb => ?_⟩
    · simp only [acts, List.flatMap_cons, List.flatMap_nil, List.append_nil, actB]
      rcases (slv m.v).ownBlock with _ | b <;> simp
    · rintro rfl
      simp only [acts, List.flatMap_cons, List.flatMap_nil, List.append_nil, actB, Option.mem_toList] at hb
      exact hne a hb ha
end Go.Proofs.YtjmbkkpglkbppaaDoor
