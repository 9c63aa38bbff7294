/- Texts of one proof, one behind the other. -/
import Derived.Test.YtmamdiggjghjkaaGreatDoorMgSolveOrder10
import Derived.Test.YtmamdiggjghjkaaGreatDoorMgSolveOrder1
import Derived.Test.YtmamdiggjghjkaaGreatDoorMgSolveOrder13
import Derived.Test.YtmamdiggjghjkaaGreatDoorMgSolveOrder11
import Derived.Test.YtmamdiggjghjkaaGreatDoorMgSolveOrder7
set_option linter.unusedVariables false
namespace Go.Proofs.YtmamdiggjghjkaaGreatDoor
section
inductive Cl (G:List Gn) (E:List (Nat×Nat)):Nat→Nat→Prop where
 | eq {a b:Nat} (h:(a,b)∈E):Cl G E a b
 | refl (a:Nat):Cl G E a a
 | symm {a b:Nat} (h:Cl G E a b):Cl G E b a
 | trans {a b d:Nat} (h:Cl G E a b) (k:Cl G E b d):Cl G E a d
 | part {x y a b j:Nat} {p q:Gn} (h:Cl G E x y) (hp:G[x]? = some p) (hq:G[y]? = some q) (p1:p.1≠1) (q1:q.1≠1) (hk:p.1=q.1) (hl:p.2.2.2.length=q.2.2.2.length) (ha:p.2.2.2[j]? = some a) (hb:q.2.2.2[j]? = some b):Cl G E a b
def Fit (p q:Gn):Prop:=p.1=q.1∧p.2.2.2.length=q.2.2.2.length
def Clash (G:List Gn) (E:List (Nat×Nat)):Prop:=∃x y p q,Cl G E x y∧G[x]? = some p∧G[y]? = some q∧p.1≠1∧q.1≠1∧¬ Fit p q
theorem Cl.more {G H:List Gn}{E F:List (Nat×Nat)}(hG:∀(i:Nat) (p:Gn),G[i]? = some p→H[i]? = some p) (hE:∀e,e∈E→e∈F) {a b:Nat}(h:Cl G E a b):Cl H F a b:=by
 induction h with
 | eq h=>exact .eq (hE _ h)
 | refl a=>exact .refl a
 | symm _ ih=>exact .symm ih
 | trans _ _ i1 i2=>exact .trans i1 i2
 | part _ hp hq p1 q1 hk hl ha hb ih=>exact .part ih (hG _ _ hp) (hG _ _ hq) p1 q1 hk hl ha hb
theorem Clash.more {G H:List Gn}{E F:List (Nat×Nat)}(hG:∀(i:Nat) (p:Gn),G[i]? = some p→H[i]? = some p) (hE:∀e,e∈E→e∈F) (h:Clash G E):Clash H F:=by
 obtain ⟨x,y,p,q,h1,h2,h3,h4⟩:=h
 exact ⟨x,y,p,q,h1.more hG hE,hG _ _ h2,hG _ _ h3,h4⟩
inductive Gen (n:Nat) (c:Nat→Nat) (T:List (Nat×Nat)):Nat→Nat→Prop where
 | col {a b:Nat} (ha:a<n) (hb:b<n) (h:c a=c b):Gen n c T a b
 | todo {a b:Nat} (h:(a,b)∈T):Gen n c T a b
 | symm {a b:Nat} (h:Gen n c T a b):Gen n c T b a
 | trans {a b d:Nat} (h:Gen n c T a b) (k:Gen n c T b d):Gen n c T a d
theorem Gen.none {n:Nat}{c:Nat→Nat}{a b:Nat}(h:Gen n c [] a b):a<n∧b<n∧c a=c b:=by
 induction h with
 | col ha hb h=>exact ⟨ha,hb,h⟩
 | todo h=>cases h
 | symm _ ih=>exact ⟨ih.2.1,ih.1,ih.2.2.symm⟩
 | trans _ _ i1 i2=>exact ⟨i1.1,i2.2.1,i1.2.2.trans i2.2.2⟩
theorem Gen.more {n m:Nat}{c d:Nat→Nat}{T U:List (Nat×Nat)}(hc:∀a b,a<n→b<n→c a=c b→Gen m d U a b) (hT:∀a b,(a,b)∈T→Gen m d U a b) {a b:Nat}(h:Gen n c T a b):Gen m d U a b:=by
 induction h with
 | col ha hb h=>exact hc _ _ ha hb h
 | todo h=>exact hT _ _ h
 | symm _ ih=>exact .symm ih
 | trans _ _ i1 i2=>exact .trans i1 i2
structure Jn (G:List Gn) (c:Nat→Nat) (E T:List (Nat×Nat)):Prop where
 sound:∀i j,i<G.length→j<G.length→c i=c j→Cl G E i j
 todo:∀a b,(a,b)∈T→a<G.length∧b<G.length∧Cl G E a b
 eqs:∀a b,(a,b)∈E→Gen G.length c T a b
 fit:∀(x y:Nat) (p q:Gn),G[x]? = some p→G[y]? = some q→c x=c y→p.1≠1→q.1≠1→Fit p q∧∀(j a b:Nat),p.2.2.2[j]? = some a→q.2.2.2[j]? = some b→Gen G.length c T a b
 parts:∀(x:Nat) (p:Gn),G[x]? = some p→∀a∈p.2.2.2,a<G.length
theorem lt_of_get {α:Type}{L:List α}{i:Nat}{x:α}(h:L[i]? = some x):i<L.length:=(List.getElem?_eq_some_iff.1 h).1
theorem Jn.done {G:List Gn}{c:Nat→Nat}{E:List (Nat×Nat)}(h:Jn G c E []) {a b:Nat}:Cl G E a b↔a=b∨(a<G.length∧b<G.length∧c a=c b):=by
 constructor
 ·intro k
  induction k with
  | eq e=>exact .inr (h.eqs _ _ e).none
  | refl a=>exact .inl rfl
  | symm _ ih=>exact ih.elim (fun e=>.inl e.symm) fun e=>.inr ⟨e.2.1,e.1,e.2.2.symm⟩
  | trans _ _ i1 i2=>
   rcases i1 with rfl|i1
   ·exact i2
   ·rcases i2 with rfl|i2
    ·exact .inr i1
    ·exact .inr ⟨i1.1,i2.2.1,i1.2.2.trans i2.2.2⟩
  | part _ hp hq p1 q1 _ _ ha hb ih=>
   rcases ih with rfl|ih
   ·rw [hp] at hq
    cases hq
    rw [ha] at hb
    exact .inl (Option.some.inj hb)
   ·exact .inr ((h.fit _ _ _ _ hp hq ih.2.2 p1 q1).2 _ _ _ ha hb).none
 ·rintro (rfl|⟨h1,h2,h3⟩)
  ·exact .refl _
  ·exact h.sound _ _ h1 h2 h3
theorem Jn.noClash {G:List Gn}{c:Nat→Nat}{E:List (Nat×Nat)}(h:Jn G c E []):¬ Clash G E:=by
 rintro ⟨x,y,p,q,h1,hp,hq,p1,q1,hf⟩
 rcases h.done.1 h1 with rfl|⟨_,_,h3⟩
 ·rw [hp] at hq
  cases hq
  exact hf ⟨rfl,rfl⟩
 ·exact hf (h.fit _ _ _ _ hp hq h3 p1 q1).1
theorem Jn.skip {G:List Gn}{c:Nat→Nat}{E T U:List (Nat×Nat)}{a b:Nat}(h:Jn G c E U) (hU:∀e,e∈U↔e=(a,b)∨e∈T) (hab:c a=c b):Jn G c E T:=by
 obtain ⟨ha,hb,_⟩:=h.todo a b ((hU _).2 (.inl rfl))
 have hg:∀ {x y:Nat},Gen G.length c U x y→Gen G.length c T x y:=fun hx=>hx.more (fun _ _ x1 x2 x3=>.col x1 x2 x3) fun x y hxy=>by
  rcases (hU _).1 hxy with e|e
  ·cases e;exact .col ha hb hab
  ·exact .todo e
 exact ⟨h.sound,fun x y hxy=>h.todo x y ((hU _).2 (.inr hxy)),fun x y hxy=>hg (h.eqs x y hxy),fun x y p q hp hq hc p1 q1=>⟨(h.fit x y p q hp hq hc p1 q1).1,fun j u v hu hv=>hg ((h.fit x y p q hp hq hc p1 q1).2 j u v hu hv)⟩,h.parts⟩
theorem Jn.join {G:List Gn}{c d:Nat→Nat}{E T U V:List (Nat×Nat)}{a b:Nat}(h:Jn G c E U) (hU:∀e,e∈U↔e=(a,b)∨e∈T)
  (hd:∀i j,d i=d j↔(c i=c j∨(c i=c a∨c i=c b)∧(c j=c a∨c j=c b)))
  (hT:∀e,e∈T→e∈V)
  (hV:∀x y,(x,y)∈V→(x,y)∈T∨(x<G.length∧y<G.length∧Cl G E x y))
  (hab:∀(x y:Nat) (p q:Gn),G[x]? = some p→G[y]? = some q→c x=c a→c y=c b→p.1≠1→q.1≠1→Fit p q∧∀(j u v:Nat),p.2.2.2[j]? = some u→q.2.2.2[j]? = some v→Gen G.length d V u v):Jn G d E V:=by
 obtain ⟨ha,hb,hCab⟩:=h.todo a b ((hU _).2 (.inl rfl))
 have hdab:d a=d b:=(hd a b).2 (.inr ⟨.inl rfl,.inr rfl⟩)
 have hg:∀ {x y:Nat},Gen G.length c U x y→Gen G.length d V x y:=fun hx=>hx.more (fun x y x1 x2 x3=>.col x1 x2 ((hd x y).2 (.inl x3))) fun x y hxy=>by
  rcases (hU _).1 hxy with e|e
  ·cases e;exact .col ha hb hdab
  ·exact .todo (hT _ e)
 have hs:∀i,i<G.length→(c i=c a∨c i=c b)→Cl G E i a:=fun i hi e=>by
  rcases e with e|e
  ·exact h.sound i a hi ha e
  ·exact (h.sound i b hi hb e).trans hCab.symm
 refine ⟨fun i j hi hj e=>?_,fun x y hxy=>?_,fun x y hxy=>hg (h.eqs x y hxy),fun x y p q hp hq hc p1 q1=>?_,h.parts⟩
 ·rcases (hd i j).1 e with e|⟨e1,e2⟩
  ·exact h.sound i j hi hj e
  ·exact (hs i hi e1).trans (hs j hj e2).symm
 ·rcases hV x y hxy with e|e
  ·exact h.todo x y ((hU _).2 (.inr e))
  ·exact e
 ·rcases (hd x y).1 hc with e|⟨e1,e2⟩
  ·exact ⟨(h.fit x y p q hp hq e p1 q1).1,fun j u v hu hv=>hg ((h.fit x y p q hp hq e p1 q1).2 j u v hu hv)⟩
  ·rcases e1 with e1|e1
   ·rcases e2 with e2|e2
    ·exact ⟨(h.fit x y p q hp hq (e1.trans e2.symm) p1 q1).1,fun j u v hu hv=>hg ((h.fit x y p q hp hq (e1.trans e2.symm) p1 q1).2 j u v hu hv)⟩
    ·exact hab x y p q hp hq e1 e2 p1 q1
   ·rcases e2 with e2|e2
    ·obtain ⟨f1,f2⟩:=hab y x q p hq hp e2 e1 q1 p1
     exact ⟨⟨f1.1.symm,f1.2.symm⟩,fun j u v hu hv=>(f2 j v u hv hu).symm⟩
    ·exact ⟨(h.fit x y p q hp hq (e1.trans e2.symm) p1 q1).1,fun j u v hu hv=>hg ((h.fit x y p q hp hq (e1.trans e2.symm) p1 q1).2 j u v hu hv)⟩
structure Md (G:List Gn) (c:Nat→Nat) (m:Nat→Option Nat):Prop where
 col:∀i j,i<G.length→j<G.length→c i=c j→m i=m j
 none:∀(i:Nat) (p:Gn),G[i]? = some p→m i=none→p.1=1
 some:∀i k,i<G.length→m i=some k→∃q:Gn,G[k]? = some q∧q.1≠1∧c k=c i
def pairs (l r:List Nat):List (Nat×Nat):=l.zip r
theorem Md.join {G:List Gn}{c d:Nat→Nat}{m:Nat→Option Nat}(h:Md G c m) {a b:Nat}(ha:a<G.length) (hb:b<G.length)
  (hd:∀i j,d i=d j↔(c i=c j∨(c i=c a∨c i=c b)∧(c j=c a∨c j=c b))):Md G d fun i=>if c i=c a∨c i=c b then (m a).or (m b) else m i:=by
 refine ⟨fun i j hi hj e=>?_,fun i p hp e=>?_,fun i k hi e=>?_⟩
 ·rcases (hd i j).1 e with e|⟨e1,e2⟩
  ·simp only [e]
   split
   ·rfl
   ·exact h.col i j hi hj e
  ·simp only [e1,e2,if_true]
 ·have hi:=lt_of_get hp
  by_cases hc:c i=c a∨c i=c b
  ·simp only [hc,if_true,Option.or_eq_none_iff] at e
   rcases hc with hc|hc
   ·exact h.none i p hp ((h.col i a hi ha hc).trans e.1)
   ·exact h.none i p hp ((h.col i b hi hb hc).trans e.2)
  ·simp only [hc,if_false] at e
   exact h.none i p hp e
 ·by_cases hc:c i=c a∨c i=c b
  ·simp only [hc,if_true,Option.or_eq_some_iff] at e
   rcases e with e|⟨_,e⟩
   ·obtain ⟨q,h1,h2,h3⟩:=h.some a k ha e
    exact ⟨q,h1,h2,(hd k i).2 (.inr ⟨.inl h3,hc⟩)⟩
   ·obtain ⟨q,h1,h2,h3⟩:=h.some b k hb e
    exact ⟨q,h1,h2,(hd k i).2 (.inr ⟨.inr h3,hc⟩)⟩
  ·simp only [hc,if_false] at e
   obtain ⟨q,h1,h2,h3⟩:=h.some i k hi e
   exact ⟨q,h1,h2,(hd k i).2 (.inl h3)⟩
theorem mem_pairs {l r:List Nat}{x y:Nat}:(x,y)∈pairs l r↔∃j:Nat,l[j]? = some x∧r[j]? = some y:=by
 unfold pairs
 constructor
 ·intro h
  obtain ⟨j,hj⟩:=List.mem_iff_getElem?.1 h
  rw [List.getElem?_zip_eq_some] at hj
  exact ⟨j,hj⟩
 ·rintro ⟨j,h1,h2⟩
  exact List.mem_iff_getElem?.2 ⟨j,List.getElem?_zip_eq_some.2 ⟨h1,h2⟩⟩
theorem Jn.joinVar {G:List Gn}{c d:Nat→Nat}{m:Nat→Option Nat}{E T U:List (Nat×Nat)}{a b:Nat}(h:Jn G c E U) (hM:Md G c m) (hU:∀e,e∈U↔e=(a,b)∨e∈T)
  (hd:∀i j,d i=d j↔(c i=c j∨(c i=c a∨c i=c b)∧(c j=c a∨c j=c b))) (hm:m a=none∨m b=none):Jn G d E T:=by
 obtain ⟨ha,hb,_⟩:=h.todo a b ((hU _).2 (.inl rfl))
 refine h.join hU hd (fun _ h=>h) (fun _ _ h=>.inl h) fun x y p q hp hq hx hy p1 q1=>?_
 rcases hm with hm|hm
 ·exact absurd (hM.none x p hp ((hM.col x a (lt_of_get hp) ha hx).trans hm)) p1
 ·exact absurd (hM.none y q hq ((hM.col y b (lt_of_get hq) hb hy).trans hm)) q1
theorem Jn.joinBoth {G:List Gn}{c d:Nat→Nat}{m:Nat→Option Nat}{E T U V:List (Nat×Nat)}{a b k l:Nat}{p q:Gn}(h:Jn G c E U) (hM:Md G c m) (hU:∀e,e∈U↔e=(a,b)∨e∈T)
  (hd:∀i j,d i=d j↔(c i=c j∨(c i=c a∨c i=c b)∧(c j=c a∨c j=c b))) (hk:m a=some k) (hl:m b=some l) (hp:G[k]? = some p) (hq:G[l]? = some q) (hf:Fit p q)
  (hV:∀e,e∈V↔e∈T∨e∈pairs p.2.2.2 q.2.2.2):Jn G d E V:=by
 obtain ⟨ha,hb,hC⟩:=h.todo a b ((hU _).2 (.inl rfl))
 obtain ⟨p',hp',p1,hka⟩:=hM.some a k ha hk
 obtain ⟨q',hq',q1,hlb⟩:=hM.some b l hb hl
 rw [hp] at hp';cases hp'
 rw [hq] at hq';cases hq'
 have hkl:Cl G E k l:=((h.sound k a (lt_of_get hp) ha hka).trans hC).trans (h.sound l b (lt_of_get hq) hb hlb).symm
 have hg:∀ {x y:Nat},Gen G.length c U x y→Gen G.length d V x y:=fun hx=>hx.more (fun x y x1 x2 x3=>.col x1 x2 ((hd x y).2 (.inl x3))) fun x y hxy=>by
  rcases (hU _).1 hxy with e|e
  ·cases e;exact .col ha hb ((hd a b).2 (.inr ⟨.inl rfl,.inr rfl⟩))
  ·exact .todo ((hV _).2 (.inl e))
 refine h.join hU hd (fun _ h=>(hV _).2 (.inl h)) (fun x y hxy=>?_) fun x y p2 q2 hp2 hq2 hx hy p21 q21=>?_
 ·refine ((hV _).1 hxy).imp id fun hpq=>?_
  obtain ⟨j,h1,h2⟩:=mem_pairs.1 hpq
  exact ⟨h.parts k p hp x (List.mem_of_getElem? h1),h.parts l q hq y (List.mem_of_getElem? h2),.part hkl hp hq p1 q1 hf.1 hf.2 h1 h2⟩
 ·obtain ⟨f1,f2⟩:=h.fit x k p2 p hp2 hp (hx.trans hka.symm) p21 p1
  obtain ⟨g1,g2⟩:=h.fit y l q2 q hq2 hq (hy.trans hlb.symm) q21 q1
  refine ⟨⟨f1.1.trans (hf.1.trans g1.1.symm),f1.2.trans (hf.2.trans g1.2.symm)⟩,fun j u v hu hv=>?_⟩
  have hj:=lt_of_get hu
  obtain ⟨x1,hx1⟩:∃x1,p.2.2.2[j]? = some x1:=⟨_,List.getElem?_eq_getElem (by have:=f1.2;omega)⟩
  obtain ⟨y1,hy1⟩:∃y1,q.2.2.2[j]? = some y1:=⟨_,List.getElem?_eq_getElem (by have:=f1.2;have:=hf.2;omega)⟩
  exact ((hg (f2 j u x1 hu hx1)).trans (.todo ((hV _).2 (.inr (mem_pairs.2 ⟨j,hx1,hy1⟩))))).trans (hg (g2 j v y1 hv hy1)).symm
theorem Jn.clash {G:List Gn}{c:Nat→Nat}{m:Nat→Option Nat}{E U:List (Nat×Nat)}{a b k l:Nat}{p q:Gn}(h:Jn G c E U) (hM:Md G c m) (hU:(a,b)∈U)
  (hk:m a=some k) (hl:m b=some l) (hp:G[k]? = some p) (hq:G[l]? = some q) (hf:¬ Fit p q):Clash G E:=by
 obtain ⟨ha,hb,hC⟩:=h.todo a b hU
 obtain ⟨p',hp',p1,hka⟩:=hM.some a k ha hk
 obtain ⟨q',hq',q1,hlb⟩:=hM.some b l hb hl
 rw [hp] at hp';cases hp'
 rw [hq] at hq';cases hq'
 exact ⟨k,l,p,q,((h.sound k a (lt_of_get hp) ha hka).trans hC).trans (h.sound l b (lt_of_get hq) hb hlb).symm,hp,hq,p1,q1,hf⟩
theorem Jn.grow {G A:List Gn}{c d:Nat→Nat}{E:List (Nat×Nat)}{a b:Nat}(h:Jn G c E []) (hd:∀i j,i<(G++A).length→j<(G++A).length→(d i=d j↔i=j∨(i<G.length∧j<G.length∧c i=c j)))
  (ha:a<(G++A).length) (hb:b<(G++A).length) (hp:∀(x:Nat) (p:Gn),(G++A)[x]? = some p→∀u∈p.2.2.2,u<(G++A).length):Jn (G++A) d (E ++ [(a,b)]) [(a,b)]:=by
 have hG:∀(i:Nat) (p:Gn),G[i]? = some p→(G++A)[i]? = some p:=fun i p hi=>(List.getElem?_append_left (lt_of_get hi)).trans hi
 have hE:∀e,e∈E→e∈E ++ [(a,b)]:=fun e he=>List.mem_append_left _ he
 have hlen:G.length≤(G++A).length:=by simp
 have hg:∀ {x y:Nat},Gen G.length c [] x y→Gen (G++A).length d [(a,b)] x y:=fun hx=>by
  obtain ⟨h1,h2,h3⟩:=hx.none
  exact .col (by omega) (by omega) ((hd _ _ (by omega) (by omega)).2 (.inr ⟨h1,h2,h3⟩))
 refine ⟨fun i j hi hj e=>?_,fun x y hxy=>?_,fun x y hxy=>?_,fun x y p q hx hy e p1 q1=>?_,hp⟩
 ·rcases (hd i j hi hj).1 e with rfl|⟨h1,h2,h3⟩
  ·exact .refl _
  ·exact (h.sound i j h1 h2 h3).more hG hE
 ·simp only [List.mem_cons,List.not_mem_nil,or_false,Prod.mk.injEq] at hxy
  obtain ⟨rfl,rfl⟩:=hxy
  exact ⟨ha,hb,.eq (by simp)⟩
 ·rcases List.mem_append.1 hxy with e|e
  ·exact hg (h.eqs x y e)
  ·exact .todo e
 ·rcases (hd x y (lt_of_get hx) (lt_of_get hy)).1 e with rfl|⟨h1,h2,h3⟩
  ·rw [hx] at hy;cases hy
   refine ⟨⟨rfl,rfl⟩,fun j u v hu hv=>?_⟩
   rw [hu] at hv;cases hv
   have:=hp x p hx u (List.mem_of_getElem? hu)
   exact .col this this rfl
  ·have hx':G[x]? = some p:=by rw [List.getElem?_append_left h1] at hx;exact hx
   have hy':G[y]? = some q:=by rw [List.getElem?_append_left h2] at hy;exact hy
   obtain ⟨f1,f2⟩:=h.fit x y p q hx' hy' h3 p1 q1
   exact ⟨f1,fun j u v hu hv=>hg (f2 j u v hu hv)⟩
end
section
open Go.RowKit
open Un (Else StM rowI UFo own_else dg)
set_option maxRecDepth 100000
def oi:Option Nat→Int
 | some k=>k
 | none=>-1
abbrev Kn:=Nat→Option Nat×Option Nat
def knR (n:Nat) (kn:Kn):List Value:=(List.range n).flatMap fun i=>[.int .i64 (oi (kn i).1),.int .i64 (oi (kn i).2)]
structure Adr where
 g:Nat
 mb:Nat
 V:Value
 L:List Nd
 f0:Nat
 c:Nat
 fo:Nat
 ob:Nat
 K:Value
 N:Value
 S:Nat→Prop
def Adr.D (A:Adr) (k:Nat):Prop:=k=A.g∨k=A.mb∨A.V.ownBlock=some k∨∃x∈A.L,(slv x.2.2.2).ownBlock=some k
def Adr.F (A:Adr) (cb:Nat) (k:Nat):Prop:=A.S k∨k=cb∨k=A.ob∨k=A.f0∨A.K.ownBlock=some k∨A.N.ownBlock=some k
theorem NdL.stay {B:Nat}{w w':World}{L:List Nd}{G:List Gn}(h:NdL B w L G) (hk:∀x∈L,∀b,(slv x.2.2.2).ownBlock=some b→w'.heap[b]? = w.heap[b]?):NdL B w' L G:=by
 induction L generalizing G with
 | nil=>cases G with
  | nil=>trivial
  | cons=>exact h.elim
 | cons x L ih=>cases G with
  | nil=>exact h.elim
  | cons y G=>
   obtain ⟨⟨h1,h2,h3,h4⟩,h5⟩:=h
   refine ⟨⟨h1,h2,h3,h4.1,?_⟩,ih h5 fun z hz=>hk z (List.mem_cons_of_mem _ hz)⟩
   rcases h4.2 with h|⟨g,cap,cur,hv,hb,hg,hr⟩
   ·exact .inl h
   ·exact .inr ⟨g,cap,cur,hv,hb,(hk x List.mem_cons_self g (by rw [hv];rfl)).trans hg,hr⟩
theorem GrM.stay {B:Nat}{w w':World}{A:Adr}{G:List Gn}(h:GrM B w A.g A.V A.mb A.L G) (hk:∀k,A.D k→w'.heap[k]? = w.heap[k]?):GrM B w' A.g A.V A.mb A.L G:=by
 refine ⟨(hk _ (.inl rfl)).trans h.cell,⟨h.row.1,?_⟩,h.nodes.stay fun x hx b hb=>hk b (.inr (.inr (.inr ⟨x,hx,hb⟩))),?_,h.ge⟩
 ·rcases h.row.2 with h2|⟨b,cap,cur,hv,hb,hh,hr2⟩
  ·exact .inl h2
  ·exact .inr ⟨b,cap,cur,hv,hb,(hk b (.inr (.inr (.inl (by rw [hv];rfl))))).trans hh,hr2⟩
 ·obtain ⟨S,hv⟩:=h.vars
  exact ⟨S,hv.block (hk _ (.inr (.inl rfl)))⟩
theorem NdL.blocks {B:Nat}{w:World}{L:List Nd}{G:List Gn}(h:NdL B w L G):∀x∈L,∀b,(slv x.2.2.2).ownBlock=some b→b<w.heap.size:=by
 induction L generalizing G with
 | nil=>intro x hx;cases hx
 | cons y L ih=>cases G with
  | nil=>exact h.elim
  | cons z G=>
   intro x hx b hb
   rcases List.mem_cons.1 hx with rfl|hx
   ·exact (h.1.2.2.2.lt b hb).2
   ·exact ih h.2 x hx b hb
theorem own_zero {w:World}{base:Nat}{e:TypeId}{size:Nat}{v:Value}{n:Nat}{xs:List Value}(h:w.ownsRow base e size v n xs):w.ownsRow 0 e size v n xs:=by
 refine ⟨h.1,?_⟩
 rcases h.2 with h|⟨g,cap,cur,hv,hb,hr⟩
 ·exact .inl h
 ·exact .inr ⟨g,cap,cur,hv,Nat.zero_le _,hr⟩
theorem NdL.zero {B:Nat}{w:World}{L:List Nd}{G:List Gn}(h:NdL B w L G):NdL 0 w L G:=by
 induction L generalizing G with
 | nil=>cases G with
  | nil=>trivial
  | cons=>exact h.elim
 | cons x L ih=>cases G with
  | nil=>exact h.elim
  | cons y G=>exact ⟨⟨h.1.1,h.1.2.1,h.1.2.2.1,own_zero h.1.2.2.2⟩,ih h.2⟩
theorem GrM.zero {B:Nat}{w:World}{g mb:Nat}{v:Value}{L:List Nd}{G:List Gn}(h:GrM B w g v mb L G):GrM 0 w g v mb L G:=
 ⟨h.cell,own_zero h.row,h.nodes.zero,h.vars,Nat.zero_le _,Nat.zero_le _⟩
theorem GrM.blocks {B:Nat}{w:World}{A:Adr}{G:List Gn}(h:GrM B w A.g A.V A.mb A.L G) {k:Nat}(hk:A.D k):k<w.heap.size:=by
 rcases hk with rfl|rfl|hk|⟨x,hx,hk⟩
 ·exact h.lt.1
 ·exact h.lt.2
 ·exact (h.row.lt k hk).2
 ·exact h.nodes.blocks x hx k hk
def StX (S:Nat→Prop) (w:World) (cb:Nat) (x0 x1 x2:Value) (f0 c fo ob:Nat) (x6 x7:Value) (n:Nat) (col ro:Nat→Nat) (fs:Int):Prop:=
 StM S w cb x0 x1 x2 f0 c fo ob x6 x7 n col ro fs∨
  (n=0∧(fs=0∧f0=cb)∧w.heap[cb]? = some (Obj.cells #[x0,x1,x2,.slice none 0 0,.int .i64 0,.map (some ob),x6,x7] 150)∧MapF (fun _=>none) 0 0 ob w)
structure ClM (O:Nat→Prop) (w:World) (cb:Nat) (A:Adr) (st:Int) (cl:Bool) (n:Nat) (G:List Gn) (kn:Kn) (nx col ro:Nat→Nat) (fs:Int):Prop where
 sets:StX A.S w cb (.int .i64 st) (.bool cl) (.pointer (some ⟨A.g,0,none⟩)) A.f0 A.c A.fo A.ob A.K A.N n col ro fs
 gr:GrM 0 w A.g A.V A.mb A.L G
 kr:w.ownsRow 0 188 2 A.K n (knR n kn)
 nr:w.ownsRow 0 3 1 A.N n (rowI n nx)
 d:∀k,A.D k→¬ A.F cb k
 ks:∀k,A.K.ownBlock=some k→¬ A.S k∧k≠cb∧k≠A.ob∧k≠A.f0∧A.N.ownBlock≠some k
 ns:∀k,A.N.ownBlock=some k→¬ A.S k∧k≠cb∧k≠A.ob∧k≠A.f0
 own:∀k,A.D k∨A.F cb k→O k
 sb:∀k,A.S k→k<w.heap.size
section
variable {O T:Nat→Prop}{w w':World}{cb:Nat}{A:Adr}{st:Int}{cl:Bool}{n:Nat}{G:List Gn}{kn:Kn}{nx col ro col' ro':Nat→Nat}{fs fs':Int}
theorem StM.keep {S:Nat→Prop}{x0 x1 x2 x6 x7:Value}{f0 fo ob c:Nat}(h:StM S w cb x0 x1 x2 f0 c fo ob x6 x7 n col ro fs) (he:Else T w w') (h1:¬ T cb) (h2:¬ T ob) (h3:¬ T f0) (h4:∀k,S k→¬ T k):StM S w' cb x0 x1 x2 f0 c fo ob x6 x7 n col ro fs:=
 ⟨(he.block cb (gL h.blk).1 h1).trans h.blk,h.map.block (he.block ob h.map.lt h2),h.ncb,h.nob,h.nf0,own_else h.row he (fun k hk=>by cases hk;exact h3),h.uf.keep he h4⟩
theorem StX.keep {S:Nat→Prop}{x0 x1 x2 x6 x7:Value}{f0 fo ob c:Nat}(h:StX S w cb x0 x1 x2 f0 c fo ob x6 x7 n col ro fs) (he:Else T w w') (h1:¬ T cb) (h2:¬ T ob) (h3:¬ T f0) (h4:∀k,S k→¬ T k):StX S w' cb x0 x1 x2 f0 c fo ob x6 x7 n col ro fs:=by
 rcases h with h|⟨e1,e2,e3,e4⟩
 ·exact .inl (StM.keep h he h1 h2 h3 h4)
 ·exact .inr ⟨e1,e2,(he.block cb (gL e3).1 h1).trans e3,e4.block (he.block ob e4.lt h2)⟩
theorem ClM.aside (h:ClM O w cb A st cl n G kn nx col ro fs) (he:Else T w w') (ht:∀k,A.D k∨A.F cb k→¬ T k):ClM O w' cb A st cl n G kn nx col ro fs:=
 have hF:∀k,A.F cb k→¬ T k:=fun k hk=>ht k (.inr hk)
 ⟨StX.keep h.sets he (hF _ (.inr (.inl rfl))) (hF _ (.inr (.inr (.inl rfl)))) (hF _ (.inr (.inr (.inr (.inl rfl))))) (fun k hk=>hF k (.inl hk)),
  h.gr.stay fun k hk=>he.block k (h.gr.blocks hk) (ht k (.inl hk)),own_else h.kr he (fun k hk=>hF k (.inr (.inr (.inr (.inr (.inl hk)))))),own_else h.nr he (fun k hk=>hF k (.inr (.inr (.inr (.inr (.inr hk)))))),h.d,h.ks,h.ns,h.own,fun k hk=>Nat.lt_of_lt_of_le (h.sb k hk) he.size⟩
theorem ClM.keep (h:ClM O w cb A st cl n G kn nx col ro fs) (he:Else T w w') (ht:∀k,O k→¬ T k):ClM O w' cb A st cl n G kn nx col ro fs:=
 h.aside he fun k hk=>ht k (h.own k hk)
theorem ClM.lt (h:ClM O w cb A st cl n G kn nx col ro fs) {k:Nat}(hk:A.D k∨A.F cb k):k<w.heap.size:=by
 rcases hk with hk|hk|rfl|rfl|rfl|hk|hk
 ·exact h.gr.blocks hk
 ·exact h.sb k hk
 ·rcases h.sets with h|⟨_,_,h,_⟩
  ·exact (gL h.blk).1
  ·exact (gL h).1
 ·rcases h.sets with h|⟨_,_,_,h⟩
  ·exact h.map.lt
  ·exact h.lt
 ·rcases h.sets with h|⟨_,⟨_,e⟩,h,_⟩
  ·exact (h.row.lt _ rfl).2
  ·rw [e];exact (gL h).1
 ·exact (h.kr.lt k hk).2
 ·exact (h.nr.lt k hk).2
theorem ClM.turn (h:ClM O w cb A st cl n G kn nx col ro fs) (he:Else A.S w w') (hs:StM A.S w' cb (.int .i64 st) (.bool cl) (.pointer (some ⟨A.g,0,none⟩)) A.f0 A.c A.fo A.ob A.K A.N n col' ro' fs'):ClM O w' cb A st cl n G kn nx col' ro' fs':=
 ⟨.inl hs,h.gr.stay fun k hk=>he.block k (h.gr.blocks hk) fun hx=>h.d k hk (.inl hx),own_else h.kr he (fun k hk=>(h.ks k hk).1),own_else h.nr he (fun k hk=>(h.ns k hk).1),h.d,h.ks,h.ns,h.own,fun k hk=>Nat.lt_of_lt_of_le (h.sb k hk) he.size⟩
theorem ClM.stm (h:ClM O w cb A st cl n G kn nx col ro fs) (hn:0<n):StM A.S w cb (.int .i64 st) (.bool cl) (.pointer (some ⟨A.g,0,none⟩)) A.f0 A.c A.fo A.ob A.K A.N n col ro fs:=by
 rcases h.sets with h|⟨h,_⟩
 ·exact h
 ·omega
theorem ClM.blk (h:ClM O w cb A st cl n G kn nx col ro fs):∃F,w.heap[cb]? = some (Obj.cells #[.int .i64 st,.bool cl,.pointer (some ⟨A.g,0,none⟩),F,.int .i64 n,.map (some A.ob),A.K,A.N] 150):=by
 rcases h.sets with h|⟨h,_,h2,_⟩
 ·exact ⟨_,h.blk⟩
 ·subst h;exact ⟨_,h2⟩
theorem ClM.cells (h:ClM O w cb A st cl n G kn nx col ro fs):cb<w.heap.size∧(∀k,w.frozen? ⟨cb,k,none⟩=false)∧w.cell? ⟨cb,0,none⟩=some (.int .i64 st)∧w.cell? ⟨cb,1,none⟩=some (.bool cl)∧w.cell? ⟨cb,2,none⟩=some (.pointer (some ⟨A.g,0,none⟩))∧w.cell? ⟨cb,6,none⟩=some A.K∧w.cell? ⟨cb,7,none⟩=some A.N:=by
 obtain ⟨F,hb⟩:=h.blk
 exact ⟨(gL hb).1,fun k=>by simp [World.frozen?,hb],cell_of_row w cb 0 _ _ _ hb,cell_of_row w cb 1 _ _ _ hb,cell_of_row w cb 2 _ _ _ hb,cell_of_row w cb 6 _ _ _ hb,cell_of_row w cb 7 _ _ _ hb⟩
theorem ClM.set0 (h:ClM O w cb A st cl n G kn nx col ro fs) (st':Int):ClM O (w.setCell ⟨cb,0,none⟩ (.int .i64 st')) cb A st' cl n G kn nx col ro fs:=by
 have hE:Else (fun k=>k=cb) w (w.setCell ⟨cb,0,none⟩ (.int .i64 st')):=Un.Else.set (S:=fun k=>k=cb) w (p:=⟨cb,0,none⟩) rfl _
 refine ⟨?_,h.gr.stay fun k hk=>hE.block k (h.gr.blocks hk) fun e=>h.d k hk (.inr (.inl e)),own_else h.kr hE fun k hk=>(h.ks k hk).2.1,own_else h.nr hE fun k hk=>(h.ns k hk).2.1,h.d,h.ks,h.ns,h.own,fun k hk=>Nat.lt_of_lt_of_le (h.sb k hk) hE.size⟩
 rcases h.sets with h|⟨e1,e2,e3,e4⟩
 ·have hne:A.f0≠cb:=fun e=>Un.row_ne h.row h.blk (by decide) (by rw [e];rfl)
  have hoc:A.ob≠cb:=fun e=>by
   obtain ⟨_,_,⟨_,_,hm,_⟩,_⟩:=h.map
   rw [e,h.blk] at hm
   cases hm
  exact .inl ⟨heap_setCell_same w cb 0 _ _ _ h.blk,h.map.block (hE.block _ h.map.lt hoc),h.ncb,h.nob,h.nf0,own_else h.row hE fun k hk=>by cases hk;exact hne,h.uf.keep hE fun k hk e=>by subst e;exact h.ncb hk⟩
 ·have hoc:A.ob≠cb:=fun e=>by
   obtain ⟨_,_,⟨_,_,hm,_⟩,_⟩:=e4
   rw [e,e3] at hm
   cases hm
  exact .inr ⟨e1,e2,heap_setCell_same w cb 0 _ _ _ e3,e4.block (hE.block _ e4.lt hoc)⟩
theorem ClM.set1 (h:ClM O w cb A st cl n G kn nx col ro fs) (cl':Bool):ClM O (w.setCell ⟨cb,1,none⟩ (.bool cl')) cb A st cl' n G kn nx col ro fs:=by
 have hE:Else (fun k=>k=cb) w (w.setCell ⟨cb,1,none⟩ (.bool cl')):=Un.Else.set (S:=fun k=>k=cb) w (p:=⟨cb,1,none⟩) rfl _
 refine ⟨?_,h.gr.stay fun k hk=>hE.block k (h.gr.blocks hk) fun e=>h.d k hk (.inr (.inl e)),own_else h.kr hE fun k hk=>(h.ks k hk).2.1,own_else h.nr hE fun k hk=>(h.ns k hk).2.1,h.d,h.ks,h.ns,h.own,fun k hk=>Nat.lt_of_lt_of_le (h.sb k hk) hE.size⟩
 rcases h.sets with h|⟨e1,e2,e3,e4⟩
 ·have hne:A.f0≠cb:=fun e=>Un.row_ne h.row h.blk (by decide) (by rw [e];rfl)
  have hoc:A.ob≠cb:=fun e=>by
   obtain ⟨_,_,⟨_,_,hm,_⟩,_⟩:=h.map
   rw [e,h.blk] at hm
   cases hm
  exact .inl ⟨heap_setCell_same w cb 1 _ _ _ h.blk,h.map.block (hE.block _ h.map.lt hoc),h.ncb,h.nob,h.nf0,own_else h.row hE fun k hk=>by cases hk;exact hne,h.uf.keep hE fun k hk e=>by subst e;exact h.ncb hk⟩
 ·have hoc:A.ob≠cb:=fun e=>by
   obtain ⟨_,_,⟨_,_,hm,_⟩,_⟩:=e4
   rw [e,e3] at hm
   cases hm
  exact .inr ⟨e1,e2,heap_setCell_same w cb 1 _ _ _ e3,e4.block (hE.block _ e4.lt hoc)⟩
theorem count_cl (h:ClM O w cb A st cl n G kn nx col ro fs) (m:Int) (hm:0≤m∧m≤1000000000000000) (hs:0≤st∧st≤1000000000000000):
  Calls Tryz.prog 136 #[.pointer (some ⟨cb,0,none⟩),.int .i64 m] w fun e w'=>e = .returned (.tuple #[])∧ClM O w' cb A (st+m) cl n G kn nx col ro fs∧Else (fun k=>k=cb) w w':=by
 obtain ⟨hl,hz,c0,_⟩:=h.cells
 have hz0:=hz 0
 have HH:=kI h
 clear h hz
 go_enter Tryz.func136,Tryz.ntmps136
 go_wp2_with fail
 exact bodyPost_end (results_none rfl _ _ _) rfl ⟨rfl,HH.out.set0 _,Un.Else.set (S:=fun k=>k=cb) w (p:=⟨cb,0,none⟩) rfl _⟩
end
end
section
open Go.RowKit
open Un (Else StM rowI UFo own_else dg swp wp_world)
set_option maxRecDepth 100000
section
variable {O T:Nat→Prop}{w w':World}{cb:Nat}{A:Adr}{st:Int}{cl:Bool}{n:Nat}{G:List Gn}{kn:Kn}{nx col ro col' ro':Nat→Nat}{fs fs':Int}
theorem ClM.below (h:ClM O w cb A st cl n G kn nx col ro fs) (hb:Below w.heap.size w w'):ClM O w' cb A st cl n G kn nx col ro fs:=
 h.keep (Else.of_below (S:=fun _=>False) hb) fun _ _=>id
theorem ClM.ring (h:ClM O w cb A st cl n G kn nx col ro fs) {nx':Nat→Nat}(he:Else (fun k=>A.N.ownBlock=some k) w w') (hr:w'.ownsRow 0 3 1 A.N n (rowI n nx')):ClM O w' cb A st cl n G kn nx' col ro fs:=by
 have hF:∀k,A.N.ownBlock=some k→¬ A.S k∧k≠cb∧k≠A.ob∧k≠A.f0:=h.ns
 exact ⟨StX.keep h.sets he (fun e=>(hF _ e).2.1 rfl) (fun e=>(hF _ e).2.2.1 rfl) (fun e=>(hF _ e).2.2.2 rfl) (fun k hk e=>(hF k e).1 hk),h.gr.stay fun k hk=>he.block k (h.gr.blocks hk) fun e=>h.d k hk (.inr (.inr (.inr (.inr (.inr e))))),own_else h.kr he fun k hk=>(h.ks k hk).2.2.2.2,hr,h.d,h.ks,h.ns,h.own,fun k hk=>Nat.lt_of_lt_of_le (h.sb k hk) he.size⟩
theorem mix_both (h:ClM O w cb A st cl n G kn nx col ro fs) (hnG:n≤G.length) (a b:Nat) (ha:a<n) (hb:b<n) (hab:a≠b) (p q:Gn) (hp:G[a]? = some p) (hq:G[b]? = some q) (p1:p.1=1) (q1:q.1=1):
  Calls Tryz.prog 151 #[.pointer (some ⟨cb,0,none⟩),.int .i64 (a:Nat),.int .i64 (b:Nat)] w fun e w'=>e = .returned (.int .i64 ((if p.2.1<q.2.1 then a else b:Nat):Nat))∧ClM O w' cb A st cl n G kn (swp nx a b) col ro fs∧Else (fun k=>A.N.ownBlock=some k) w w':=by
 obtain ⟨hl,hz,_,_,c2,_,c7⟩:=h.cells
 obtain ⟨nb,cN,hN,_,_⟩:=Un.own_shape h.nr (by omega)
 have hrow:=h.nr
 rw [hN] at c7 hrow
 have ra:w.cell? ⟨nb,a,none⟩=some (.int .i64 (nx a:Nat)):=(hrow.cellAt a (by omega)).trans (Un.rowI_get ha)
 have rb:w.cell? ⟨nb,b,none⟩=some (.int .i64 (nx b:Nat)):=(hrow.cellAt b (by omega)).trans (Un.rowI_get hb)
 have hba:b≠a:=Ne.symm hab
 have za:=hrow.frozenAt a
 have zb:=hrow.frozenAt b
 have f1:((a:Int) == -1)=false:=by simp
 have f2:((b:Int) == -1)=false:=by simp
 have HH:=kI h
 have HN:=kI (aI hN hrow)
 clear h hrow hz hN
 go_enter Tryz.func151,Tryz.ntmps151
 go_wp2_with fail
 go_region
 go_upto_region 4 with fail
 refine wp_world (fun V=>ClM O V cb A st cl n G kn (swp nx a b) col ro fs∧Else (fun k=>A.N.ownBlock=some k) w V) ?_ ?_
 ·obtain ⟨hN,hrow⟩:=HN.out
  obtain ⟨o1,g1⟩:=hrow.stored a (.int .i64 (nx b:Nat))
  obtain ⟨o2,g2⟩:=o1.stored b (.int .i64 (nx a:Nat))
  rw [Un.rowI_set,Un.rowI_set,←hN] at o2
  have hE:Else (fun k=>A.N.ownBlock=some k) w ((w.setCell ⟨nb,a,none⟩ (.int .i64 (nx b:Nat))).setCell ⟨nb,b,none⟩ (.int .i64 (nx a:Nat))):=(Un.Else.set w (p:=⟨nb,a,none⟩) (by rw [hN];rfl) _).trans (Un.Else.set _ (p:=⟨nb,b,none⟩) (by rw [hN];rfl) _)
  exact ⟨(HH.out.ring hE o2).below (Below.refl _ _).drew,hE.drew⟩
 rintro V ⟨hV,hE⟩
 obtain ⟨_,_,_,_,d2,_,_⟩:=hV.cells
 have hx:G[a]=p:=(List.getElem?_eq_some_iff.1 hp).2
 have hy:G[b]=q:=(List.getElem?_eq_some_iff.1 hq).2
 clear HN hba
 have HA:=name_in V 0 A.g A.mb A.V A.L G hV.gr a (by omega)
 have HF:=kI (aI hV hE)
 clear hl c2 c7 ra rb za zb hV hE
 go_wp2_with fail
 refine HA.mono ?_
 rintro e w2 ⟨rfl,hb2⟩
 rw [hx,if_pos p1]
 obtain ⟨hV,hE⟩:=HF.out
 have hV2:=hV.below hb2
 obtain ⟨_,_,_,_,d2',_,_⟩:=hV2.cells
 have HB:=name_in w2 0 A.g A.mb A.V A.L G hV2.gr b (by omega)
 have HF2:=kI (aI hV2 (hE.trans (Else.of_below hb2)))
 clear hV hE hV2 hb2 HA HF
 go_wp2_with fail
 refine HB.mono ?_
 rintro e w3 ⟨rfl,hb3⟩
 rw [hy,if_pos q1]
 have HF3:=kI (aI (HF2.out.1.below hb3) (HF2.out.2.trans (Else.of_below hb3)))
 clear hb3 HB HF2
 by_cases hlt:p.2.1<q.2.1
 ·have g1:decide (p.2.1<q.2.1)=true:=decide_eq_true hlt
  go_wp2_with fail
  go_ret
  exact ⟨rfl,HF3.out⟩
 ·have g1:decide (p.2.1<q.2.1)=false:=decide_eq_false hlt
  go_wp2_with fail
  go_ret
  exact ⟨rfl,HF3.out⟩
end
end
section
open Go.RowKit
open Un (Else StM rowI UFo own_else dg swp wp_world)
set_option maxRecDepth 100000
theorem max_run (w:World) (x y:Int):(Builtin.max_ #[3,3] 3 #[.int .i64 x,.int .i64 y]).run Tryz.prog w = .ok (.int .i64 (if x<y then y else x)) w:=by
 have e:(Builtin.max_ #[3,3] 3 #[.int .i64 x,.int .i64 y])=(do pure (←Builtin.max2 (.int .i64 x) (.int .i64 y))):=rfl
 rw [e]
 rfl
section
variable {O T:Nat→Prop}{w w':World}{cb:Nat}{A:Adr}{st:Int}{cl:Bool}{n:Nat}{G:List Gn}{kn:Kn}{nx col ro col' ro':Nat→Nat}{fs fs':Int}
theorem oi_none (a:Nat):((oi (some a)) == -1)=false:=by
 simp [oi]
theorem mix_none (w:World) (cb:Nat) (a b:Option Nat) (hab:a=none∨b=none):
  Calls Tryz.prog 151 #[.pointer (some ⟨cb,0,none⟩),.int .i64 (oi a),.int .i64 (oi b)] w fun e w'=>e = .returned (.int .i64 (oi (a.or b)))∧w'=w:=by
 have hm:=max_run w (oi a) (oi b)
 have hv:(if oi a<oi b then oi b else oi a)=oi (a.or b):=by
  cases a with
  | none=>cases b with
   | none=>rfl
   | some b=>simp [oi];omega
  | some a=>
   rcases hab with h|h
   ·cases h
   ·subst h
    have:¬ ((a:Int) < -1):=by omega
    simp [oi,this]
 rw [hv] at hm
 cases a with
 | none=>
  have f1:((oi none) == -1)=true:=rfl
  go_enter Tryz.func151,Tryz.ntmps151
  go_wp2_with fail
  go_ret
  exact ⟨rfl,rfl⟩
 | some a=>
  obtain rfl:b=none:=by
   rcases hab with h|h
   ·cases h
   ·exact h
  have f1:=oi_none a
  have f2:((oi none) == -1)=true:=rfl
  go_enter Tryz.func151,Tryz.ntmps151
  go_wp2_with fail
  go_ret
  exact ⟨rfl,rfl⟩
end
end
section
open Go.RowKit
open Un (Else StM rowI UFo own_else dg swp wp_world paint)
set_option maxRecDepth 100000
theorem knR_len (n:Nat) (kn:Kn):(knR n kn).length=n*2:=by
 induction n with
 | zero=>rfl
 | succ n ih=>
  unfold knR at ih ⊢
  rw [List.range_succ,List.flatMap_append,List.length_append,ih]
  simp
  omega
theorem knR_snoc (n:Nat) (kn:Kn):knR (n+1) kn=knR n kn ++ [.int .i64 (oi (kn n).1),.int .i64 (oi (kn n).2)]:=by
 unfold knR
 rw [List.range_succ,List.flatMap_append]
 simp
theorem knR_get {n:Nat}{kn:Kn}{i:Nat}(h:i<n):(knR n kn)[i*2]? = some (.int .i64 (oi (kn i).1))∧(knR n kn)[i*2+1]? = some (.int .i64 (oi (kn i).2)):=by
 induction n with
 | zero=>omega
 | succ n ih=>
  rw [knR_snoc]
  have hl:=knR_len n kn
  by_cases hi:i<n
  ·rw [List.getElem?_append_left (by omega),List.getElem?_append_left (by omega)]
   exact ih hi
  ·obtain rfl:i=n:=by omega
   rw [List.getElem?_append_right (by omega),List.getElem?_append_right (by omega),hl,show i*2-i*2=0 by omega,show i*2+1-i*2=1 by omega]
   exact ⟨rfl,rfl⟩
def kup (kn:Kn) (r:Nat) (v:Option Nat×Option Nat):Kn:=fun i=>if i=r then v else kn i
theorem knR_congr {n:Nat}{kn kn':Kn}(h:∀i,i<n→kn i=kn' i):knR n kn=knR n kn':=by
 unfold knR
 have:∀(l:List Nat),(∀i∈l,i<n)→(l.flatMap fun i=>([.int .i64 (oi (kn i).1),.int .i64 (oi (kn i).2)]:List Value))=l.flatMap fun i=>[.int .i64 (oi (kn' i).1),.int .i64 (oi (kn' i).2)]:=by
  intro l
  induction l with
  | nil=>intro _;rfl
  | cons x l ih=>
   intro hl
   simp only [List.flatMap_cons]
   rw [h x (hl x List.mem_cons_self),ih fun i hi=>hl i (List.mem_cons_of_mem _ hi)]
 exact this _ fun i hi=>List.mem_range.1 hi
theorem knR_set {n:Nat}{kn:Kn}{r:Nat}(h:r<n) (v:Option Nat×Option Nat):((knR n kn).set (r*2) (.int .i64 (oi v.1))).set (r*2+1) (.int .i64 (oi v.2))=knR n (kup kn r v):=by
 apply List.ext_getElem?
 intro j
 have hl:=knR_len n kn
 have hl':=knR_len n (kup kn r v)
 by_cases hj:j<n*2
 ·obtain ⟨i,hi⟩:∃i,j=i*2∨j=i*2+1:=⟨j / 2,by omega⟩
  have hin:i<n:=by omega
  obtain ⟨g1,g2⟩:=knR_get (kn:=kn) hin
  obtain ⟨k1,k2⟩:=knR_get (kn:=kup kn r v) hin
  by_cases e:i=r
  ·subst e
   rcases hi with rfl|rfl
   ·rw [List.getElem?_set_ne (by omega),List.getElem?_set_self (by omega),k1]
    simp [kup]
   ·rw [List.getElem?_set_self (by rw [List.length_set];omega),k2]
    simp [kup]
  ·rcases hi with rfl|rfl
   ·rw [List.getElem?_set_ne (by omega),List.getElem?_set_ne (by omega),k1,g1]
    simp [kup,e]
   ·rw [List.getElem?_set_ne (by omega),List.getElem?_set_ne (by omega),k2,g2]
    simp [kup,e]
 ·rw [List.getElem?_eq_none (by simp;omega),List.getElem?_eq_none (by omega)]
def nmG (G:List Gn) (x:Nat):Int:=((G[x]?).map fun p=>p.2.1).getD 0
def ml (G:List Gn):Option Nat→Option Nat→Option Nat
 | some x,some y=>some (if nmG G x<nmG G y then x else y)
 | a,b=>a.or b
def mr (nx:Nat→Nat):Option Nat→Option Nat→Nat→Nat
 | some x,some y=>swp nx x y
 | _,_=>nx
def Vn (n:Nat) (G:List Gn) (a:Option Nat):Prop:=∀x,a=some x→x<n∧∃p,G[x]? = some p∧p.1=1
section
variable {O T:Nat→Prop}{w w':World}{cb:Nat}{A:Adr}{st:Int}{cl:Bool}{n:Nat}{G:List Gn}{kn:Kn}{nx col ro col' ro':Nat→Nat}{fs fs':Int}
theorem mix_cl (h:ClM O w cb A st cl n G kn nx col ro fs) (hnG:n≤G.length) (a b:Option Nat) (ha:Vn n G a) (hb:Vn n G b) (hd:∀x y,a=some x→b=some y→x≠y):
  Calls Tryz.prog 151 #[.pointer (some ⟨cb,0,none⟩),.int .i64 (oi a),.int .i64 (oi b)] w fun e w'=>e = .returned (.int .i64 (oi (ml G a b)))∧ClM O w' cb A st cl n G kn (mr nx a b) col ro fs∧Else (fun k=>A.N.ownBlock=some k) w w':=by
 cases a with
 | none=>
  refine (mix_none w cb none b (.inl rfl)).mono ?_
  rintro e w' ⟨rfl,rfl⟩
  refine ⟨by cases b<;>rfl,?_,Else.refl _ _⟩
  cases b<;>exact h
 | some x=>cases b with
  | none=>
   refine (mix_none w cb (some x) none (.inr rfl)).mono ?_
   rintro e w' ⟨rfl,rfl⟩
   exact ⟨rfl,h,Else.refl _ _⟩
  | some y=>
   obtain ⟨hx,p,hp,p1⟩:=ha x rfl
   obtain ⟨hy,q,hq,q1⟩:=hb y rfl
   refine (mix_both h hnG x y hx hy (hd x y rfl rfl) p q hp hq p1 q1).mono ?_
   rintro e w' ⟨rfl,h1,h2⟩
   refine ⟨?_,h1,h2⟩
   have e1:nmG G x=p.2.1:=by simp [nmG,hp]
   have e2:nmG G y=q.2.1:=by simp [nmG,hq]
   simp only [ml,e1,e2,oi]
theorem ClM.know (h:ClM O w cb A st cl n G kn nx col ro fs) {kn':Kn}(he:Else (fun k=>A.K.ownBlock=some k) w w') (hr:w'.ownsRow 0 188 2 A.K n (knR n kn')):ClM O w' cb A st cl n G kn' nx col ro fs:=by
 have hF:=h.ks
 exact ⟨StX.keep h.sets he (fun e=>(hF _ e).2.1 rfl) (fun e=>(hF _ e).2.2.1 rfl) (fun e=>(hF _ e).2.2.2.1 rfl) (fun k hk e=>(hF k e).1 hk),h.gr.stay fun k hk=>he.block k (h.gr.blocks hk) fun e=>h.d k hk (.inr (.inr (.inr (.inr (.inl e))))),hr,own_else h.nr he fun k hk e=>(hF k e).2.2.2.2 hk,h.d,h.ks,h.ns,h.own,fun k hk=>Nat.lt_of_lt_of_le (h.sb k hk) he.size⟩
end
end
section
open Go.RowKit
open Un (Else StM rowI UFo own_else dg swp wp_world paint)
set_option maxRecDepth 100000
section
variable {O T:Nat→Prop}{w w':World}{cb:Nat}{A:Adr}{st:Int}{cl:Bool}{n:Nat}{G:List Gn}{kn:Kn}{nx col ro col' ro':Nat→Nat}{fs fs':Int}
theorem join_cl (h:ClM O w cb A st cl n G kn nx col ro fs) (hnG:n≤G.length) (hst:0≤fs∧fs≤10000000000000) (a b:Nat) (ha:a<n) (hb:b<n) (hva:Vn n G (kn a).2) (hvb:Vn n G (kn b).2) (hd:∀x y,(kn a).2=some x→(kn b).2=some y→x≠y):
  Calls Tryz.prog 137 #[.pointer (some ⟨cb,0,none⟩),.int .i64 (a:Nat),.int .i64 (b:Nat)] w fun e w'=>e = .returned (.tuple #[])∧∃(r k:Nat) (ro':Nat→Nat),r<n∧(∀i,i<n→ro' i=if paint col a b i=paint col a b r then r else ro i)∧(col r=col a∨col r=col b)∧k≤2*dg n∧
   ClM O w' cb A st cl n G (kup kn r ((kn a).1.or (kn b).1,ml G (kn a).2 (kn b).2)) (mr nx (kn a).2 (kn b).2) (paint col a b) ro' (fs+k)∧Else O w w':=by
 obtain ⟨hl,hz,_,_,_,c6,_⟩:=h.cells
 obtain ⟨kb,cK,hK,_,_⟩:=Un.own_shape h.kr (by omega)
 have hrow:=h.kr
 rw [hK] at c6 hrow
 have hlen:=knR_len n kn
 have a0:w.cell? ⟨kb,a*2,none⟩=some (.int .i64 (oi (kn a).1)):=(hrow.cellAt (a*2) (by omega)).trans (knR_get ha).1
 have a1:w.cell? ⟨kb,a*2+1,none⟩=some (.int .i64 (oi (kn a).2)):=(hrow.cellAt (a*2+1) (by omega)).trans (knR_get ha).2
 have b0:w.cell? ⟨kb,b*2,none⟩=some (.int .i64 (oi (kn b).1)):=(hrow.cellAt (b*2) (by omega)).trans (knR_get hb).1
 have b1:w.cell? ⟨kb,b*2+1,none⟩=some (.int .i64 (oi (kn b).2)):=(hrow.cellAt (b*2+1) (by omega)).trans (knR_get hb).2
 have HH:=kI h
 have HN:=kI (aI hK hrow)
 clear h hrow hz hK
 obtain ⟨ma,hma⟩:∃m,oi (kn a).1=m:=⟨_,rfl⟩
 obtain ⟨la,hla⟩:∃m,oi (kn a).2=m:=⟨_,rfl⟩
 obtain ⟨mb,hmb⟩:∃m,oi (kn b).1=m:=⟨_,rfl⟩
 obtain ⟨lb,hlb⟩:∃m,oi (kn b).2=m:=⟨_,rfl⟩
 rw [hma] at a0
 rw [hla] at a1
 rw [hmb] at b0
 rw [hlb] at b1
 have HL:=kI (aI hma (aI hla (aI hmb hlb)))
 clear hma hla hmb hlb
 go_enter Tryz.func137,Tryz.ntmps137
 go_wp2_with fail
 go_cut [6,7] (fun s6 s7 wx=>∃p q:Nat,s6 = .pointer (some ⟨p,0,none⟩)∧s7 = .pointer (some ⟨q,0,none⟩)∧p≠q∧w.heap.size≤p∧w.heap.size≤q∧wx.heap[p]? = some (Obj.cells #[.int .i64 ma,.int .i64 la] 188)∧wx.heap[q]? = some (Obj.cells #[.int .i64 mb,.int .i64 lb] 188)∧Below w.heap.size w wx)
 case first=>
  go_region
  ·go_wp2_with fail
   go_meet
   refine ⟨_,_,rfl,rfl,by omega,by omega,by omega,?_,?_,(((Below.refl _ _).alloc (Nat.le_refl _) _).alloc (by simp) _).drew⟩
   ·exact (Below.heap_alloc _ _ _ (by simp)).trans (heap_alloc_new _ _)
   ·have h:=heap_alloc_new (w.alloc (Obj.cells #[.int .i64 ma,.int .i64 la] 188)) (Obj.cells #[.int .i64 mb,.int .i64 lb] 188)
    rwa [World.size_alloc] at h
  ·go_wp2_with fail
   go_meet
   refine ⟨_,_,rfl,rfl,by omega,by omega,by omega,?_,?_,(((Below.refl _ _).alloc (Nat.le_refl _) _).alloc (by simp) _).drew⟩
   ·have h:=heap_alloc_new (w.alloc (Obj.cells #[.int .i64 mb,.int .i64 lb] 188)) (Obj.cells #[.int .i64 ma,.int .i64 la] 188)
    rwa [World.size_alloc] at h
   ·exact (Below.heap_alloc _ _ _ (by simp)).trans (heap_alloc_new _ _)
 case rest=>
  obtain ⟨p,q,rfl,rfl,hpq,hp,hq,hxp,hxq,hB⟩:=hcut
  have p0:wc.cell? ⟨p,0,none⟩=some (.int .i64 ma):=cell_of_row wc p 0 _ _ (0,0) hxp
  have q0:wc.cell? ⟨q,0,none⟩=some (.int .i64 mb):=cell_of_row wc q 0 _ _ (0,0) hxq
  have zp:wc.frozen? ⟨p,0,none⟩=false:=by simp [World.frozen?,hxp]
  have HX:=kI (aI hxp (aI hxq hB))
  have hpl:=(gL hxp).1
  clear a0 a1 b0 b1 c6 hl hxp hxq hB
  go_upto_if 24 with (fail)
  go_cut [] (fun wx=>wx.heap[p]? = some (Obj.cells #[.int .i64 (oi ((kn a).1.or (kn b).1)),.int .i64 la] 188)∧wx.heap[q]? = some (Obj.cells #[.int .i64 mb,.int .i64 lb] 188)∧Below w.heap.size w wx)
  case first=>
   obtain ⟨hma,_,hmb,_⟩:=HL.out
   obtain ⟨hxp,hxq,hB⟩:=HX.out
   cases hka:(kn a).1 with
   | none=>
    rw [hka] at hma
    have f1:(ma == -1)=true:=by rw [←hma];rfl
    have HY:=kI (aI hxp (aI hxq (aI hB hmb)))
    clear hxp hxq hB hmb hma
    go_wp2_with fail
    go_meet
    obtain ⟨hxp,hxq,hB,hmb⟩:=HY.out
    refine ⟨?_,(Below.heap_setCell _ ⟨p,0,none⟩ _ _ (by rintro h;exact hpq h.symm)).trans hxq,hB.setCell (p:=⟨p,0,none⟩) hp _⟩
    rw [hka,show oi ((none:Option Nat).or (kn b).1)=mb from hmb]
    exact heap_setCell_same wc p 0 _ _ _ hxp
   | some x=>
    rw [hka] at hma
    have f1:(ma == -1)=false:=by rw [←hma];exact oi_none x
    have HY:=kI (aI hxp (aI hxq (aI hB hma)))
    clear hxp hxq hB hma hmb
    go_wp2_with fail
    go_meet
    obtain ⟨hxp,hxq,hB,hma⟩:=HY.out
    exact ⟨by rw [hka,show oi ((some x).or (kn b).1)=ma from hma];exact hxp,hxq,hB⟩
  case rest=>
   clear p0 q0 zp hpl HX
   obtain ⟨hxp,hxq,hB⟩:=hcut
   have hC:=HH.out.below hB
   have HM:=mix_cl hC hnG (kn a).2 (kn b).2 hva hvb hd
   obtain ⟨_,hla,_,hlb⟩:=HL.out
   rw [hla,hlb] at HM
   have p1:wc.cell? ⟨p,1,none⟩=some (.int .i64 la):=cell_of_row wc p 1 _ _ (0,0) hxp
   have q1:wc.cell? ⟨q,1,none⟩=some (.int .i64 lb):=cell_of_row wc q 1 _ _ (0,0) hxq
   have HY:=kI (aI hxp hB)
   clear hxp hxq hB hC hla hlb
   go_wp2_with fail
   refine HM.mono ?_
   rintro e w3 ⟨rfl,hC3,hE3⟩
   have hpN:∀k,A.N.ownBlock=some k→k<w.heap.size:=fun k hk=>(HH.out.nr.lt k hk).2
   have hpl:p<wc.heap.size:=(gL HY.out.1).1
   have hx3:=(hE3.block p hpl fun hk=>by have:=hpN p hk;omega).trans HY.out.1
   have hl3:=(gL hx3).1
   have p2:w3.cell? ⟨p,1,none⟩=some (.int .i64 la):=cell_of_row w3 p 1 _ _ (0,0) hx3
   have z2:w3.frozen? ⟨p,1,none⟩=false:=by simp [World.frozen?,hx3]
   obtain ⟨lm,hlm⟩:∃m,oi (ml G (kn a).2 (kn b).2)=m:=⟨_,rfl⟩
   rw [hlm]
   have HZ:=kI (aI hx3 (aI hC3 (aI hE3 hlm)))
   clear hx3 hC3 hE3 hlm hpN HM p1 q1 hpl
   go_upto_region 4 with fail
   refine wp_world (fun V=>V.heap[p]? = some (Obj.cells #[.int .i64 (oi ((kn a).1.or (kn b).1)),.int .i64 lm] 188)∧ClM O V cb A st cl n G kn (mr nx (kn a).2 (kn b).2) col ro fs∧Else O w V) ?_ ?_
   ·obtain ⟨hx3,hC3,hE3,_⟩:=HZ.out
    have hEp:Else (fun k=>k=p) w3 (w3.setCell ⟨p,1,none⟩ (.int .i64 lm)):=Un.Else.set (S:=fun k=>k=p) w3 (p:=⟨p,1,none⟩) rfl _
    refine ⟨heap_setCell_same w3 p 1 _ _ _ hx3,hC3.aside hEp fun k hk e=>?_,((((Else.of_below (S:=fun k=>O k∨k=p) HY.out.2).trans (hE3.mono fun k hk=>.inl (HH.out.own k (.inr (.inr (.inr (.inr (.inr (.inr hk)))))))))).trans (hEp.mono fun k hk=>.inr hk)).old fun k hk=>hk.imp id fun e=>by omega⟩
    have:=HH.out.lt hk
    omega
   rintro V ⟨hx,hV,hE⟩
   have hlm:=HZ.out.2.2.2
   clear p2 z2 hl3 HZ HY
   have hVd:=hV.below (Below.refl _ V).drew
   have HJ:=Un.join_st (hVd.stm (by omega)) hst a b ha hb
   obtain ⟨hl,_,_,_,_,c6,_⟩:=hV.cells
   rw [HN.out.1] at c6
   have p0:V.cell? ⟨p,0,none⟩=some (.int .i64 (oi ((kn a).1.or (kn b).1))):=cell_of_row V p 0 _ _ (0,0) hx
   have p1:V.cell? ⟨p,1,none⟩=some (.int .i64 lm):=cell_of_row V p 1 _ _ (0,0) hx
   have hpl:=(gL hx).1
   have hpS:¬ A.S p:=fun h=>by have:=HH.out.sb p h;omega
   have HV:=kI (aI hx (aI hVd hE))
   clear hx hV hVd hE
   obtain ⟨S0,hSof,hSto⟩:∃S0:World→Prop,(∀W:World,W.cell? ⟨cb,6,none⟩=some (.slice (some ⟨kb,0,none⟩) n cK)∧W.cell? ⟨p,0,none⟩=some (.int .i64 (oi ((kn a).1.or (kn b).1)))∧W.cell? ⟨p,1,none⟩=some (.int .i64 lm)→S0 W)∧(∀W,S0 W→W.cell? ⟨cb,6,none⟩=some (.slice (some ⟨kb,0,none⟩) n cK)∧W.cell? ⟨p,0,none⟩=some (.int .i64 (oi ((kn a).1.or (kn b).1)))∧W.cell? ⟨p,1,none⟩=some (.int .i64 lm)):=⟨_,fun _ h=>h,fun _ h=>h⟩
   have hS:S0 V.drew:=hSof _ ⟨c6,p0,p1⟩
   have EX:=kI hSto
   have HSOF:=kI hSof
   have HJH:=kI HJ
   clear hSof hSto HJ c6 p0 p1
   refine wp_region_held (S:=S0) (by kernel_rfl) ?_
   change wpAnyH _ _ _ _ _ 13 (List.replicate 13 false).toArray _ V.drew
   simp only [List.replicate_succ,List.replicate_zero]
   refine tj (i:=0) (some 35) (.pointer (some ⟨cb,0,none⟩)) rfl hS ?_
   simp only [Act.put,zA,zB,zC]
   refine tj (i:=1) (some 36) (.pointer (some ⟨cb,0,none⟩)) rfl hS ?_
   simp only [Act.put,zA,zB,zC]
   refine tj (i:=2) (some 37) (.pointer (some ⟨cb,6,none⟩)) rfl hS ?_
   simp only [Act.put,zA,zB,zC]
   refine tk (i:=3) (some 38) (.slice (some ⟨kb,0,none⟩) n cK) rfl (fun w hw=>by obtain ⟨n0,n1,n2⟩:=EX.out w hw;clear hw;go_simp) hS ?_
   simp only [Act.put,zA,zB,zC]
   refine tj (i:=4) (some 39) (.pointer (some ⟨cb,0,none⟩)) rfl hS ?_
   simp only [Act.put,zA,zB,zC]
   refine tj (i:=5) (some 40) (.pointer (some ⟨cb,0,none⟩)) rfl hS ?_
   simp only [Act.put,zA,zB,zC]
   refine tj (i:=6) (some 41) (.pointer (some ⟨cb,3,none⟩)) rfl hS ?_
   simp only [Act.put,zA,zB,zC]
   refine tj (i:=7) (some 42) (.int .i64 (a:Nat)) rfl hS ?_
   simp only [Act.put,zA,zB,zC]
   refine tj (i:=8) (some 43) (.int .i64 (b:Nat)) rfl hS ?_
   simp only [Act.put,zA,zB,zC]
   refine tk (i:=10) (some 45) (.agg #[.int .i64 (oi ((kn a).1.or (kn b).1)),.int .i64 lm]) rfl (fun w hw=>by obtain ⟨n0,n1,n2⟩:=EX.out w hw;clear hw;go_simp) hS ?_
   simp only [Act.put,zA,zB,zC]
   refine aK 9 ?_
   refine ops_call (d:=some 44) rfl (by rfl) (by kernel_rfl) (by go_simp) (HJH.out.mono ?_)
   rintro e w5 ⟨r,k,ro',rfl,hr,hrr,hc,hk,hs,he⟩
   have hC5:=HV.out.2.1.turn he hs
   have kr5:=hC5.kr
   have hx5:=(he.block p hpl hpS).trans HV.out.1
   obtain ⟨_,_,_,_,_,c65,_⟩:=hC5.cells
   rw [HN.out.1] at kr5 c65
   have hl5:=knR_len n kn
   have s0:=(kr5.cellAt (r*2) (by omega)).trans (knR_get hr).1
   have s1:=(kr5.cellAt (r*2+1) (by omega)).trans (knR_get hr).2
   have z0:=kr5.frozenAt (r*2)
   have z1:=kr5.frozenAt (r*2+1)
   have hS5:=HSOF.out w5 ⟨c65,cell_of_row w5 p 0 _ _ (0,0) hx5,cell_of_row w5 p 1 _ _ (0,0) hx5⟩
   have HW:=kI (aI hC5 (aI kr5 (aI hx5 (aI he (aI hrr (aI hc hk))))))
   clear hs he hC5 kr5 hx5 c65 hrr hc hk
   refine ⟨_,rfl,hS5,?_⟩
   simp only [Act.put,zA,zB,zC]
   refine tj (i:=11) (some 46) (.pointer (some ⟨kb,r*2,none⟩)) rfl hS5 ?_
   simp only [Act.put,zA,zB,zC]
   refine aK 12 ?_
   have hSf:S0 ((w5.setCell ⟨kb,r*2,none⟩ (.int .i64 (oi ((kn a).1.or (kn b).1)))).setCell ⟨kb,r*2+1,none⟩ (.int .i64 lm)):=by
    have hkb:=HH.out.ks kb (by rw [HN.out.1];rfl)
    have hkl:=(HN.out.2.lt kb rfl).2
    have hE6:Else (fun k=>k=kb) w5 ((w5.setCell ⟨kb,r*2,none⟩ (.int .i64 (oi ((kn a).1.or (kn b).1)))).setCell ⟨kb,r*2+1,none⟩ (.int .i64 lm)):=(Un.Else.set (S:=fun k=>k=kb) w5 (p:=⟨kb,r*2,none⟩) rfl _).trans (Un.Else.set (S:=fun k=>k=kb) _ (p:=⟨kb,r*2+1,none⟩) rfl _)
    obtain ⟨d1,d2,d3⟩:=EX.out w5 hS5
    have bc:=hE6.block cb (World.block_lt_of_cell? _ _ d1) (fun e=>hkb.2.1 e.symm)
    have bp:=hE6.block p (World.block_lt_of_cell? _ _ d2) (fun e=>by omega)
    exact HSOF.out _ ⟨(World.cell?_of_block bc).trans d1,(World.cell?_of_block bp).trans d2,(World.cell?_of_block bp).trans d3⟩
   refine ops_skip (w':=(w5.setCell ⟨kb,r*2,none⟩ (.int .i64 (oi ((kn a).1.or (kn b).1)))).setCell ⟨kb,r*2+1,none⟩ (.int .i64 lm)) rfl (by kernel_rfl) (by go_simp) hSf rfl ?_
   refine wpAnyH_done (by kernel_rfl) ?_ _
   obtain ⟨hC5,kr5,hx5,he,hrr,hc,hk⟩:=HW.out
   have hKo:∀k,k=kb→A.K.ownBlock=some k:=fun k hk=>by rw [HN.out.1,hk];rfl
   have hE6:Else (fun k=>A.K.ownBlock=some k) w5 ((w5.setCell ⟨kb,r*2,none⟩ (.int .i64 (oi ((kn a).1.or (kn b).1)))).setCell ⟨kb,r*2+1,none⟩ (.int .i64 lm)):=(Un.Else.set (S:=fun k=>A.K.ownBlock=some k) w5 (p:=⟨kb,r*2,none⟩) (hKo _ rfl) _).trans (Un.Else.set (S:=fun k=>A.K.ownBlock=some k) _ (p:=⟨kb,r*2+1,none⟩) (hKo _ rfl) _)
   obtain ⟨o1,_⟩:=kr5.stored (r*2) (.int .i64 (oi ((kn a).1.or (kn b).1)))
   obtain ⟨o2,_⟩:=o1.stored (r*2+1) (.int .i64 lm)
   rw [←hlm,knR_set hr ((kn a).1.or (kn b).1,ml G (kn a).2 (kn b).2),hlm,←HN.out.1] at o2
   exact bodyPost_end (results_none rfl _ _ _) rfl ⟨rfl,r,k,ro',hr,hrr,hc,hk,hC5.know hE6 o2,(HV.out.2.2.trans ((⟨he.os,he.tape,he.output,he.size,he.block⟩:Else A.S V w5).mono fun k hk=>HH.out.own k (.inr (.inl hk)))).trans (hE6.mono fun k hk=>HH.out.own k (.inr (.inr (.inr (.inr (.inr (.inl hk)))))))⟩
end
end
end Go.Proofs.YtmamdiggjghjkaaGreatDoor
