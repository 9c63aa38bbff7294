/- Texts of one proof, one behind the other. -/
import Derived.Test.YtmamdiggjghjkaaGreatDoorMgSolveOrder15
import Derived.Test.YtmamdiggjghjkaaGreatDoorMgSolveOrder2
import Derived.Test.YtmamdiggjghjkaaGreatDoorMgSolveOrder1
set_option linter.unusedVariables false
namespace Go.Proofs.YtmamdiggjghjkaaGreatDoor
section
open Go.RowKit
set_option maxRecDepth 100000
def prC (T:List (Nat×Nat)):List Value:=T.flatMap fun x=>[.int .i64 (x.1:Nat),.int .i64 (x.2:Nat)]
theorem prC_len (T:List (Nat×Nat)):(prC T).length=T.length*2:=by
 induction T with
 | nil=>rfl
 | cons x T ih=>
  unfold prC at ih ⊢
  rw [List.flatMap_cons,List.length_append,ih]
  simp
  omega
theorem prC_app (T U:List (Nat×Nat)):prC (T++U)=prC T++prC U:=by simp [prC]
theorem prC_last (T:List (Nat×Nat)) (x:Nat×Nat):(prC (T ++ [x]))[T.length*2]? = some (.int .i64 (x.1:Nat))∧(prC (T ++ [x]))[T.length*2+1]? = some (.int .i64 (x.2:Nat)):=by
 have hl:=prC_len T
 rw [prC_app,List.getElem?_append_right (by omega),List.getElem?_append_right (by omega),hl,show T.length*2-T.length*2=0 by omega,show T.length*2+1-T.length*2=1 by omega]
 exact ⟨rfl,rfl⟩
theorem prInfo:(Tryz.prog.info? 104).map (fun i=>(i.zero,i.size,i.bytes))=some (some (.agg #[.int .i64 0,.int .i64 0]),2,16):=by kernel_rfl
theorem app_pr (W:World) (v:Value) (T:List (Nat×Nat)) (base:Nat) (hb:base≤W.heap.size) (hown:W.ownsRow base 104 2 v T.length (prC T)) (x:Nat×Nat) (hm:T.length≤100000000):
  ∃g cp w1,(app_ #[101,101] 101 #[v,.slice (some ⟨W.heap.size,0,none⟩) 1 1]).run Tryz.prog (W.alloc (.cells #[.int .i64 (x.1:Nat),.int .i64 (x.2:Nat)] 104)) = .ok (.slice (some ⟨g,0,none⟩) (T.length+1) cp) w1∧
   w1.ownsRow base 104 2 (.slice (some ⟨g,0,none⟩) (T.length+1) cp) (T ++ [x]).length (prC (T ++ [x]))∧(W.alloc (.cells #[.int .i64 (x.1:Nat),.int .i64 (x.2:Nat)] 104)).grownBy w1 v.ownBlock∧(v.ownBlock=some g∨g=W.heap.size+1):=by
 obtain ⟨i0,hi0,hz0,hz1,hz2⟩:=Un.info_parts prInfo
 have rd1:Rd (W.alloc (.cells #[.int .i64 (x.1:Nat),.int .i64 (x.2:Nat)] 104)) 2 (.slice (some ⟨W.heap.size,0,none⟩) 1 1) 1 [.int .i64 (x.1:Nat),.int .i64 (x.2:Nat)]:=rd_new W [.int .i64 (x.1:Nat),.int .i64 (x.2:Nat)] 104 2 1 rfl (by unfold maxLen;omega)
 obtain ⟨v',w1,hrun,hown1,hg1,hat⟩:=run_append_rd (P:=Tryz.prog) _ base 101 101 104 i0 _ 2 16 Tryz.underlying101 hi0 hz0 hz1 hz2 rfl (by omega) v T.length (prC T) (hown.alloc _) _ 1 _ rd1 (by simp [Value.oneCell']) (by unfold maxLen;omega) (by omega) (by simp;omega)
 obtain ⟨g,cp,rfl,_,_⟩:=Un.own_shape hown1 (by omega)
 refine ⟨g,cp,w1,hrun,?_,hg1,?_⟩
 ·rw [prC_app,List.length_append];exact hown1
 rcases hat with e|e
 ·exact .inl e.symm
 ·right
  have e:some g=some (W.heap.size+1):=by rw [←World.size_alloc W (.cells #[.int .i64 (x.1:Nat),.int .i64 (x.2:Nat)] 104)];exact e
  injection e
theorem own_pop {w:World}{base g c:Nat}{T:List (Nat×Nat)}{x:Nat×Nat}(h:w.ownsRow base 104 2 (.slice (some ⟨g,0,none⟩) (T ++ [x]).length c) (T ++ [x]).length (prC (T ++ [x]))):w.ownsRow base 104 2 (.slice (some ⟨g,0,none⟩) T.length c) T.length (prC T):=by
 rw [prC_app] at h
 exact own_cut h T.length (by simp) (prC_len T)
end
section
open Un (paint paint_eq cnt)
section
variable {G:List Gn}{n:Nat}{col ro ro':Nat→Nat}{kn:Kn}{E T V:List (Nat×Nat)}{x y r k l:Nat}{p q:Gn}
theorem Js.hd (h:Js G n col ro kn E (T ++ [(x,y)])) (i j:Nat):paint col (ro x) (ro y) i=paint col (ro x) (ro y) j↔(col i=col j∨(col i=col x∨col i=col y)∧(col j=col x∨col j=col y)):=by
 obtain ⟨hx,hy⟩:=h.pair
 rw [paint_eq,(h.rt x hx).2,(h.rt y hy).2]
theorem Js.last (e:Nat×Nat):e∈T ++ [(x,y)]↔e=(x,y)∨e∈T:=by simp [or_comm]
theorem Js.clash (h:Js G n col ro kn E (T ++ [(x,y)])) (hk:(kn (ro x)).1=some k) (hl:(kn (ro y)).1=some l) (hp:G[k]? = some p) (hq:G[l]? = some q) (hf:¬ Fit p q):Clash G E:=
 h.jn.clash h.md (a:=x) (b:=y) (by simp) hk hl hp hq hf
theorem Js.var (h:Js G n col ro kn E (T ++ [(x,y)])) (hm:(kn (ro x)).1=none∨(kn (ro y)).1=none):Jn G (paint col (ro x) (ro y)) E T:=
 h.jn.joinVar h.md (a:=x) (b:=y) (fun e=>Js.last e) h.hd hm
theorem Js.both (h:Js G n col ro kn E (T ++ [(x,y)])) (hk:(kn (ro x)).1=some k) (hl:(kn (ro y)).1=some l) (hp:G[k]? = some p) (hq:G[l]? = some q) (hf:Fit p q):Jn G (paint col (ro x) (ro y)) E (T++pairs p.2.2.2 q.2.2.2):=
 h.jn.joinBoth h.md (a:=x) (b:=y) (fun e=>Js.last e) h.hd hk hl hp hq hf fun e=>by simp
theorem Js.made (h:Js G n col ro kn E T) (hx:x<n) (hk:(kn (ro x)).1=some k):k<n∧∃p,G[k]? = some p∧p.1≠1:=by
 have hl:=h.len
 obtain ⟨q,h1,h2,_⟩:=h.md.some x k (by omega) hk
 exact ⟨by have:=lt_of_get h1;omega,q,h1,h2⟩
theorem Js.idem (h:Js G n col ro kn E T) (hx:x<n):ro (ro x)=ro x:=
 h.un _ _ (h.rt x hx).1 hx (h.rt x hx).2
theorem Js.vn (h:Js G n col ro kn E T) (hx:x<n):Vn n G (kn (ro x)).2:=by
 intro l hl
 obtain ⟨h1,h2,_⟩:=h.le.is x l hx hl
 exact ⟨h1,h2⟩
theorem Js.two (h:Js G n col ro kn E T) (hx:x<n) (hy:y<n) (hne:ro x≠ro y) (a b:Nat) (ha:(kn (ro x)).2=some a) (hb:(kn (ro y)).2=some b):a≠b:=by
 rintro rfl
 obtain ⟨_,_,h3,_⟩:=h.le.is x a hx ha
 obtain ⟨_,_,h4,_⟩:=h.le.is y a hy hb
 exact hne (h.un x y hx hy (h3.symm.trans h4))
theorem Js.fewer (h:Js G n col ro kn E T) (hx:x<n) (hy:y<n) (hne:ro x≠ro y):Un.cnt n (paint col (ro x) (ro y))+1=Un.cnt n col:=by
 have hc:col (ro x)≠col (ro y):=fun e=>hne (h.un x y hx hy (by rw [←(h.rt x hx).2,←(h.rt y hy).2,e]))
 have:=Un.cnt_paint (h.rt x hx).1 (h.rt y hy).1 hc
 omega
end
end
section
open Un (paint paint_eq cnt Rings Ker swp)
def isV (G:List Gn) (i:Nat):Bool:=match G[i]? with
 | some p=>p.1 == 1
 | none=>false
theorem isV_of {G:List Gn}{i:Nat}(h:∃p,G[i]? = some p∧p.1=1):isV G i=true:=by
 obtain ⟨p,h1,h2⟩:=h
 simp [isV,h1,h2]
theorem of_isV {G:List Gn}{i:Nat}(h:isV G i=true):∃p,G[i]? = some p∧p.1=1:=by
 unfold isV at h
 cases e:G[i]? with
 | none=>rw [e] at h;cases h
 | some p=>rw [e] at h;exact ⟨p,rfl,by simpa using h⟩
def vc (G:List Gn) (col:Nat→Nat) (i:Nat):Nat:=if isV G i=true then 2*col i else 2*i+1
section
variable {G:List Gn}{n:Nat}{col ro ro' nx:Nat→Nat}{kn:Kn}{E T V:List (Nat×Nat)}{x y r k l:Nat}{p q:Gn}
theorem vc_iff (i j:Nat):vc G col i=vc G col j↔i=j∨(isV G i=true∧isV G j=true∧col i=col j):=by
 unfold vc
 constructor
 ·intro h
  split at h<;>split at h
  ·exact .inr ⟨‹_›,‹_›,by omega⟩
  ·omega
  ·omega
  ·exact .inl (by omega)
 ·rintro (rfl|⟨h1,h2,h3⟩)
  ·rfl
  ·rw [if_pos h1,if_pos h2,h3]
theorem Js.rings (h:Js G n col ro kn E (T ++ [(x,y)])) (hne:ro x≠ro y) (hR:Rings n nx (vc G col)):Rings n (mr nx (kn (ro x)).2 (kn (ro y)).2) (vc G (paint col (ro x) (ro y))):=by
 obtain ⟨hx,hy⟩:=h.pair
 have cx:=(h.rt x hx).2
 have cy:=(h.rt y hy).2
 have hc:col x≠col y:=fun e=>hne (h.un x y hx hy e)
 have hd:=h.hd
 have hno:((kn (ro x)).2=none∨(kn (ro y)).2=none)→Ker n (vc G col) (vc G (paint col (ro x) (ro y))):=by
  intro hn i j hi hj
  rw [vc_iff,vc_iff,hd]
  constructor
  ·rintro (e|⟨e1,e2,e3⟩)
   ·exact .inl e
   ·exact .inr ⟨e1,e2,.inl e3⟩
  ·rintro (e|⟨e1,e2,e3|⟨e3,e4⟩⟩)
   ·exact .inl e
   ·exact .inr ⟨e1,e2,e3⟩
   ·obtain ⟨pi,hpi,pi1⟩:=of_isV e1
    obtain ⟨pj,hpj,pj1⟩:=of_isV e2
    refine .inr ⟨e1,e2,?_⟩
    rcases hn with hn|hn
    ·have f1:=h.le.no x i pi hx hn hpi pi1
     have f2:=h.le.no x j pj hx hn hpj pj1
     rcases e3 with e3|e3
     ·exact absurd e3 f1
     ·rcases e4 with e4|e4
      ·exact absurd e4 f2
      ·exact e3.trans e4.symm
    ·have f1:=h.le.no y i pi hy hn hpi pi1
     have f2:=h.le.no y j pj hy hn hpj pj1
     rcases e3 with e3|e3
     ·rcases e4 with e4|e4
      ·exact e3.trans e4.symm
      ·exact absurd e4 f2
     ·exact absurd e3 f1
 cases hlx:(kn (ro x)).2 with
 | none=>
  have:mr nx none (kn (ro y)).2=nx:=by cases (kn (ro y)).2<;>rfl
  rw [this]
  exact hR.ker (hno (.inl hlx))
 | some a=>cases hly:(kn (ro y)).2 with
  | none=>exact hR.ker (hno (.inr hly))
  | some b=>
   obtain ⟨ha,hva,ca,_⟩:=h.le.is x a hx hlx
   obtain ⟨hb,hvb,cb,_⟩:=h.le.is y b hy hly
   have va:=isV_of hva
   have vb:=isV_of hvb
   have hab:vc G col a≠vc G col b:=by
    rw [Ne,vc_iff]
    rintro (rfl|⟨_,_,e⟩)
    ·exact hc (ca.symm.trans cb)
    ·exact hc (by rw [←ca,←cb,e])
   refine (hR.join ha hb hab).ker fun i j hi hj=>?_
   rw [paint_eq,vc_iff,vc_iff,vc_iff,vc_iff,vc_iff,vc_iff,hd,ca,cb]
   simp only [va,vb,true_and]
   constructor
   ·rintro ((rfl|⟨e1,e2,e3⟩)|⟨e1,e2⟩)
    ·exact .inl rfl
    ·exact .inr ⟨e1,e2,.inl e3⟩
    ·have f1:isV G i=true∧(col i=col x∨col i=col y):=by
      rcases e1 with (rfl|e)|(rfl|e)
      ·exact ⟨va,.inl ca⟩
      ·exact ⟨e.1,.inl e.2⟩
      ·exact ⟨vb,.inr cb⟩
      ·exact ⟨e.1,.inr e.2⟩
     have f2:isV G j=true∧(col j=col x∨col j=col y):=by
      rcases e2 with (rfl|e)|(rfl|e)
      ·exact ⟨va,.inl ca⟩
      ·exact ⟨e.1,.inl e.2⟩
      ·exact ⟨vb,.inr cb⟩
      ·exact ⟨e.1,.inr e.2⟩
     exact .inr ⟨f1.1,f2.1,.inr ⟨f1.2,f2.2⟩⟩
   ·rintro (rfl|⟨e1,e2,e3|⟨e3,e4⟩⟩)
    ·exact .inl (.inl rfl)
    ·exact .inl (.inr ⟨e1,e2,e3⟩)
    ·exact .inr ⟨e3.imp (fun e=>.inr ⟨e1,e⟩) fun e=>.inr ⟨e1,e⟩,e4.imp (fun e=>.inr ⟨e2,e⟩) fun e=>.inr ⟨e2,e⟩⟩
theorem Cl.model {α:Type}(val:Nat→α) (hE:∀a b,(a,b)∈E→val a=val b)
  (hI:∀(x y:Nat) (p q:Gn),G[x]? = some p→G[y]? = some q→p.1≠1→q.1≠1→val x=val y→Fit p q∧∀(j a b:Nat),p.2.2.2[j]? = some a→q.2.2.2[j]? = some b→val a=val b) {a b:Nat} (h:Cl G E a b):val a=val b:=by
 induction h with
 | eq h=>exact hE _ _ h
 | refl a=>rfl
 | symm _ ih=>exact ih.symm
 | trans _ _ i1 i2=>exact i1.trans i2
 | part _ hp hq p1 q1 _ _ ha hb ih=>exact (hI _ _ _ _ hp hq p1 q1 ih).2 _ _ _ ha hb
theorem Clash.model {α:Type}(val:Nat→α) (hE:∀a b,(a,b)∈E→val a=val b)
  (hI:∀(x y:Nat) (p q:Gn),G[x]? = some p→G[y]? = some q→p.1≠1→q.1≠1→val x=val y→Fit p q∧∀(j a b:Nat),p.2.2.2[j]? = some a→q.2.2.2[j]? = some b→val a=val b):¬ Clash G E:=by
 rintro ⟨x,y,p,q,h1,hp,hq,p1,q1,hf⟩
 exact hf (hI x y p q hp hq p1 q1 (h1.model val hE hI)).1
theorem Js.known (h:Js G n col ro kn E []) (hx:x<n) (hc:Cl G E x y) (hy:G[y]? = some q) (q1:q.1≠1):∃k p,(kn (ro x)).1=some k∧G[k]? = some p∧p.1≠1∧Fit p q∧Cl G E x k:=by
 have hl:=h.len
 have hyn:=lt_of_get hy
 have hxy:col x=col y:=by
  rcases h.jn.done.1 hc with e|e
  ·rw [e]
  ·exact e.2.2
 cases hk:(kn (ro x)).1 with
 | none=>exact absurd (h.md.none y q hy ((h.md.col x y (by omega) hyn hxy).symm.trans hk)) q1
 | some k=>
  obtain ⟨p,hp,p1,hck⟩:=h.md.some x k (by omega) hk
  have hxk:Cl G E x k:=h.jn.done.2 (.inr ⟨by omega,lt_of_get hp,hck.symm⟩)
  refine ⟨k,p,rfl,hp,p1,?_,hxk⟩
  exact (h.jn.fit k y p q hp hy (hck.trans hxy) p1 q1).1
theorem Js.vars (h:Js G n col ro kn E []) (hx:x<n) (hk:(kn (ro x)).1=none) (hc:Cl G E x y) (hy:G[y]? = some q):q.1=1:=by
 apply Decidable.byContradiction
 intro q1
 obtain ⟨k,p,h1,_⟩:=h.known hx hc hy q1
 rw [hk] at h1
 cases h1
theorem Js.same (h:Js G n col ro kn E []) (hx:x<n) (hy:y<n):ro x=ro y↔Cl G E x y:=by
 have hl:=h.len
 rw [h.jn.done]
 constructor
 ·intro e
  exact .inr ⟨by omega,by omega,by rw [←(h.rt x hx).2,←(h.rt y hy).2,e]⟩
 ·rintro (rfl|⟨_,_,e⟩)
  ·rfl
  ·exact h.un x y hx hy e
theorem rings_grow {m:Nat}{c d ny:Nat→Nat}(h:Rings n nx c) (hnm:n≤m) (h1:∀i,i<n→ny i=nx i) (h2:∀i,n≤i→ny i=i) (h3:∀i j,i<n→j<n→(c i=c j↔d i=d j)) (h4:∀i j,n≤i→i<m→j<m→d j=d i→j=i):Rings m ny d:=by
 intro i hi
 by_cases hin:i<n
 ·obtain ⟨L,g1,g2,g3,g4⟩:=h i hin
  refine ⟨L,g1.same fun k hk=>h1 k ((g4 k).1 hk).1,g2,g3,fun j=>⟨fun hj=>?_,fun ⟨hj,e⟩=>?_⟩⟩
  ·obtain ⟨k1,k2⟩:=(g4 j).1 hj
   exact ⟨by omega,(h3 j i k1 hin).1 k2⟩
  ·by_cases hjn:j<n
   ·exact (g4 j).2 ⟨hjn,(h3 j i hjn hin).2 e⟩
   ·have:=h4 j i (by omega) hj hi e.symm
    omega
 ·refine ⟨[i],?_,by simp,by simp,fun j=>?_⟩
  ·exact .cons (by rw [h2 i (by omega)];exact .nil _)
  ·simp only [List.mem_singleton]
   exact ⟨fun e=>by subst e;exact ⟨hi,rfl⟩,fun ⟨hj,e⟩=>h4 i j (by omega) hi hj e⟩
end
end
section
open Go.RowKit
open Un (Else StM rowI UFo own_else dg swp wp_world paint cnt)
set_option maxRecDepth 100000
section
variable {O T:Nat→Prop}{w w' V:World}{cb:Nat}{A:Adr}{st:Int}{cl:Bool}{n:Nat}{G:List Gn}{kn:Kn}{nx col ro col' ro':Nat→Nat}{fs fs':Int}{E:List (Nat×Nat)}
def JaR (O:Nat→Prop) (w:World) (cb:Nat) (A:Adr) (st:Int) (n:Nat) (G:List Gn) (fs:Int) (E:List (Nat×Nat)) (M:Nat) (s:Value) (wr:World):Prop:=
 ∃(T:List (Nat×Nat)) (g c k:Nat) (kn:Kn) (nx col ro:Nat→Nat) (fs':Int),s = .slice (some ⟨g,0,none⟩) T.length c∧w.heap.size≤g∧wr.ownsRow w.heap.size 104 2 s T.length (prC T)∧ClM O wr cb A (st+k) false n G kn nx col ro fs'∧Js G n col ro kn E T∧Un.Rings n nx (vc G col)∧
  fs≤fs'∧fs'≤fs+4*(dg n:Nat)*k∧k+9*Un.cnt n col+T.length≤M∧Else (fun b=>O b∨w.heap.size≤b) w wr
theorem root_cl (h:ClM O w cb A st cl n G kn nx col ro fs) (hst:0≤fs∧fs≤10000000000000) (i:Nat) (hi:i<n):Calls Tryz.prog 135 #[.pointer (some ⟨cb,3,none⟩),.int .i64 (i:Nat)] w fun e w'=>∃k:Nat,e = .returned (.int .i64 (ro i:Nat))∧k≤dg n∧ClM O w' cb A st cl n G kn nx col ro (fs+k)∧Else A.S w w':=
 (Un.root_st (h.stm (by omega)) (by omega) i hi).mono fun _ _ ⟨k,h1,h2,h3,h4⟩=>⟨k,h1,h2,h.turn h4 h3,h4⟩
theorem start_todo (w:World) (l r:Nat):(w.alloc (.cells #[.int .i64 (l:Nat),.int .i64 (r:Nat)] 104)).ownsRow w.heap.size 104 2 (.slice (some ⟨w.heap.size,0,none⟩) 1 1) 1 (prC [(l,r)]):=
 ⟨rfl,.inr ⟨w.heap.size,1,#[.int .i64 (l:Nat),.int .i64 (r:Nat)],rfl,Nat.le_refl _,heap_alloc_new _ _,Nat.le_refl _,by unfold maxLen;omega,rfl,rfl⟩⟩
def stepsOf (cb:Nat) (w:World):Int:=match w.cell? ⟨cb,0,none⟩ with
 | some (.int _ m)=>m
 | _=>0
def JaPost (O:Nat→Prop) (w:World) (cb:Nat) (A:Adr) (st:Int) (n:Nat) (G:List Gn) (fs:Int) (E:List (Nat×Nat)) (M:Nat) (e:Go.Ending) (w':World):Prop:=
 e = .returned (.tuple #[])∧(∃(cl:Bool) (k:Nat) (kn:Kn) (nx col ro:Nat→Nat) (fs':Int),ClM O w' cb A (st+k+(fs'-fs)) cl n G kn nx col ro fs'∧fs≤fs'∧fs'≤fs+4*(dg n:Nat)*k∧k≤M∧(cl=true→Clash G E)∧(cl=false→Js G n col ro kn E []∧Un.Rings n nx (vc G col)∧k+9*Un.cnt n col≤M))∧Else O w w'
end
end
section
open Go.RowKit
open Un (Else StM rowI UFo own_else dg swp wp_world paint cnt)
set_option maxRecDepth 100000
def partsO (G:List Gn):Option Nat→List Nat
 | some i=>((G[i]?).map fun p=>p.2.2.2).getD []
 | none=>[]
section
variable {O T:Nat→Prop}{w wr w' V:World}{cb g c:Nat}{A:Adr}{st st':Int}{cl:Bool}{n:Nat}{G:List Gn}{kn kn':Kn}{nx nx' col ro col' ro':Nat→Nat}{fs fs':Int}{E L:List (Nat×Nat)}{x y:Nat}
theorem parts_oi (hG:GrM 0 w A.g A.V A.mb A.L G) (o:Option Nat) (hP:∀p∈G,p.2.2.2.length≤8):Calls Tryz.prog 138 #[.pointer (some ⟨A.g,0,none⟩),.int .i64 (oi o)] w fun e w'=>∃v,e = .returned v∧w'.ownsRow w.heap.size 3 1 v (partsO G o).length (nums (partsO G o))∧Below w.heap.size w w':=by
 cases o with
 | none=>exact (parts_out w 0 A.g A.mb A.V A.L G hG (-1) (by omega)).mono fun e w' ⟨h1,h2⟩=>⟨_,h1,World.ownsRow_nil _ _ _ _,h2⟩
 | some i=>
  by_cases hi:i<G.length
  ·have:=parts_in w 0 A.g A.mb A.V A.L G hG i hi (by have:=hP G[i] (List.getElem_mem hi);omega)
   simp only [partsO,List.getElem?_eq_getElem hi,Option.map_some,Option.getD_some]
   exact this
  ·have:=parts_out w 0 A.g A.mb A.V A.L G hG (i:Int) (by omega)
   simp only [partsO,List.getElem?_eq_none (Nat.le_of_not_lt hi),Option.map_none,Option.getD_none]
   exact this.mono fun e w' ⟨h1,h2⟩=>⟨_,h1,World.ownsRow_nil _ _ _ _,h2⟩
structure JaS (O:Nat→Prop) (w:World) (cb:Nat) (A:Adr) (st:Int) (n:Nat) (G:List Gn) (kn:Kn) (nx col ro:Nat→Nat) (fs:Int) (g c:Nat) (L:List (Nat×Nat)) (wr:World):Prop where
 cl:ClM O wr cb A st false n G kn nx col ro fs
 row:wr.ownsRow w.heap.size 104 2 (.slice (some ⟨g,0,none⟩) L.length c) L.length (prC L)
 els:Else (fun b=>O b∨w.heap.size≤b) w wr
 ge:w.heap.size≤g
theorem JaS.to (h:JaS O w cb A st n G kn nx col ro fs g c L wr) (hO:∀k,O k→k<w.heap.size) (he:Else T wr w') (ht:∀k,T k→O k∨wr.heap.size≤k) (hc:ClM O w' cb A st' false n G kn' nx' col' ro' fs'):JaS O w cb A st' n G kn' nx' col' ro' fs' g c L w':=
 ⟨hc,own_else h.row he (fun k hk e=>by
   cases hk
   have:=h.ge
   have:=(h.row.lt g rfl).2
   rcases ht g e with e|e
   ·have:=hO g e;omega
   ·omega),h.els.trans (he.mono fun k hk=>(ht k hk).imp id fun e=>Nat.le_trans h.els.size e),h.ge⟩
theorem JaS.below (h:JaS O w cb A st n G kn nx col ro fs g c L wr) (hb:Below wr.heap.size wr w'):JaS O w cb A st n G kn nx col ro fs g c L w':=
 ⟨h.cl.below hb,own_else h.row (Else.of_below (S:=fun _=>False) hb) (fun _ _ e=>e),h.els.trans (Else.of_below hb),h.ge⟩
theorem JaS.root (h:JaS O w cb A st n G kn nx col ro fs g c L wr) (hO:∀k,O k→k<w.heap.size) (hst:0≤fs∧fs≤10000000000000) (i:Nat) (hi:i<n):Calls Tryz.prog 135 #[.pointer (some ⟨cb,3,none⟩),.int .i64 (i:Nat)] wr fun e w'=>∃k:Nat,e = .returned (.int .i64 (ro i:Nat))∧k≤dg n∧JaS O w cb A st n G kn nx col ro (fs+k) g c L w':=
 (root_cl h.cl hst i hi).mono fun _ _ ⟨k,h1,h2,h3,h4⟩=>⟨k,h1,h2,h.to hO h4 (fun j hj=>.inl (h.cl.own j (.inr (.inl hj)))) h3⟩
theorem JaS.pair (h:JaS O w cb A st n G kn nx col ro fs g c (L ++ [(x,y)]) wr):wr.cell? ⟨g,L.length*2,none⟩=some (.int .i64 (x:Nat))∧wr.cell? ⟨g,L.length*2+1,none⟩=some (.int .i64 (y:Nat)):=by
 obtain ⟨h1,h2⟩:=prC_last L (x,y)
 have hl:=prC_len (L ++ [(x,y)])
 have hr:=h.row
 have:(L ++ [(x,y)]).length=L.length+1:=by simp
 exact ⟨(hr.cellAt _ (by omega)).trans h1,(hr.cellAt _ (by omega)).trans h2⟩
theorem JaS.pop (h:JaS O w cb A st n G kn nx col ro fs g c (L ++ [(x,y)]) wr):JaS O w cb A st n G kn nx col ro fs g c L wr:=⟨h.cl,own_pop h.row,h.els,h.ge⟩
theorem JaS.count (h:JaS O w cb A st n G kn nx col ro fs g c L wr) (hO:∀k,O k→k<w.heap.size) (m:Int) (hm:0≤m∧m≤1000000000000000) (hs:0≤st∧st≤1000000000000000):
  Calls Tryz.prog 136 #[.pointer (some ⟨cb,0,none⟩),.int .i64 m] wr fun e w'=>e = .returned (.tuple #[])∧JaS O w cb A (st+m) n G kn nx col ro fs g c L w':=
 (count_cl h.cl m hm hs).mono fun _ _ ⟨h1,h2,h3⟩=>⟨h1,h.to hO h3 (fun j hj=>by subst hj;exact .inl (h.cl.own _ (.inr (.inr (.inl rfl))))) h2⟩
theorem JaS.join (h:JaS O w cb A st n G kn nx col ro fs g c L wr) (hO:∀k,O k→k<w.heap.size) (hnG:n≤G.length) (hst:0≤fs∧fs≤10000000000000) (a b:Nat) (ha:a<n) (hb:b<n) (hva:Vn n G (kn a).2) (hvb:Vn n G (kn b).2) (hd:∀x y,(kn a).2=some x→(kn b).2=some y→x≠y):
  Calls Tryz.prog 137 #[.pointer (some ⟨cb,0,none⟩),.int .i64 (a:Nat),.int .i64 (b:Nat)] wr fun e w'=>e = .returned (.tuple #[])∧∃(r k:Nat) (ro':Nat→Nat),r<n∧(∀i,i<n→ro' i=if paint col a b i=paint col a b r then r else ro i)∧(col r=col a∨col r=col b)∧k≤2*dg n∧
   JaS O w cb A st n G (kup kn r ((kn a).1.or (kn b).1,ml G (kn a).2 (kn b).2)) (mr nx (kn a).2 (kn b).2) (paint col a b) ro' (fs+k) g c L w':=
 (join_cl h.cl hnG hst a b ha hb hva hvb hd).mono fun _ _ ⟨h1,r,k,ro',h2,h3,h4,h5,h6,h7⟩=>⟨h1,r,k,ro',h2,h3,h4,h5,h.to hO h7 (fun _ hj=>.inl hj) h6⟩
theorem JaS.knows (h:JaS O w cb A st n G kn nx col ro fs g c L wr) (i:Nat) (hi:i<n):∃kb cK,A.K = .slice (some ⟨kb,0,none⟩) n cK∧wr.cell? ⟨cb,6,none⟩=some (.slice (some ⟨kb,0,none⟩) n cK)∧∀i,i<n→wr.cell? ⟨kb,i*2,none⟩=some (.int .i64 (oi (kn i).1)):=by
 obtain ⟨_,_,_,_,_,c6,_⟩:=h.cl.cells
 obtain ⟨kb,cK,hK,_,_⟩:=Un.own_shape h.cl.kr (by omega)
 have hrow:=h.cl.kr
 rw [hK] at c6 hrow
 have hl:=knR_len n kn
 exact ⟨kb,cK,hK,c6,fun i hi=>(hrow.cellAt (i*2) (by omega)).trans (knR_get hi).1⟩
theorem JaS.push (h:JaS O w cb A st n G kn nx col ro fs g c L wr) (hO:∀k,O k→k<w.heap.size) (x:Nat×Nat) (hm:L.length≤100000000):
  ∃g' c' w1,(app_ #[101,101] 101 #[.slice (some ⟨g,0,none⟩) L.length c,.slice (some ⟨wr.heap.size,0,none⟩) 1 1]).run Tryz.prog (wr.alloc (.cells #[.int .i64 (x.1:Nat),.int .i64 (x.2:Nat)] 104)) = .ok (.slice (some ⟨g',0,none⟩) (L.length+1) c') w1∧
   JaS O w cb A st n G kn nx col ro fs g' c' (L ++ [x]) w1∧Else (fun k=>k=g) wr w1∧(g'=g∨wr.heap.size≤g'):=by
 obtain ⟨g',c',w1,hrun,hown,hgr,hat⟩:=app_pr wr _ L w.heap.size h.els.size h.row x hm
 have hE:Else (fun k=>k=g) wr w1:=(Un.Else.alloc _ _ _).trans (Un.Else.grown hgr fun k hk=>by cases hk;rfl)
 have hge:=h.ge
 have hws:=h.els.size
 have hl:(L ++ [x]).length=L.length+1:=by simp
 refine ⟨g',c',w1,hrun,⟨h.cl.aside hE fun k hk e=>?_,by rw [hl] at hown ⊢;exact hown,h.els.trans (hE.mono fun k hk=>.inr (by omega)),?_⟩,hE,?_⟩
 ·have:=hO k (h.cl.own k hk)
  omega
 ·rcases hat with e|e
  ·cases e;exact hge
  ·omega
 ·rcases hat with e|e
  ·cases e;exact .inl rfl
  ·exact .inr (by omega)
theorem stepsOf_eq (h:ClM O wr cb A st cl n G kn nx col ro fs):stepsOf cb wr=st:=by
 obtain ⟨_,_,c0,_⟩:=h.cells
 simp [stepsOf,c0]
theorem dg_step (n k:Nat):4*(dg n:Int)*((k+1:Nat):Int)=4*(dg n:Int)*k+4*(dg n:Int):=by
 rw [show ((k+1:Nat):Int)=(k:Int)+1 by omega,Int.mul_add,Int.mul_one]
theorem JaS.again {s s0:Int}{k M:Nat}{f0:Int}(h:JaS O w cb A s n G kn nx col ro fs g c L w') (hs0:s0+(k:Int)+1=s) (hJ:Js G n col ro kn E L) (hR:Un.Rings n nx (vc G col)) (hf1:f0≤fs) (hf2:fs≤f0+4*(dg n:Nat)*k+4*(dg n:Nat)) (hM:(k+1)+9*Un.cnt n col+L.length≤M) (hw:stepsOf cb wr=s0+(k:Int)) (hk:(k:Int)<M):
  JaR O w cb A s0 n G f0 E M (.slice (some ⟨g,0,none⟩) L.length c) w'∧((M:Int)-(stepsOf cb w'-s0)).toNat<((M:Int)-(stepsOf cb wr-s0)).toNat:=by
 refine ⟨⟨L,g,c,k+1,kn,nx,col,ro,fs,rfl,h.ge,h.row,?_,hJ,hR,hf1,?_,hM,h.els⟩,?_⟩
 ·rw [show s0+((k+1:Nat):Int)=s by omega]
  exact h.cl
 ·rw [dg_step]
  omega
 ·rw [stepsOf_eq h.cl,hw]
  omega
theorem ja_clash {s dE fE f0 s0:Int}{k M:Nat}(hC:ClM O w' cb A (s+dE) true n G kn nx col ro fE) (hs:s=s0+(k:Int)+1) (hd:fE-f0=dE) (h1:f0≤fE) (h2:fE≤f0+4*(dg n:Int)*k+4*(dg n:Int)) (hM:k+1≤M) (hcl:Clash G E) (hE:Else O w w'):JaPost O w cb A s0 n G f0 E M (.returned (.tuple #[])) w':=by
 refine ⟨rfl,⟨true,k+1,kn,nx,col,ro,fE,?_,h1,?_,hM,fun _=>hcl,fun e=>(by cases e)⟩,hE⟩
 ·rw [show s0+((k+1:Nat):Int)+(fE-f0)=s+dE by omega]
  exact hC
 ·rw [dg_step]
  omega
theorem ja_done {s dE fE f0 s0:Int}{k M:Nat}(hC:ClM O w' cb A (s+dE) false n G kn nx col ro fE) (hs:s=s0+(k:Int)) (hd:fE-f0=dE) (h1:f0≤fE) (h2:fE≤f0+4*(dg n:Int)*k) (hM:k+9*Un.cnt n col≤M) (hJ:Js G n col ro kn E []) (hR:Un.Rings n nx (vc G col)) (hE:Else O w w'):JaPost O w cb A s0 n G f0 E M (.returned (.tuple #[])) w':=by
 refine ⟨rfl,⟨false,k,kn,nx,col,ro,fE,?_,h1,h2,by omega,fun e=>(by cases e),fun _=>⟨hJ,hR,hM⟩⟩,hE⟩
 rw [show s0+(k:Int)+(fE-f0)=s+dE by omega]
 exact hC
end
end
section
open Go.RowKit
open Un (Else StM rowI UFo own_else dg swp wp_world paint)
attribute [local go_sem] Oper.semAt_some
attribute [local go_sem ↓] builtin_app
set_option maxRecDepth 100000
def ptC (cb:Nat) (L:List Nat):List Value:=L.flatMap fun r=>[.pointer (some ⟨cb,0,none⟩),.int .i64 (r:Nat)]
theorem ptC_app (cb:Nat) (L:List Nat) (r:Nat):ptC cb (L ++ [r])=ptC cb L ++ [.pointer (some ⟨cb,0,none⟩),.int .i64 (r:Nat)]:=by simp [ptC]
theorem ptC_at (cb:Nat) (L:List Nat) (i r:Nat) (h:L[i]? = some r):(ptC cb L)[i*2]? = some (.pointer (some ⟨cb,0,none⟩))∧(ptC cb L)[i*2+1]? = some (.int .i64 (r:Nat)):=by
 induction L generalizing i with
 | nil=>simp at h
 | cons x L ih=>
  cases i with
  | zero=>
   simp only [List.getElem?_cons_zero,Option.some.injEq] at h
   subst h
   simp [ptC]
  | succ i=>
   simp only [List.getElem?_cons_succ] at h
   have:=ih i h
   have e:∀j,(ptC cb (x :: L))[(i+1)*2+j]? = (ptC cb L)[i*2+j]?:=fun j=>by
    unfold ptC
    rw [List.flatMap_cons,List.getElem?_append_right (by simp;omega)]
    congr 1
    simp;omega
   have e0:=e 0
   simp only [Nat.add_zero] at e0
   rw [e0,e 1]
   exact this
theorem ptInfo:(Tryz.prog.info? 136).map (fun i=>(i.zero,i.size,i.bytes))=some (some (.agg #[.pointer none,.int .i64 0]),2,16):=by kernel_rfl
theorem app_pt (W:World) (v:Value) (cb:Nat) (T:List Nat) (base:Nat) (hb:base≤W.heap.size) (hown:W.ownsRow base 136 2 v T.length (ptC cb T)) (x:Nat) (hm:T.length≤100000):
  ∃g cp w1,(app_ #[137,137] 137 #[v,.slice (some ⟨W.heap.size,0,none⟩) 1 1]).run Tryz.prog (W.alloc (.cells #[.pointer (some ⟨cb,0,none⟩),.int .i64 (x:Nat)] 136)) = .ok (.slice (some ⟨g,0,none⟩) (T.length+1) cp) w1∧
   w1.ownsRow base 136 2 (.slice (some ⟨g,0,none⟩) (T.length+1) cp) (T ++ [x]).length (ptC cb (T ++ [x]))∧(W.alloc (.cells #[.pointer (some ⟨cb,0,none⟩),.int .i64 (x:Nat)] 136)).grownBy w1 v.ownBlock∧(v.ownBlock=some g∨g=W.heap.size+1):=by
 obtain ⟨i0,hi0,hz0,hz1,hz2⟩:=Un.info_parts ptInfo
 have rd1:Rd (W.alloc (.cells #[.pointer (some ⟨cb,0,none⟩),.int .i64 (x:Nat)] 136)) 2 (.slice (some ⟨W.heap.size,0,none⟩) 1 1) 1 [.pointer (some ⟨cb,0,none⟩),.int .i64 (x:Nat)]:=rd_new W [.pointer (some ⟨cb,0,none⟩),.int .i64 (x:Nat)] 136 2 1 rfl (by unfold maxLen;omega)
 obtain ⟨v',w1,hrun,hown1,hg1,hat⟩:=run_append_rd (P:=Tryz.prog) _ base 137 137 136 i0 _ 2 16 Tryz.underlying137 hi0 hz0 hz1 hz2 rfl (by omega) v T.length (ptC cb T) (hown.alloc _) _ 1 _ rd1 (by simp [Value.oneCell']) (by unfold maxLen;omega) (by omega) (by simp;omega)
 obtain ⟨g,cp,rfl,_,_⟩:=Un.own_shape hown1 (by omega)
 refine ⟨g,cp,w1,hrun,?_,hg1,?_⟩
 ·rw [ptC_app,List.length_append];exact hown1
 rcases hat with e|e
 ·exact .inl e.symm
 ·right
  have e:some g=some (W.heap.size+1):=by rw [←World.size_alloc W (.cells #[.pointer (some ⟨cb,0,none⟩),.int .i64 (x:Nat)] 136)];exact e
  injection e
section PaAs
variable {O T:Nat→Prop}{w w':World}{cb:Nat}{A:Adr}{st:Int}{cl:Bool}{n:Nat}{G:List Gn}{kn:Kn}{nx col ro:Nat→Nat}{fs:Int}
theorem pid_cl (h:ClM O w cb A st false n G kn nx col ro fs) (r:Nat):Calls Tryz.prog 84 #[ptV (some cb) (r:Nat)] w fun e w'=>e = .returned (.int .i64 (r:Nat))∧Below w.heap.size w w':=by
 have hb0:Below w.heap.size w (w.alloc (.cells #[.pointer (some ⟨cb,0,none⟩),.int .i64 (r:Nat)] 136)):=(Below.refl _ _).alloc (Nat.le_refl _) _
 have HO:=kI (holds_cl (h.below hb0) (r:Nat))
 have HX:=kI (aI (heap_alloc_new w (.cells #[.pointer (some ⟨cb,0,none⟩),.int .i64 (r:Nat)] 136)) hb0)
 show Calls _ _ #[.agg #[.pointer (some ⟨cb,0,none⟩),.int .i64 (r:Nat)]] _ _
 clear h hb0
 go_enter Tryz.func84,Tryz.ntmps84
 go_wp2_with fail
 refine (show Calls _ _ #[.agg #[.pointer (some ⟨cb,0,none⟩),.int .i64 (r:Nat)]] _ _ from HO.out).mono ?_
 rintro e w2 ⟨rfl,hb⟩
 have hx2:=(hb.block _ (by simp)).trans HX.out.1
 have d0:w2.cell? ⟨w.heap.size,0,none⟩=some (.pointer (some ⟨cb,0,none⟩)):=cell_of_row w2 _ 0 _ _ (0,0) hx2
 have d1:w2.cell? ⟨w.heap.size,1,none⟩=some (.int .i64 (r:Nat)):=cell_of_row w2 _ 1 _ _ (0,0) hx2
 have hl:=(gL hx2).1
 have HB:=kI (HX.out.2.trans (hb.mono (by simp)))
 clear hb hx2 HO HX
 go_wp2_with fail
 exact bodyPost_ret (results_tmp rfl _ _ _) rfl ⟨rfl,HB.out⟩
def leastV (G:List Gn):Option Nat→Int
 | some l=>nmG G l
 | none=>-1
set_option maxHeartbeats 1000000 in
theorem pvar_cl (h:ClM O w cb A st false n G kn nx col ro fs) (r:Nat) (hr:r<n) (hV:∀l,(kn r).2=some l→∃p,G[l]? = some p∧p.1=1):Calls Tryz.prog 83 #[ptV (some cb) (r:Nat)] w fun e w'=>e = .returned (.int .i64 (leastV G (kn r).2))∧Below w.heap.size w w':=by
 have hb0:Below w.heap.size w (w.alloc (.cells #[.pointer (some ⟨cb,0,none⟩),.int .i64 (r:Nat)] 136)):=(Below.refl _ _).alloc (Nat.le_refl _) _
 have h1:=h.below hb0
 have HO:=kI (holds_cl h1 (r:Nat))
 have hx:=heap_alloc_new w (.cells #[.pointer (some ⟨cb,0,none⟩),.int .i64 (r:Nat)] 136)
 have HH:=kI (aI h1 (aI hx (aI hb0 h)))
 show Calls _ _ #[.agg #[.pointer (some ⟨cb,0,none⟩),.int .i64 (r:Nat)]] _ _
 clear h h1 hb0 hx
 go_enter Tryz.func83,Tryz.ntmps83
 go_wp2_with fail
 refine (show Calls _ _ #[.agg #[.pointer (some ⟨cb,0,none⟩),.int .i64 (r:Nat)]] _ _ from HO.out).mono ?_
 rintro e w2 ⟨rfl,hb⟩
 have hC:=HH.out.1.below hb
 have hx2:=(hb.block _ (by simp)).trans HH.out.2.1
 have d0:w2.cell? ⟨w.heap.size,0,none⟩=some (.pointer (some ⟨cb,0,none⟩)):=cell_of_row w2 _ 0 _ _ (0,0) hx2
 have d1:w2.cell? ⟨w.heap.size,1,none⟩=some (.int .i64 (r:Nat)):=cell_of_row w2 _ 1 _ _ (0,0) hx2
 obtain ⟨hl,hz,c0,c1,c2,c6,c7⟩:=hC.cells
 obtain ⟨kb,cK,hK,_,_⟩:=Un.own_shape hC.kr (by omega)
 have hrow:=hC.kr
 rw [hK] at c6 hrow
 have hlen:=knR_len n kn
 have a0:w2.cell? ⟨kb,r*2,none⟩=some (.int .i64 (oi (kn r).1)):=(hrow.cellAt (r*2) (by omega)).trans (knR_get hr).1
 have a1:w2.cell? ⟨kb,r*2+1,none⟩=some (.int .i64 (oi (kn r).2)):=(hrow.cellAt (r*2+1) (by omega)).trans (knR_get hr).2
 have EX:Hid (∀W,Below w2.heap.size w2 W→W.cell? ⟨w.heap.size,0,none⟩=some (.pointer (some ⟨cb,0,none⟩))∧W.cell? ⟨w.heap.size,1,none⟩=some (.int .i64 (r:Nat))∧W.cell? ⟨cb,2,none⟩=some (.pointer (some ⟨A.g,0,none⟩))∧W.cell? ⟨cb,6,none⟩=some (.slice (some ⟨kb,0,none⟩) n cK)∧W.cell? ⟨kb,r*2,none⟩=some (.int .i64 (oi (kn r).1))∧W.cell? ⟨kb,r*2+1,none⟩=some (.int .i64 (oi (kn r).2))):=kI
  fun W hb=>⟨(hb.cell (World.block_lt_of_cell? _ _ d0)).trans d0,(hb.cell (World.block_lt_of_cell? _ _ d1)).trans d1,(hb.cell (World.block_lt_of_cell? _ _ c2)).trans c2,(hb.cell (World.block_lt_of_cell? _ _ c6)).trans c6,(hb.cell (World.block_lt_of_cell? _ _ a0)).trans a0,(hb.cell (World.block_lt_of_cell? _ _ a1)).trans a1⟩
 have HB:=kI (aI (HH.out.2.2.1.trans (hb.mono HH.out.2.2.1.size)) (aI hC hx2))
 obtain ⟨km,hkm⟩:∃z,oi (kn r).2=z:=⟨_,rfl⟩
 rw [hkm] at EX
 obtain ⟨z,b,hzb,HN⟩:∃(z:Int) (b:Bool),(leastV G (kn r).2=if b=true then z else -1)∧Calls Tryz.prog 118 #[.pointer (some ⟨A.g,0,none⟩),.int .i64 km] w2.drew fun e w'=>e = .returned (.tuple #[.int .i64 z,.bool b])∧Below w2.drew.heap.size w2.drew w':=by
  have hg:=(hC.below (Below.refl _ w2).drew).gr
  rw [←hkm]
  cases hl:(kn r).2 with
  | none=>exact ⟨0,false,rfl,name_out w2.drew 0 A.g A.mb A.V A.L G hg (-1) (by omega)⟩
  | some l=>
   obtain ⟨p,hp,p1⟩:=hV l hl
   obtain ⟨hlt,hpe⟩:=List.getElem?_eq_some_iff.1 hp
   have:=name_in w2.drew 0 A.g A.mb A.V A.L G hg l hlt
   rw [hpe,if_pos p1] at this
   exact ⟨p.2.1,true,by simp [leastV,nmG,hp],this⟩
 have HNH:=kI HN
 have HZ:=kI hzb
 clear hb hC hx2 hz c0 c1 c2 c6 c7 hK hrow hlen HO a0 a1 d0 d1 hkm HN hzb hl
 go_wp2_with fail
 have hS:Below w2.heap.size w2 w2.drew:=(Below.refl _ _).drew
 refine wp_region_held (S:=(fun W=>Below w2.heap.size w2 W)) (by kernel_rfl) ?_
 change wpAnyH _ _ _ _ _ 21 (List.replicate 21 false).toArray _ w2.drew
 simp only [List.replicate_succ,List.replicate_zero]
 refine tj (i:=0) (some 9) (.pointer (some ⟨w.heap.size,0,none⟩)) rfl hS ?_
 simp only [Act.put,zA,zB,zC]
 refine tk (i:=1) (some 10) (.pointer (some ⟨cb,0,none⟩)) rfl (fun W hw=>by obtain ⟨n0,n1,n2,n3,n4,n5⟩:=EX.out W hw;clear hw;go_simp) hS ?_
 simp only [Act.put,zA,zB,zC]
 refine tj (i:=2) (some 11) (.pointer (some ⟨cb,0,none⟩)) rfl hS ?_
 simp only [Act.put,zA,zB,zC]
 refine tj (i:=3) (some 12) (.pointer (some ⟨cb,2,none⟩)) rfl hS ?_
 simp only [Act.put,zA,zB,zC]
 refine tk (i:=4) (some 13) (.pointer (some ⟨A.g,0,none⟩)) rfl (fun W hw=>by obtain ⟨n0,n1,n2,n3,n4,n5⟩:=EX.out W hw;clear hw;go_simp) hS ?_
 simp only [Act.put,zA,zB,zC]
 refine tj (i:=5) (some 14) (.pointer (some ⟨w.heap.size,0,none⟩)) rfl hS ?_
 simp only [Act.put,zA,zB,zC]
 refine tk (i:=6) (some 15) (.pointer (some ⟨cb,0,none⟩)) rfl (fun W hw=>by obtain ⟨n0,n1,n2,n3,n4,n5⟩:=EX.out W hw;clear hw;go_simp) hS ?_
 simp only [Act.put,zA,zB,zC]
 refine tj (i:=7) (some 16) (.pointer (some ⟨cb,0,none⟩)) rfl hS ?_
 simp only [Act.put,zA,zB,zC]
 refine tj (i:=8) (some 17) (.pointer (some ⟨cb,6,none⟩)) rfl hS ?_
 simp only [Act.put,zA,zB,zC]
 refine tk (i:=9) (some 18) (.slice (some ⟨kb,0,none⟩) n cK) rfl (fun W hw=>by obtain ⟨n0,n1,n2,n3,n4,n5⟩:=EX.out W hw;clear hw;go_simp) hS ?_
 simp only [Act.put,zA,zB,zC]
 refine tj (i:=10) (some 19) (.pointer (some ⟨w.heap.size,1,none⟩)) rfl hS ?_
 simp only [Act.put,zA,zB,zC]
 refine tk (i:=11) (some 20) (.int .i64 (r:Nat)) rfl (fun W hw=>by obtain ⟨n0,n1,n2,n3,n4,n5⟩:=EX.out W hw;clear hw;go_simp) hS ?_
 simp only [Act.put,zA,zB,zC]
 refine tj (i:=12) (some 21) (.pointer (some ⟨kb,r*2,none⟩)) rfl hS ?_
 simp only [Act.put,zA,zB,zC]
 refine tj (i:=13) (some 22) (.pointer (some ⟨kb,r*2+1,none⟩)) rfl hS ?_
 simp only [Act.put,zA,zB,zC]
 refine tk (i:=14) (some 23) (.int .i64 km) rfl (fun W hw=>by obtain ⟨n0,n1,n2,n3,n4,n5⟩:=EX.out W hw;clear hw;go_simp) hS ?_
 simp only [Act.put,zA,zB,zC]
 refine aK 15 ?_
 refine ops_call (d:=some 24) rfl (by rfl) (by kernel_rfl) (by go_simp) (HNH.out.mono ?_)
 rintro e w3 ⟨rfl,hb3⟩
 have hS3:Below w2.heap.size w2 w3:=hS.trans hb3
 refine ⟨_,rfl,hS3,?_⟩
 simp only [Act.put,zA,zB,zC]
 refine tj (i:=16) (some 8) (.tuple #[.int .i64 z,.bool b]) rfl hS3 ?_
 simp only [Act.put,zA,zB,zC]
 refine tj (i:=17) (some 25) (.int .i64 z) rfl hS3 ?_
 simp only [Act.put,zA,zB,zC]
 refine tj (i:=18) (some 26) (.bool b) rfl hS3 ?_
 simp only [Act.put,zA,zB,zC]
 refine tj (i:=19) (some 3) (.int .i64 z) rfl hS3 ?_
 simp only [Act.put,zA,zB,zC]
 refine tj (i:=20) (some 4) (.bool b) rfl hS3 ?_
 simp only [Act.put,zA,zB,zC]
 refine wpAnyH_done (by kernel_rfl) ?_ _
 have HB3:=kI (HB.out.1.trans (hS3.mono HB.out.1.size))
 have HZZ:=kI HZ.out
 clear hS hS3 hb3 EX
 cases b with
 | true=>
  go_wp2_with fail
  have e:leastV G (kn r).2=z:=by simpa using HZZ.out
  exact bodyPost_ret (results_tmp rfl _ _ _) rfl ⟨by rw [e];rfl,HB3.out⟩
 | false=>
  go_wp2_with fail
  have e:leastV G (kn r).2 = -1:=by simpa using HZZ.out
  exact bodyPost_ret (results_tmp rfl _ _ _) rfl ⟨by rw [e];rfl,HB3.out⟩
set_option maxHeartbeats 4000000 in
theorem pparts_cl (h:ClM O w cb A st false n G kn nx col ro fs) (hst:0≤fs∧fs≤1000000000000) (hdg:dg n≤21) (r:Nat) (hr:r<n) (hP:∀p∈G,p.2.2.2.length≤8∧∀u∈p.2.2.2,u<n):Calls Tryz.prog 115 #[ptV (some cb) (r:Nat)] w fun e w'=>∃(v:Value) (k:Nat),e = .returned v∧w'.ownsRow w.heap.size 136 2 v (partsO G (kn r).1).length (ptC cb ((partsO G (kn r).1).map ro))∧k≤168∧ClM O w' cb A st false n G kn nx col ro (fs+k)∧Else A.S w w':=by
 have hPl:(partsO G (kn r).1).length≤8∧∀u∈partsO G (kn r).1,u<n:=by
  cases (kn r).1 with
  | none=>exact ⟨by simp [partsO],fun u hu=>by simp [partsO] at hu⟩
  | some i=>
   cases hg:G[i]? with
   | none=>exact ⟨by simp [partsO,hg],fun u hu=>by simp [partsO,hg] at hu⟩
   | some p=>
    have e:partsO G (some i)=p.2.2.2:=by simp [partsO,hg]
    rw [e]
    exact hP p (List.mem_of_getElem? hg)
 obtain ⟨P,hPe⟩:∃P,partsO G (kn r).1=P:=⟨_,rfl⟩
 rw [hPe] at hPl ⊢
 have HPQ:=kI hPe
 have HP8:=kI hP
 have HST:=kI (aI hst hdg)
 clear hPe hP hst hdg
 have hb0:Below w.heap.size w (w.alloc (.cells #[.pointer (some ⟨cb,0,none⟩),.int .i64 (r:Nat)] 136)):=(Below.refl _ _).alloc (Nat.le_refl _) _
 have h1:=h.below hb0
 have HO:=kI (holds_cl h1 (r:Nat))
 have hx:=heap_alloc_new w (.cells #[.pointer (some ⟨cb,0,none⟩),.int .i64 (r:Nat)] 136)
 have HH:=kI (aI h1 (aI hx (aI hb0 h)))
 show Calls _ _ #[.agg #[.pointer (some ⟨cb,0,none⟩),.int .i64 (r:Nat)]] _ _
 clear h h1 hb0 hx
 go_enter Tryz.func115,Tryz.ntmps115
 go_wp2_with fail
 refine (show Calls _ _ #[.agg #[.pointer (some ⟨cb,0,none⟩),.int .i64 (r:Nat)]] _ _ from HO.out).mono ?_
 rintro e w2 ⟨rfl,hb⟩
 have hC:=HH.out.1.below hb
 have hx2:=(hb.block _ (by simp)).trans HH.out.2.1
 have d0:w2.cell? ⟨w.heap.size,0,none⟩=some (.pointer (some ⟨cb,0,none⟩)):=cell_of_row w2 _ 0 _ _ (0,0) hx2
 have d1:w2.cell? ⟨w.heap.size,1,none⟩=some (.int .i64 (r:Nat)):=cell_of_row w2 _ 1 _ _ (0,0) hx2
 obtain ⟨hl,hz,c0,c1,c2,c6,c7⟩:=hC.cells
 obtain ⟨kb,cK,hK,_,_⟩:=Un.own_shape hC.kr (by omega)
 have hrow:=hC.kr
 rw [hK] at c6 hrow
 have hlen:=knR_len n kn
 have a0:w2.cell? ⟨kb,r*2,none⟩=some (.int .i64 (oi (kn r).1)):=(hrow.cellAt (r*2) (by omega)).trans (knR_get hr).1
 have a1:w2.cell? ⟨kb,r*2+1,none⟩=some (.int .i64 (oi (kn r).2)):=(hrow.cellAt (r*2+1) (by omega)).trans (knR_get hr).2
 have EX:Hid (∀W,Below w2.heap.size w2 W→W.cell? ⟨w.heap.size,0,none⟩=some (.pointer (some ⟨cb,0,none⟩))∧W.cell? ⟨w.heap.size,1,none⟩=some (.int .i64 (r:Nat))∧W.cell? ⟨cb,2,none⟩=some (.pointer (some ⟨A.g,0,none⟩))∧W.cell? ⟨cb,6,none⟩=some (.slice (some ⟨kb,0,none⟩) n cK)∧W.cell? ⟨kb,r*2,none⟩=some (.int .i64 (oi (kn r).1))∧W.cell? ⟨kb,r*2+1,none⟩=some (.int .i64 (oi (kn r).2))):=kI
  fun W hb=>⟨(hb.cell (World.block_lt_of_cell? _ _ d0)).trans d0,(hb.cell (World.block_lt_of_cell? _ _ d1)).trans d1,(hb.cell (World.block_lt_of_cell? _ _ c2)).trans c2,(hb.cell (World.block_lt_of_cell? _ _ c6)).trans c6,(hb.cell (World.block_lt_of_cell? _ _ a0)).trans a0,(hb.cell (World.block_lt_of_cell? _ _ a1)).trans a1⟩
 have HB:=kI (aI (HH.out.2.2.1.trans (hb.mono HH.out.2.2.1.size)) (aI hC hx2))
 obtain ⟨km,hkm⟩:∃z,oi (kn r).1=z:=⟨_,rfl⟩
 have HPC:=kI (parts_oi (w:=w2.drew) (A:=A) (hC.below (Below.refl _ w2).drew).gr (kn r).1 fun p hp=>(HP8.out p hp).1)
 rw [hkm,HPQ.out] at HPC
 rw [hkm] at EX
 have HPL:=kI hPl
 clear hb hC hx2 hz c0 c1 c2 c6 c7 hK hrow hlen HO a0 a1 d0 d1 hkm hPl
 go_wp2_with fail
 have hS:Below w2.heap.size w2 w2.drew:=(Below.refl _ _).drew
 refine wp_region_held (S:=(fun W=>Below w2.heap.size w2 W)) (by kernel_rfl) ?_
 change wpAnyH _ _ _ _ _ 18 (List.replicate 18 false).toArray _ w2.drew
 simp only [List.replicate_succ,List.replicate_zero]
 refine tj (i:=0) (some 9) (.pointer (some ⟨w.heap.size,0,none⟩)) rfl hS ?_
 simp only [Act.put,zA,zB,zC]
 refine tk (i:=1) (some 10) (.pointer (some ⟨cb,0,none⟩)) rfl (fun W hw=>by obtain ⟨n0,n1,n2,n3,n4,n5⟩:=EX.out W hw;clear hw;go_simp) hS ?_
 simp only [Act.put,zA,zB,zC]
 refine tj (i:=2) (some 11) (.pointer (some ⟨cb,0,none⟩)) rfl hS ?_
 simp only [Act.put,zA,zB,zC]
 refine tj (i:=3) (some 12) (.pointer (some ⟨cb,2,none⟩)) rfl hS ?_
 simp only [Act.put,zA,zB,zC]
 refine tk (i:=4) (some 13) (.pointer (some ⟨A.g,0,none⟩)) rfl (fun W hw=>by obtain ⟨n0,n1,n2,n3,n4,n5⟩:=EX.out W hw;clear hw;go_simp) hS ?_
 simp only [Act.put,zA,zB,zC]
 refine tj (i:=5) (some 14) (.pointer (some ⟨w.heap.size,0,none⟩)) rfl hS ?_
 simp only [Act.put,zA,zB,zC]
 refine tk (i:=6) (some 15) (.pointer (some ⟨cb,0,none⟩)) rfl (fun W hw=>by obtain ⟨n0,n1,n2,n3,n4,n5⟩:=EX.out W hw;clear hw;go_simp) hS ?_
 simp only [Act.put,zA,zB,zC]
 refine tj (i:=7) (some 16) (.pointer (some ⟨cb,0,none⟩)) rfl hS ?_
 simp only [Act.put,zA,zB,zC]
 refine tj (i:=8) (some 17) (.pointer (some ⟨cb,6,none⟩)) rfl hS ?_
 simp only [Act.put,zA,zB,zC]
 refine tk (i:=9) (some 18) (.slice (some ⟨kb,0,none⟩) n cK) rfl (fun W hw=>by obtain ⟨n0,n1,n2,n3,n4,n5⟩:=EX.out W hw;clear hw;go_simp) hS ?_
 simp only [Act.put,zA,zB,zC]
 refine tj (i:=10) (some 19) (.pointer (some ⟨w.heap.size,1,none⟩)) rfl hS ?_
 simp only [Act.put,zA,zB,zC]
 refine tk (i:=11) (some 20) (.int .i64 (r:Nat)) rfl (fun W hw=>by obtain ⟨n0,n1,n2,n3,n4,n5⟩:=EX.out W hw;clear hw;go_simp) hS ?_
 simp only [Act.put,zA,zB,zC]
 refine tj (i:=12) (some 21) (.pointer (some ⟨kb,r*2,none⟩)) rfl hS ?_
 simp only [Act.put,zA,zB,zC]
 refine tj (i:=13) (some 22) (.pointer (some ⟨kb,r*2,none⟩)) rfl hS ?_
 simp only [Act.put,zA,zB,zC]
 refine tk (i:=14) (some 23) (.int .i64 km) rfl (fun W hw=>by obtain ⟨n0,n1,n2,n3,n4,n5⟩:=EX.out W hw;clear hw;go_simp) hS ?_
 simp only [Act.put,zA,zB,zC]
 refine tj (i:=17) (some 26) (.int .i64 0) rfl hS ?_
 simp only [Act.put,zA,zB,zC]
 refine aK 15 ?_
 refine ops_call (d:=some 24) rfl (by rfl) (by kernel_rfl) (by go_simp) (HPC.out.mono ?_)
 rintro e w3 ⟨vp,rfl,hop,hb3⟩
 obtain ⟨Ap,cp,rfl,_,_⟩:=Un.own_form hop
 have hS3:Below w2.heap.size w2 w3:=hS.trans hb3
 refine ⟨_,rfl,hS3,?_⟩
 simp only [Act.put,zA,zB,zC]
 refine tj (i:=16) (some 25) (.int .i64 (P.length:Nat)) rfl hS3 ?_
 simp only [Act.put,zA,zB,zC]
 refine wpAnyH_done (by kernel_rfl) ?_ _
 have H3:Hid (ClM O w3 cb A st false n G kn nx col ro fs∧w3.heap[w.heap.size]? = some (Obj.cells #[.pointer (some ⟨cb,0,none⟩),.int .i64 (r:Nat)] 136)∧w3.ownsRow w2.drew.heap.size 3 1 (.slice Ap P.length cp) P.length (nums P)∧Below w.heap.size w w3∧w.heap.size<w2.heap.size):=kI
  ⟨HB.out.2.1.below hS3,(hS3.block _ (gL HB.out.2.2).1).trans HB.out.2.2,hop,HB.out.1.trans (hS3.mono HB.out.1.size),(gL HB.out.2.2).1⟩
 have HPE:=kI HPL.out
 clear hS hS3 hb3 hop EX HPC
 go_wp2_with fail
 go_loopw [3,5,26] (fun s3 _ s26 wr=>∃j k:Nat,s26 = .int .i64 (j:Nat)∧j≤P.length∧k≤21*j∧ClM O wr cb A st false n G kn nx col ro (fs+k)∧wr.ownsRow w3.heap.size 136 2 s3 ((P.take j).map ro).length (ptC cb ((P.take j).map ro))∧Else A.S w3 wr) (fun _ _ s _=>P.length-(intOf s).toNat)
 case atStart=>exact ⟨0,0,rfl,Nat.zero_le _,Nat.le_refl _,by simpa using H3.out.1,World.ownsRow_nil _ _ _ _,Else.refl _ _⟩
 case round=>
  obtain ⟨j,k,rfl,hj,hk,hC,ho,hE⟩:=hrel
  obtain ⟨As,cs,rfl,_,_⟩:=Un.own_form ho
  have hml:((P.take j).map ro).length=j:=by rw [List.length_map,List.length_take,Nat.min_eq_left hj]
  have HT:=kI (aI hC (aI ho (aI hE (aI hml hk))))
  rw [hml]
  clear hC ho hE hml hk
  have hP8:P.length≤8:=HPE.out.1
  by_cases hjl:j<P.length
  ·have f1:decide ((j:Int)<(P.length:Int))=true:=decide_eq_true (by omega)
   have HJL:=kI hjl
   obtain ⟨x,hx⟩:∃x,P[j]? = some x:=⟨_,List.getElem?_eq_getElem hjl⟩
   have hxn:x<n:=HPE.out.2 x (List.mem_of_getElem? hx)
   have hp0:(w3.ownsRow w2.drew.heap.size 3 1 (.slice Ap P.length cp) P.length (nums P)):=H3.out.2.2.1
   obtain ⟨bp,cpp,hsh,_,hbl⟩:=Un.own_shape hp0 (by omega)
   injection hsh with hA1 _ hcc1
   subst hA1;subst hcc1
   have hbp:w2.drew.heap.size≤bp:=(hp0.lt bp rfl).1
   have hnS:∀k,w.heap.size≤k→¬ A.S k:=fun k hk hS=>by have:=HH.out.2.2.2.lt (.inr (.inl hS));omega
   have hw2:=H3.out.2.2.2.2
   have hbp2:w2.heap.size≤bp:=hbp
   have z0:wr.cell? ⟨w.heap.size,0,none⟩=some (.pointer (some ⟨cb,0,none⟩)):=cell_of_row wr _ 0 _ _ (0,0) ((HT.out.2.2.1.block _ (gL H3.out.2.1).1 (hnS _ (Nat.le_refl _))).trans H3.out.2.1)
   have z1:wr.cell? ⟨bp,j,none⟩=some (.int .i64 (x:Nat)):=((own_else H3.out.2.2.1 HT.out.2.2.1 fun k hk=>by cases hk;exact hnS _ (by show w.heap.size≤bp;omega)).cellAt j (by omega)).trans (by simp [nums,ints,toI,hx])
   have HPT:=kI (part_cl HT.out.1 (by have:=HT.out.2.2.2.2;have:=HST.out.1;omega) x hxn)
   have HXX:=kI (aI hx hxn)
   clear hx hxn hp0 hbp hbp2 hw2 hbl
   go_wp2_with fail
   refine HPT.out.mono ?_
   rintro e w5 ⟨k5,rfl,hk5,hC5,hE5⟩
   have hg3:w3.heap.size≤wr.heap.size:=HT.out.2.2.1.size
   have hwS:∀k,A.S k→k<w.heap.size:=fun k hk=>HH.out.2.2.2.lt (.inr (.inl hk))
   have hw3:w.heap.size≤w3.heap.size:=H3.out.2.2.2.1.size
   have ho5:=own_else HT.out.2.1 hE5 fun g hg hS=>by have:=(HT.out.2.1.lt g hg).1;have:=hwS g hS;omega
   rw [HT.out.2.2.2.1] at ho5
   obtain ⟨g6,c6,w6,hrun,ho6,hgr6,hat6⟩:=app_pt w5 (.slice As j cs) cb ((P.take j).map ro) w3.heap.size (Nat.le_trans hg3 hE5.size) (by rw [HT.out.2.2.2.1];exact ho5) (ro x) (by rw [HT.out.2.2.2.1];omega)
   rw [HT.out.2.2.2.1] at hrun
   have hE6:Else (fun k=>w3.heap.size≤k∧k<w5.heap.size) w5 w6:=(Else.alloc _ _ _).trans (Else.grown hgr6 fun k hk=>(ho5.lt k hk))
   have hC6:=hC5.aside hE6 fun q hq hS=>by have:=HH.out.2.2.2.lt hq;omega
   have HF:=kI (aI hk5 (aI hC6 (aI ho6 (show Else A.S w3 w6 from ((((HT.out.2.2.1.trans hE5).mono fun k hk=>.inl hk).trans (hE6.mono fun k hk=>.inr hk.1)).old fun k hk=>hk)))))
   clear hk5 hC5 hE5 hg3 hwS hw3 ho5 ho6 hgr6 hat6 hE6 hC6 HPT hnS
   unfold ptV
   go_wp2_with fail
   go_roundw
   case rel=>
    obtain ⟨hk5,hC6,ho6,hE6⟩:=HF.out
    have e1:(P.take (j+1)).map ro=(P.take j).map ro ++ [ro x]:=by rw [List.take_add_one,HXX.out.1,List.map_append];rfl
    refine ⟨j+1,k+k5,by go_num,HJL.out,by have:=HST.out.2;have:=HT.out.2.2.2.2;omega,?_,?_,hE6⟩
    ·have e2:fs+((k+k5:Nat):Int)=fs+(k:Nat)+(k5:Nat):=by push_cast;omega
     rw [e2]
     exact hC6
    ·rw [e1]
     rw [HT.out.2.2.2.1] at ho6
     exact ho6
   case measure=>have:=HJL.out;simp [intOf];omega
  ·have f1:decide ((j:Int)<(P.length:Int))=false:=decide_eq_false (by omega)
   have hje:j=P.length:=by omega
   have HJE:=kI hje
   clear hje
   go_wp2_with fail
   refine bodyPost_ret (results_tmp rfl _ _ _) rfl ⟨_,k,rfl,?_,by have:=HT.out.2.2.2.2;omega,HT.out.1,(((Else.of_below (S:=A.S) H3.out.2.2.2.1).trans HT.out.2.2.1))⟩
   have ho:=HT.out.2.1
   rw [HT.out.2.2.2.1,HJE.out,List.take_length] at ho
   rw [HJE.out] at *
   exact own_mono ho H3.out.2.2.2.1.size
end PaAs
end
end Go.Proofs.YtmamdiggjghjkaaGreatDoor
