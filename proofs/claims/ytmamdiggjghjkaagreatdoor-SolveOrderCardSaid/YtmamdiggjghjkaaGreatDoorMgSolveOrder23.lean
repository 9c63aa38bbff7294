/- Texts of one proof, one behind the other. -/
import Derived.Test.YtmamdiggjghjkaaGreatDoorMgSolveOrder16
import Derived.Test.YtmamdiggjghjkaaGreatDoorMgSolveOrder15
import Derived.Test.YtmamdiggjghjkaaGreatDoorMgSolveOrder1
import Derived.Test.YtmamdiggjghjkaaGreatDoorMgSolveOrder22
import Derived.Test.YtmamdiggjghjkaaGreatDoorMgSolveOrder21
set_option linter.unusedVariables false
namespace Go.Proofs.YtmamdiggjghjkaaGreatDoor
section
open Un (paint paint_eq cnt Rings Ker swp)
def gC (n M:Nat) (col:Nat→Nat) (i:Nat):Nat:=if i<n then col i else M+i
def gI (n:Nat) (f:Nat→Nat) (i:Nat):Nat:=if i<n then f i else i
def gK (G:List Gn) (n:Nat) (kn:Kn):Kn:=fun i=>if i<n then kn i else if isV G i=true then (none,some i) else (some i,none)
theorem bound_col (n:Nat) (col:Nat→Nat):∃M,∀i,i<n→col i<M:=by
 induction n with
 | zero=>exact ⟨0,fun i hi=>by omega⟩
 | succ n ih=>
  obtain ⟨M,hM⟩:=ih
  refine ⟨max M (col n+1),fun i hi=>?_⟩
  by_cases h:i<n
  ·have:=hM i h;omega
  ·obtain rfl:i=n:=by omega
   omega
section
variable {G A:List Gn}{n M:Nat}{col ro nx:Nat→Nat}{kn:Kn}{E:List (Nat×Nat)}{a b:Nat}
theorem gC_iff (hM:∀i,i<n→col i<M) (i j:Nat):gC n M col i=gC n M col j↔i=j∨(i<n∧j<n∧col i=col j):=by
 unfold gC
 by_cases hi:i<n
 ·have:=hM i hi
  by_cases hj:j<n
  ·simp only [hi,hj,if_true,true_and]
   exact ⟨.inr,fun e=>e.elim (fun e=>by rw [e]) id⟩
  ·simp only [hi,hj,if_true,if_false,false_and,and_false,or_false]
   omega
 ·by_cases hj:j<n
  ·have:=hM j hj
   simp only [hi,hj,if_true,if_false,false_and,or_false]
   omega
  ·simp only [hi,hj,if_false,false_and,or_false]
   omega
theorem app_get {i:Nat}{p:Gn}(h:G[i]? = some p):(G++A)[i]? = some p:=(List.getElem?_append_left (lt_of_get h)).trans h
theorem get_before {i:Nat}{p:Gn}(hi:i<G.length) (h:(G++A)[i]? = some p):G[i]? = some p:=(List.getElem?_append_left hi).symm.trans h
theorem nmG_app {i:Nat}(hi:i<G.length):nmG (G++A) i=nmG G i:=by unfold nmG;rw [List.getElem?_append_left hi]
theorem isV_app {i:Nat}(hi:i<G.length):isV (G++A) i=isV G i:=by unfold isV;rw [List.getElem?_append_left hi]
theorem Js.grow (h:Js G n col ro kn E []) (hM:∀i,i<n→col i<M) (hp:∀(x:Nat) (p:Gn),(G++A)[x]? = some p→∀u∈p.2.2.2,u<(G++A).length) (ha:a<(G++A).length) (hb:b<(G++A).length):
  Js (G++A) (G++A).length (gC n M col) (gI n ro) (gK (G++A) n kn) (E ++ [(a,b)]) [(a,b)]:=by
 have hlen:=h.len
 have hle:G.length≤(G++A).length:=by simp
 have hI:=gC_iff (n:=n) (M:=M) (col:=col) hM
 have hro:∀i,i<n→gI n ro i=ro i:=fun i hi=>by simp [gI,hi]
 have hro2:∀i,¬ i<n→gI n ro i=i:=fun i hi=>by simp [gI,hi]
 have hkn:∀i,i<n→gK (G++A) n kn (gI n ro i)=kn (ro i):=fun i hi=>by rw [hro i hi];simp [gK,(h.rt i hi).1]
 have hkn2:∀i,¬ i<n→gK (G++A) n kn (gI n ro i)=if isV (G++A) i=true then (none,some i) else (some i,none):=fun i hi=>by rw [hro2 i hi];simp [gK,hi]
 have hV1:∀(i:Nat) (p:Gn),(G++A)[i]? = some p→(isV (G++A) i=true↔p.1=1):=fun i p hi=>by unfold isV;rw [hi];simp
 have hex:∀i,i<(G++A).length→∃p,(G++A)[i]? = some p:=fun i hi=>⟨_,List.getElem?_eq_getElem hi⟩
 refine ⟨h.jn.grow (fun i j hi hj=>by rw [hI,hlen]) ha hb hp,rfl,?_,?_,fun i hi=>?_,fun i j hi hj e=>?_⟩
 ·refine ⟨fun i j hi hj e=>?_,fun i p hpi hk=>?_,fun i k hi hk=>?_⟩
  ·rcases (hI i j).1 e with rfl|⟨h1,h2,h3⟩
   ·rfl
   ·rw [hkn i h1,hkn j h2,h.un i j h1 h2 h3]
  ·by_cases hin:i<n
   ·rw [hkn i hin] at hk
    exact h.md.none i p (get_before (by omega) hpi) hk
   ·rw [hkn2 i hin] at hk
    by_cases hv:isV (G++A) i=true
    ·exact (hV1 i p hpi).1 hv
    ·rw [if_neg hv] at hk;cases hk
  ·by_cases hin:i<n
   ·rw [hkn i hin] at hk
    obtain ⟨q,h1,h2,h3⟩:=h.md.some i k (by omega) hk
    have:=lt_of_get h1
    exact ⟨q,app_get h1,h2,(hI k i).2 (.inr ⟨by omega,hin,h3⟩)⟩
   ·rw [hkn2 i hin] at hk
    by_cases hv:isV (G++A) i=true
    ·rw [if_pos hv] at hk;cases hk
    ·rw [if_neg hv] at hk
     obtain rfl:i=k:=Option.some.inj hk
     obtain ⟨p,hpi⟩:=hex i hi
     exact ⟨p,hpi,fun e=>hv ((hV1 i p hpi).2 e),rfl⟩
 ·refine ⟨fun i l hi hl=>?_,fun i v p hi hl hv hp1=>?_⟩
  ·by_cases hin:i<n
   ·rw [hkn i hin] at hl
    obtain ⟨g1,⟨q,g2,g2'⟩,g3,g4⟩:=h.le.is i l hin hl
    refine ⟨by omega,⟨q,app_get g2,g2'⟩,(hI l i).2 (.inr ⟨g1,hin,g3⟩),fun v p hv hp1 e=>?_⟩
    rcases (hI v i).1 e with rfl|⟨h1,_,h3⟩
    ·rw [nmG_app (by omega)]
     exact g4 v p (get_before (by omega) hv) hp1 rfl
    ·rw [nmG_app (by omega)]
     exact g4 v p (get_before (by omega) hv) hp1 h3
   ·rw [hkn2 i hin] at hl
    by_cases hv:isV (G++A) i=true
    ·rw [if_pos hv] at hl
     obtain rfl:i=l:=Option.some.inj hl
     refine ⟨hi,of_isV hv,rfl,fun v p hv2 hp1 e=>?_⟩
     rcases (hI v i).1 e with rfl|⟨_,h2,_⟩
     ·unfold nmG
      rw [hv2]
      exact Int.le_refl _
     ·exact absurd h2 hin
    ·rw [if_neg hv] at hl;cases hl
  ·intro e
   by_cases hin:i<n
   ·rw [hkn i hin] at hl
    rcases (hI v i).1 e with rfl|⟨h1,_,h3⟩
    ·exact h.le.no v v p hin hl (get_before (by omega) hv) hp1 rfl
    ·exact h.le.no i v p hin hl (get_before (by omega) hv) hp1 h3
   ·rw [hkn2 i hin] at hl
    rcases (hI v i).1 e with rfl|⟨_,h2,_⟩
    ·rw [if_pos ((hV1 v p hv).2 hp1)] at hl
     cases hl
    ·exact absurd h2 hin
 ·by_cases hin:i<n
  ·rw [hro i hin]
   obtain ⟨h1,h2⟩:=h.rt i hin
   exact ⟨by omega,(hI _ _).2 (.inr ⟨h1,hin,h2⟩)⟩
  ·rw [hro2 i hin]
   exact ⟨hi,rfl⟩
 ·rcases (hI i j).1 e with rfl|⟨h1,h2,h3⟩
  ·rfl
  ·rw [hro i h1,hro j h2,h.un i j h1 h2 h3]
theorem rings_app (h:Rings n nx (vc G col)) (hlen:n=G.length) (hM:∀i,i<n→col i<M):Rings (G++A).length (gI n nx) (vc (G++A) (gC n M col)):=by
 have hI:=gC_iff (n:=n) (M:=M) (col:=col) hM
 refine rings_grow h (by simp;omega) (fun i hi=>by simp [gI,hi]) (fun i hi=>by simp [gI];omega) (fun i j hi hj=>?_) fun i j hi him hj e=>?_
 ·rw [vc_iff,vc_iff,hI,isV_app (by omega),isV_app (by omega)]
  constructor
  ·rintro (e|⟨h1,h2,h3⟩)
   ·exact .inl e
   ·exact .inr ⟨h1,h2,.inr ⟨hi,hj,h3⟩⟩
  ·rintro (e|⟨h1,h2,rfl|⟨_,_,h3⟩⟩)
   ·exact .inl e
   ·exact .inl rfl
   ·exact .inr ⟨h1,h2,h3⟩
 ·rcases (vc_iff _ _).1 e with e|⟨_,_,e⟩
  ·exact e
  ·rcases (hI _ _).1 e with e|⟨_,h2,_⟩
   ·exact e
   ·omega
theorem cnt_succ (m:Nat) (c:Nat→Nat):Un.cnt (m+1) c≤Un.cnt m c+1∧Un.cnt m c≤Un.cnt (m+1) c:=by
 unfold Un.cnt
 rw [List.range_succ,List.countP_append]
 simp only [List.countP_cons,List.countP_nil]
 split<;>omega
theorem cnt_grow (m k:Nat) (c:Nat→Nat):Un.cnt (m+k) c≤Un.cnt m c+k∧Un.cnt m c≤Un.cnt (m+k) c:=by
 induction k with
 | zero=>simp
 | succ k ih=>
  have:=cnt_succ (m+k) c
  rw [←Nat.add_assoc]
  omega
theorem cnt_gC {m:Nat}(hm:n≤m):Un.cnt m (gC n M col)≤Un.cnt n col+(m-n):=by
 have h1:Un.cnt n (gC n M col)=Un.cnt n col:=(show Ker n (gC n M col) col from fun i j hi hj=>by simp [gC,hi,hj]).cnt
 have h2:=(cnt_grow n (m-n) (gC n M col)).1
 rw [Nat.add_sub_cancel' hm,h1] at h2
 exact h2
end
end
section
open Go.RowKit
open Un (Else StM rowI UFo own_else dg swp wp_world paint cnt Rings)
set_option maxRecDepth 100000
def Gp (G:List Gn):Prop:=∀p∈G,p.2.2.2.length≤8∧∀u∈p.2.2.2,u<G.length
theorem gnode_gp {G:List Gn}{k n:Int}{P:List Nat}(h:Gp G) (hP:P.length≤8) (hlt:∀u∈P,u<G.length):Gp (gnode G k n P).1:=by
 unfold gnode
 split
 ·exact h
 ·intro p hp
  rcases List.mem_append.1 hp with hp|hp
  ·obtain ⟨h1,h2⟩:=h p hp
   exact ⟨h1,fun u hu=>by have:=h2 u hu;simp;omega⟩
  ·simp only [List.mem_cons,List.not_mem_nil,or_false] at hp
   subst hp
   exact ⟨hP,fun u hu=>by have:=hlt u hu;simp;omega⟩
theorem alone_le {k n:Int}{m:Nat}(h:alone k n m=true):m≤8:=by
 unfold alone at h
 split at h
 ·simp only [Bool.and_eq_true,beq_iff_eq] at h;omega
 ·split at h
  ·simp only [Bool.and_eq_true,beq_iff_eq] at h;omega
  ·split at h
   ·simp only [Bool.and_eq_true,beq_iff_eq] at h;omega
   ·split at h
    ·simp only [Bool.and_eq_true,beq_iff_eq,decide_eq_true_eq] at h;omega
    ·cases h
theorem gadd_gp (F:Fo):∀G,GI G→Vok F→LenOk F→(∀x∈F.pre,alone x.1 x.2.1 x.2.2.2.1=true)→Gp G→Gp (gadd G F).1:=by
 induction F with
 | nil=>intro G _ _ _ _ h;rw [gadd_nil];exact h
 | cons k n u ps r i1 i2=>
  intro G hG hv hl ha h
  obtain ⟨v1,v2,v3⟩:=hv
  obtain ⟨l1,l2,l3⟩:=hl
  have g1:=gadd_ok ps G hG v2
  have p1:=i1 G hG v2 l2 (fun x hx=>ha x (by simp [Fo.pre,hx])) h
  have hk:k=1→(gadd G ps).2=[]:=fun h=>by rw [v1 h,gadd_nil]
  obtain ⟨_,ok2,_,_⟩:=gnode_ok (gadd G ps).1 k n (gadd G ps).2 g1.ok hk
  have h8:u.2.1≤8:=alone_le (ha (k,n,u) (by simp [Fo.pre]))
  have p2:=gnode_gp (k:=k) (n:=n) p1 (by rw [gadd_len];omega) g1.lt
  rw [←gadd1_eq] at ok2 p2
  rw [gadd_cons]
  exact i2 _ ok2 v3 l3 (fun x hx=>ha x (by simp [Fo.pre,hx])) p2
theorem gadd1_all {G:List Gn}{k n:Int}{u:Sl}{ps:Fo}(hG:GI G) (hp:Gp G) (hr:allAlone (Fo.cons k n u ps .nil).pre=true) (hl:LenOk (Fo.cons k n u ps .nil)):
  (∃X,(gadd1 G k n ps).1=G++X∧X.length≤1+ps.size)∧GI (gadd1 G k n ps).1∧Gp (gadd1 G k n ps).1∧(gadd1 G k n ps).2<(gadd1 G k n ps).1.length:=by
 have hv:=vok_of hr hl
 obtain ⟨⟨X,h1,h2⟩,h3,h4,_⟩:=gadd_ok _ G hG hv
 have h5:=gadd_gp _ G hG hv hl (by simpa [allAlone] using hr) hp
 rw [gadd_cons,gadd_nil] at h1 h3 h4 h5
 exact ⟨⟨X,h1,by simpa [Fo.size] using h2⟩,h3,h5,h4 _ (by simp)⟩
section
variable {O T:Nat→Prop}{w w' V:World}{cb:Nat}{A:Adr}{st:Int}{cl:Bool}{n:Nat}{G G':List Gn}{kn kn':Kn}{nx nx' col ro col' ro':Nat→Nat}{fs fs':Int}
theorem StX.like {S:Nat→Prop}{x0 x1 x2 x6 x7:Value}{f0 c fo ob:Nat}(h:StX S w cb x0 x1 x2 f0 c fo ob x6 x7 n col ro fs) (hc:∀i,i<n→col' i=col i) (hr:∀i,i<n→ro' i=ro i):StX S w cb x0 x1 x2 f0 c fo ob x6 x7 n col' ro' fs:=
 h.imp (fun h=>StM.like h hc hr) id
theorem ClM.like (h:ClM O w cb A st cl n G kn nx col ro fs) (hk:∀i,i<n→kn' i=kn i) (hx:∀i,i<n→nx' i=nx i) (hc:∀i,i<n→col' i=col i) (hr:∀i,i<n→ro' i=ro i):ClM O w cb A st cl n G kn' nx' col' ro' fs:=
 ⟨h.sets.like hc hr,h.gr,by rw [knR_congr hk];exact h.kr,by rw [Un.rowI_congr hx];exact h.nr,h.d,h.ks,h.ns,h.own,h.sb⟩
theorem ClM.tight (h:ClM O w cb A st cl n G kn nx col ro fs):ClM (fun k=>A.D k∨A.F cb k) w cb A st cl n G kn nx col ro fs:=
 ⟨h.sets,h.gr,h.kr,h.nr,h.d,h.ks,h.ns,fun _ hk=>hk,h.sb⟩
def Adr.gr (A:Adr) (v:Value) (L:List Nd):Adr:={ A with V:=v,L:=L }
theorem ClM.graph (h:ClM O w cb A st cl n G kn nx col ro fs) {v':Value}{X:List Nd}(hG:GrM 0 w' A.g v' A.mb (A.L++X) G') (hc:Chg w w' A.g A.mb A.V v') (hX:∀x∈X,∀b,(slv x.2.2.2).ownBlock=some b→w.heap.size≤b):
  ClM (fun k=>O k∨w.heap.size≤k) w' cb (A.gr v' (A.L++X)) st cl n G' kn nx col ro fs∧Else A.D w w'∧∀k,(A.gr v' (A.L++X)).D k→A.D k∨w.heap.size≤k:=by
 have he:Else A.D w w':=⟨hc.os,hc.tape,hc.output,hc.size,fun k hk hD=>hc.block k hk (fun e=>hD (.inl e)) (fun e=>hD (.inr (.inl e))) fun e=>hD (.inr (.inr (.inl e)))⟩
 have hnd:∀k,A.F cb k→¬ A.D k:=fun k hF hD=>h.d k hD hF
 have hD':∀k,(A.gr v' (A.L++X)).D k→A.D k∨w.heap.size≤k:=by
  rintro k (e|e|e|⟨x,hx,e⟩)
  ·exact .inl (.inl e)
  ·exact .inl (.inr (.inl e))
  ·rcases hc.at_ with e2|⟨b,e2,hb⟩
   ·exact .inl (.inr (.inr (.inl (e2.symm.trans e))))
   ·have e:v'.ownBlock=some k:=e
    rw [e2] at e
    cases e
    exact .inr hb
  ·rcases List.mem_append.1 hx with hx|hx
   ·exact .inl (.inr (.inr (.inr ⟨x,hx,e⟩)))
   ·exact .inr (hX x hx k e)
 refine ⟨⟨StX.keep h.sets he (hnd _ (.inr (.inl rfl))) (hnd _ (.inr (.inr (.inl rfl)))) (hnd _ (.inr (.inr (.inr (.inl rfl))))) (fun k hk=>hnd k (.inl hk)),hG,own_else h.kr he (fun k hk=>hnd k (.inr (.inr (.inr (.inr (.inl hk)))))),own_else h.nr he (fun k hk=>hnd k (.inr (.inr (.inr (.inr (.inr hk)))))),fun k hk hF=>?_,h.ks,h.ns,fun k hk=>?_,fun k hk=>Nat.lt_of_lt_of_le (h.sb k hk) he.size⟩,he,hD'⟩
 ·rcases hD' k hk with e|e
  ·exact h.d k e hF
  ·have:=h.lt (.inr hF)
   omega
 ·rcases hk with hk|hk
  ·exact (hD' k hk).imp (fun e=>h.own k (.inl e)) id
  ·exact .inl (h.own k (.inr hk))
theorem add_cl (h:ClM O w cb A st cl n G kn nx col ro fs) (hGI:GI G) (BT:Nat) (hBT:BT≤w.heap.size) (k n':Int) (u:Sl) (ps:Fo) (hps:TyV BT w ps (slv u)) (hwf:(Fo.cons k n' u ps .nil).wf)
  (hs:G.length+(1+ps.size)≤500000) (hr:allAlone (Fo.cons k n' u ps .nil).pre=true):
  Calls Tryz.prog 110 #[.pointer (some ⟨A.g,0,none⟩),tyVal k n' (slv u)] w fun e w'=>∃v' X,e = .returned (.tuple #[.int .i64 ((gadd1 G k n' ps).2:Nat),.int .i64 0])∧ClM (fun k=>O k∨w.heap.size≤k) w' cb (A.gr v' X) st cl n (gadd1 G k n' ps).1 kn nx col ro fs∧Else A.D w w'∧∀k,(A.gr v' X).D k→A.D k∨w.heap.size≤k:=
 (add_graph w 0 A.g A.mb A.V A.L G h.gr (Nat.zero_le _) hGI BT hBT k n' u ps hps hwf hs hr).mono fun _ _ ⟨v',X,h1,h2,h3,h4⟩=>
  have hh:=h.graph h2 h3 h4
  ⟨v',A.L++X,h1,hh.1,hh.2.1,hh.2.2⟩
end
end
section
open Go.RowKit
open Un (Else StM rowI UFo own_else dg swp wp_world paint cnt Rings)
set_option maxRecDepth 100000
def eqG (G:List Gn) (k n:Int) (ps:Fo) (k' n':Int) (ps':Fo):List Gn:=(gadd1 (gadd1 G k n ps).1 k' n' ps').1
def eqE (G:List Gn) (E:List (Nat×Nat)) (k n:Int) (ps:Fo) (k' n':Int) (ps':Fo):List (Nat×Nat):=E ++ [((gadd1 G k n ps).2,(gadd1 (gadd1 G k n ps).1 k' n' ps').2)]
def CsM (O:Nat→Prop) (w:World) (cb:Nat) (G:List Gn) (E:List (Nat×Nat)) (st fs:Int) (m:Nat):Prop:=
 (∃A kn nx col ro,ClM O w cb A st false G.length G kn nx col ro fs∧Js G G.length col ro kn E []∧Rings G.length nx (vc G col)∧(G.length=0→Bare w cb A.ob (.int .i64 st) (.bool false) (.pointer (some ⟨A.g,0,none⟩)) A.K A.N)∧Un.cnt G.length col=m)∧GI G∧Gp G
def CxM (w:World) (cb:Nat) (st:Int):Prop:=w.heap[cb]? = some (Obj.cells #[.int .i64 st,.bool true,.pointer none,.slice none 0 0,.int .i64 0,.map none,.slice none 0 0,.slice none 0 0] 150)
def EqPost (O:Nat→Prop) (w:World) (cb:Nat) (G:List Gn) (_E:List (Nat×Nat)) (st fs:Int) (m:Nat) (G2:List Gn) (E2:List (Nat×Nat)) (e:Go.Ending) (w':World):Prop:=
 Else O w w'∧∃(st':Int) (j:Nat),st≤st'∧st'≤st+j+4*(dg G2.length:Int)*j∧
  ((e = .returned (.int .i64 7)∧Clash G2 E2∧CxM w' cb st'∧j≤9*(m+(G2.length-G.length))+1)∨
   (e = .returned (.int .i64 0)∧¬ Clash G2 E2∧∃(fs':Int) (m':Nat),CsM (fun k=>O k∨w.heap.size≤k) w' cb G2 E2 st' fs' m'∧fs≤fs'∧fs'≤fs+4*(dg G2.length:Int)*j∧j+9*m'≤9*(m+(G2.length-G.length))+1))
def TyLat (O:Nat→Prop) (w:World) (k n:Int) (u:Sl) (ps:Fo):Prop:=
 ∀W,Else (fun k=>O k∨w.heap.size≤k) w W→∃ps2,(∀G,gadd1 G k n ps2=gadd1 G k n ps)∧ps2.size=ps.size∧TyV W.heap.size W ps2 (slv u)∧(Fo.cons k n u ps2 .nil).wf∧allAlone (Fo.cons k n u ps2 .nil).pre=true
section
variable {O T:Nat→Prop}{w w' V:World}{cb:Nat}{A:Adr}{st:Int}{cl:Bool}{n m:Nat}{G:List Gn}{kn:Kn}{nx col ro col' ro':Nat→Nat}{fs fs':Int}{E:List (Nat×Nat)}
theorem err_cx (h:CxM w cb st):Calls Tryz.prog 109 #[.pointer (some ⟨cb,0,none⟩)] w fun e w'=>e = .returned (.int .i64 7)∧w'=w:=by
 have c1:w.cell? ⟨cb,1,none⟩=some (.bool true):=cell_of_row w cb 1 _ _ (0,0) h
 have hl:=(gL h).1
 clear h
 go_enter Tryz.func109,Tryz.ntmps109
 go_wp2_with fail
 exact bodyPost_ret (results_tmp rfl _ _ _) rfl ⟨rfl,rfl⟩
theorem gK_new {G2:List Gn}{i:Nat}{p:Gn}(hi:n≤i) (hp:G2[i]? = some p):gK G2 n kn i=if p.1=1 then (none,some i) else (some i,none):=by
 unfold gK
 rw [if_neg (by omega)]
 by_cases h:p.1=1
 ·rw [if_pos (isV_of ⟨p,hp,h⟩),if_pos h]
 ·rw [if_neg h,if_neg]
  intro e
  obtain ⟨q,hq,q1⟩:=of_isV e
  rw [hp] at hq
  cases hq
  exact h q1
theorem cx_of {a0 a1 a2 a3 a4 a5 a6 a7:Value}(h:w.heap[cb]? = some (Obj.cells #[a0,a1,a2,a3,a4,a5,a6,a7] 150)) (s:Int):
  CxM ((((((((w.setCell ⟨cb,0,none⟩ (.int .i64 s)).setCell ⟨cb,1,none⟩ (.bool true)).setCell ⟨cb,2,none⟩ (.pointer none)).setCell ⟨cb,3,none⟩ (.slice none 0 0)).setCell ⟨cb,4,none⟩ (.int .i64 0)).setCell ⟨cb,5,none⟩ (.map none)).setCell ⟨cb,6,none⟩ (.slice none 0 0)).setCell ⟨cb,7,none⟩ (.slice none 0 0)) cb s∧
  Else (fun k=>k=cb) w ((((((((w.setCell ⟨cb,0,none⟩ (.int .i64 s)).setCell ⟨cb,1,none⟩ (.bool true)).setCell ⟨cb,2,none⟩ (.pointer none)).setCell ⟨cb,3,none⟩ (.slice none 0 0)).setCell ⟨cb,4,none⟩ (.int .i64 0)).setCell ⟨cb,5,none⟩ (.map none)).setCell ⟨cb,6,none⟩ (.slice none 0 0)).setCell ⟨cb,7,none⟩ (.slice none 0 0)):=by
 have hE0:=Un.Else.refl (fun k=>k=cb) w
 obtain ⟨x1,hx1⟩:∃z,w.setCell ⟨cb,0,none⟩ (.int .i64 s)=z:=⟨_,rfl⟩
 have h1:x1.heap[cb]? = some (Obj.cells #[.int .i64 s,a1,a2,a3,a4,a5,a6,a7] 150):=by rw [←hx1];exact heap_setCell_same w cb 0 _ _ _ h
 have hE1:Else (fun k=>k=cb) w x1:=hE0.trans (by rw [←hx1];exact Un.Else.set (S:=fun k=>k=cb) w (p:=⟨cb,0,none⟩) rfl _)
 rw [hx1]
 obtain ⟨x2,hx2⟩:∃z,x1.setCell ⟨cb,1,none⟩ (.bool true)=z:=⟨_,rfl⟩
 have h2:x2.heap[cb]? = some (Obj.cells #[.int .i64 s,.bool true,a2,a3,a4,a5,a6,a7] 150):=by rw [←hx2];exact heap_setCell_same x1 cb 1 _ _ _ h1
 have hE2:Else (fun k=>k=cb) w x2:=hE1.trans (by rw [←hx2];exact Un.Else.set (S:=fun k=>k=cb) x1 (p:=⟨cb,1,none⟩) rfl _)
 rw [hx2]
 obtain ⟨x3,hx3⟩:∃z,x2.setCell ⟨cb,2,none⟩ (.pointer none)=z:=⟨_,rfl⟩
 have h3:x3.heap[cb]? = some (Obj.cells #[.int .i64 s,.bool true,.pointer none,a3,a4,a5,a6,a7] 150):=by rw [←hx3];exact heap_setCell_same x2 cb 2 _ _ _ h2
 have hE3:Else (fun k=>k=cb) w x3:=hE2.trans (by rw [←hx3];exact Un.Else.set (S:=fun k=>k=cb) x2 (p:=⟨cb,2,none⟩) rfl _)
 rw [hx3]
 obtain ⟨x4,hx4⟩:∃z,x3.setCell ⟨cb,3,none⟩ (.slice none 0 0)=z:=⟨_,rfl⟩
 have h4:x4.heap[cb]? = some (Obj.cells #[.int .i64 s,.bool true,.pointer none,.slice none 0 0,a4,a5,a6,a7] 150):=by rw [←hx4];exact heap_setCell_same x3 cb 3 _ _ _ h3
 have hE4:Else (fun k=>k=cb) w x4:=hE3.trans (by rw [←hx4];exact Un.Else.set (S:=fun k=>k=cb) x3 (p:=⟨cb,3,none⟩) rfl _)
 rw [hx4]
 obtain ⟨x5,hx5⟩:∃z,x4.setCell ⟨cb,4,none⟩ (.int .i64 0)=z:=⟨_,rfl⟩
 have h5:x5.heap[cb]? = some (Obj.cells #[.int .i64 s,.bool true,.pointer none,.slice none 0 0,.int .i64 0,a5,a6,a7] 150):=by rw [←hx5];exact heap_setCell_same x4 cb 4 _ _ _ h4
 have hE5:Else (fun k=>k=cb) w x5:=hE4.trans (by rw [←hx5];exact Un.Else.set (S:=fun k=>k=cb) x4 (p:=⟨cb,4,none⟩) rfl _)
 rw [hx5]
 obtain ⟨x6,hx6⟩:∃z,x5.setCell ⟨cb,5,none⟩ (.map none)=z:=⟨_,rfl⟩
 have h6:x6.heap[cb]? = some (Obj.cells #[.int .i64 s,.bool true,.pointer none,.slice none 0 0,.int .i64 0,.map none,a6,a7] 150):=by rw [←hx6];exact heap_setCell_same x5 cb 5 _ _ _ h5
 have hE6:Else (fun k=>k=cb) w x6:=hE5.trans (by rw [←hx6];exact Un.Else.set (S:=fun k=>k=cb) x5 (p:=⟨cb,5,none⟩) rfl _)
 rw [hx6]
 obtain ⟨x7,hx7⟩:∃z,x6.setCell ⟨cb,6,none⟩ (.slice none 0 0)=z:=⟨_,rfl⟩
 have h7:x7.heap[cb]? = some (Obj.cells #[.int .i64 s,.bool true,.pointer none,.slice none 0 0,.int .i64 0,.map none,.slice none 0 0,a7] 150):=by rw [←hx7];exact heap_setCell_same x6 cb 6 _ _ _ h6
 have hE7:Else (fun k=>k=cb) w x7:=hE6.trans (by rw [←hx7];exact Un.Else.set (S:=fun k=>k=cb) x6 (p:=⟨cb,6,none⟩) rfl _)
 rw [hx7]
 obtain ⟨x8,hx8⟩:∃z,x7.setCell ⟨cb,7,none⟩ (.slice none 0 0)=z:=⟨_,rfl⟩
 have h8:x8.heap[cb]? = some (Obj.cells #[.int .i64 s,.bool true,.pointer none,.slice none 0 0,.int .i64 0,.map none,.slice none 0 0,.slice none 0 0] 150):=by rw [←hx8];exact heap_setCell_same x7 cb 7 _ _ _ h7
 have hE8:Else (fun k=>k=cb) w x8:=hE7.trans (by rw [←hx8];exact Un.Else.set (S:=fun k=>k=cb) x7 (p:=⟨cb,7,none⟩) rfl _)
 rw [hx8]
 exact ⟨h8,hE8⟩
set_option maxHeartbeats 4000000 in
theorem equate_ok (h:CsM O w cb G E st fs m) (k n k' n':Int) (u u':Sl) (ps ps':Fo) (hT:TyLat O w k n u ps) (hT':TyLat O w k' n' u' ps')
  (hs:G.length+(1+ps.size)+(1+ps'.size)≤400000) (hst:0≤st∧st≤100000000000) (hfs:0≤fs∧fs≤100000000000):
  Calls Tryz.prog 77 #[.pointer (some ⟨cb,0,none⟩),tyVal k n (slv u),tyVal k' n' (slv u')] w (EqPost O w cb G E st fs m (eqG G k n ps k' n' ps') (eqE G E k n ps k' n' ps')):=by
 obtain ⟨u1,u2,u3⟩:=u
 obtain ⟨v1,v2,v3⟩:=u'
 obtain ⟨⟨A,kn,nx,col,ro,hC,hJ,hR,hB,hm⟩,hGI,hGp⟩:=h
 obtain ⟨p0,e0,s0,t0,_,a0⟩:=hT w (Else.refl _ _)
 obtain ⟨p0',e0',s0',t0',_,a0'⟩:=hT' w (Else.refl _ _)
 have hl1:LenOk (Fo.cons k n (u1,u2,u3) p0 .nil):=⟨TyV.len (u:=(u1,u2,u3)) t0,(TyV.list t0).lenOk,trivial⟩
 have hl2:LenOk (Fo.cons k' n' (v1,v2,v3) p0' .nil):=⟨TyV.len (u:=(v1,v2,v3)) t0',(TyV.list t0').lenOk,trivial⟩
 have hga:=gadd1_all hGI hGp a0 hl1
 rw [e0,s0] at hga
 obtain ⟨⟨X1,hX1,hX1s⟩,hGI1,hGp1,ha1⟩:=hga
 have hgb:=gadd1_all hGI1 hGp1 a0' hl2
 rw [e0',s0'] at hgb
 obtain ⟨⟨X2,hX2,hX2s⟩,hGI2,hGp2,hb2⟩:=hgb
 clear e0 s0 t0 a0 e0' s0' t0' a0' hl1 hl2
 obtain ⟨w1,hw1⟩:∃w1,(w.alloc (.cells #[.int .i64 k,.int .i64 n,.slice u1 u2 u3] 25)).alloc (.cells #[.int .i64 k',.int .i64 n',.slice v1 v2 v3] 25)=w1:=⟨_,rfl⟩
 have hb1:Below w.heap.size w w1:=by rw [←hw1];exact ((Below.refl _ _).alloc (Nat.le_refl _) _).alloc (by simp) _
 have hA1:w1.heap[w.heap.size]? = some (.cells #[.int .i64 k,.int .i64 n,.slice u1 u2 u3] 25):=by rw [←hw1];exact (Below.heap_alloc _ _ _ (by simp)).trans (heap_alloc_new _ _)
 have hB1:w1.heap[w.heap.size+1]? = some (.cells #[.int .i64 k',.int .i64 n',.slice v1 v2 v3] 25):=by rw [←hw1];have h:=heap_alloc_new (w.alloc (.cells #[.int .i64 k,.int .i64 n,.slice u1 u2 u3] 25)) (.cells #[.int .i64 k',.int .i64 n',.slice v1 v2 v3] 25);simp only [World.size_alloc] at h;exact h
 have hC1:=hC.below hb1
 have HER:=err_cl hC1
 have y0:w1.cell? ⟨w.heap.size+1,0,none⟩=some (.int .i64 k'):=cell_of_row w1 _ 0 _ _ (0,0) hB1
 have y1:w1.cell? ⟨w.heap.size+1,1,none⟩=some (.int .i64 n'):=cell_of_row w1 _ 1 _ _ (0,0) hB1
 have y2:w1.cell? ⟨w.heap.size+1,2,none⟩=some (.slice v1 v2 v3):=cell_of_row w1 _ 2 _ _ (0,0) hB1
 obtain ⟨p1',_,s1',t1',_,a1'⟩:=hT' w1 (Else.of_below hb1)
 have HRI:=right_any w1 w1.heap.size k' n' (v1,v2,v3) p1' (Nat.le_refl _) t1' (by omega)
 rw [a1'] at HRI
 clear s1' t1' a1'
 have hkcb:cb<w.heap.size:=hC.lt (.inr (.inr (.inl rfl)))
 have HC:=kI (aI hC (aI hC1 (aI hJ (aI hR (aI hB hm)))))
 have HG:=kI (aI hGI (aI hGI1 (aI hGp2 (aI hGI2 (aI ha1 (aI hb2 (aI hX1 (aI hX1s (aI hX2 hX2s)))))))))
 have HT:=kI (aI hT hT')
 have HW:=kI (aI hb1 (aI hA1 hB1))
 have HERH:=kI HER
 have HRIH:=kI HRI
 clear hC hC1 hJ hR hB hm hGI hGI1 hGp2 hGI2 ha1 hb2 hX1 hX1s hX2 hX2s hT hT' hb1 hA1 hB1 HER HRI hGp hGp1
 dsimp only [tyVal,slv] at HRIH ⊢
 go_enter Tryz.func77,Tryz.ntmps77
 go_wp2_with fail
 refine HERH.out.mono ?_
 rintro e w2 ⟨rfl,rfl⟩
 clear HERH hw1
 dsimp only [errN]
 go_wp2_with fail
 refine HRIH.out.mono ?_
 rintro e w3 ⟨rfl,hb3⟩
 have HB3:=kI (show Below w.heap.size w w3 from HW.out.1.trans (hb3.mono HW.out.1.size))
 have hA3:=(hb3.block _ (gL HW.out.2.1).1).trans HW.out.2.1
 have hB3:=(hb3.block _ (gL HW.out.2.2).1).trans HW.out.2.2
 have hC3:=HC.out.2.1.below hb3
 obtain ⟨cl0,_,_,_,c2,_,_⟩:=hC3.cells
 have HC3:=kI (aI hC3 (aI hA3 hB3))
 clear hb3 hC3 hA3 hB3 y0 y1 y2 HRIH
 go_wp2_with fail
 obtain ⟨S0,hSof,hSto⟩:∃S0:World→Prop,(∀W:World,(W.cell? ⟨cb,2,none⟩=some (.pointer (some ⟨A.g,0,none⟩))∧W.heap[w.heap.size]? = some (.cells #[.int .i64 k,.int .i64 n,.slice u1 u2 u3] 25))→S0 W)∧(∀W,S0 W→W.cell? ⟨cb,2,none⟩=some (.pointer (some ⟨A.g,0,none⟩))∧W.cell? ⟨w.heap.size,0,none⟩=some (.int .i64 k)∧W.cell? ⟨w.heap.size,1,none⟩=some (.int .i64 n)∧W.cell? ⟨w.heap.size,2,none⟩=some (.slice u1 u2 u3)):=
  ⟨_,fun _ h=>h,fun W h=>⟨h.1,cell_of_row W _ 0 _ _ (0,0) h.2,cell_of_row W _ 1 _ _ (0,0) h.2,cell_of_row W _ 2 _ _ (0,0) h.2⟩⟩
 have hS:S0 w3.drew:=hSof _ ⟨c2,HC3.out.2.1⟩
 obtain ⟨p3,e3,s3,t3,wf3,a3⟩:=HT.out.1 w3.drew (Un.Else.drew (Else.of_below HB3.out))
 have HAD:Calls Tryz.prog 110 #[.pointer (some ⟨A.g,0,none⟩),.agg #[.int .i64 k,.int .i64 n,.slice u1 u2 u3]] w3.drew fun e w'=>∃v' X,e = .returned (.tuple #[.int .i64 ((gadd1 G k n ps).2:Nat),.int .i64 0])∧ClM (fun k=>O k∨w3.drew.heap.size≤k) w' cb (A.gr v' X) st false G.length (gadd1 G k n ps).1 kn nx col ro fs∧Else A.D w3.drew w'∧∀j,(A.gr v' X).D j→A.D j∨w3.drew.heap.size≤j:=by
  have h:=add_cl (HC3.out.1.below (Below.refl _ w3).drew) HG.out.1 w3.drew.heap.size (Nat.le_refl _) k n (u1,u2,u3) p3 t3 wf3 (by omega) a3
  rw [e3] at h
  exact h
 clear e3 s3 t3 wf3 a3
 have EX:=kI hSto
 have HSOF:=kI hSof
 have HADH:=kI HAD
 clear hSof hSto HAD c2
 refine wp_region_held (S:=S0) (by kernel_rfl) ?_
 change wpAnyH _ _ _ _ _ 11 (List.replicate 11 false).toArray _ w3.drew
 simp only [List.replicate_succ,List.replicate_zero]
 refine tj (i:=0) (some 21) (.pointer (some ⟨cb,0,none⟩)) rfl hS ?_
 simp only [Act.put,zA,zB,zC]
 refine tj (i:=1) (some 22) (.pointer (some ⟨cb,0,none⟩)) rfl hS ?_
 simp only [Act.put,zA,zB,zC]
 refine tj (i:=2) (some 23) (.pointer (some ⟨cb,2,none⟩)) rfl hS ?_
 simp only [Act.put,zA,zB,zC]
 refine tk (i:=3) (some 24) (.pointer (some ⟨A.g,0,none⟩)) rfl (fun W hw=>by obtain ⟨n0,n1,n2,n3⟩:=EX.out W hw;clear hw;go_simp) hS ?_
 simp only [Act.put,zA,zB,zC]
 refine tk (i:=4) (some 25) (.agg #[.int .i64 k,.int .i64 n,.slice u1 u2 u3]) rfl (fun W hw=>by obtain ⟨n0,n1,n2,n3⟩:=EX.out W hw;clear hw;go_simp) hS ?_
 simp only [Act.put,zA,zB,zC]
 refine aK 5 ?_
 refine ops_call (d:=some 26) rfl (by rfl) (by kernel_rfl) (by go_simp) (HADH.out.mono ?_)
 rintro e w4 ⟨vg,Xg,rfl,hC4,hE4,hD4⟩
 have hA4:=(hE4.block w.heap.size (gL HC3.out.2.1).1 (fun hD=>by have:=HC.out.1.lt (.inl hD);omega)).trans HC3.out.2.1
 have hB4:=(hE4.block (w.heap.size+1) (gL HC3.out.2.2).1 (fun hD=>by have:=HC.out.1.lt (.inl hD);omega)).trans HC3.out.2.2
 obtain ⟨_,_,_,_,c24,_,_⟩:=hC4.cells
 have hS4:=HSOF.out w4 ⟨c24,hA4⟩
 obtain ⟨na,hna⟩:∃z,(gadd1 G k n ps).2=z:=⟨_,rfl⟩
 have HC4:=kI (aI hC4 (aI hE4 (aI hB4 (aI hD4 hna))))
 rw [hna]
 clear hC4 hE4 hA4 hB4 hna hD4
 refine ⟨_,rfl,hS4,?_⟩
 simp only [Act.put,zA,zB,zC]
 refine tj (i:=6) (some 20) (.tuple #[.int .i64 (na:Nat),.int .i64 0]) rfl hS4 ?_
 simp only [Act.put,zA,zB,zC]
 refine tj (i:=7) (some 27) (.int .i64 (na:Nat)) rfl hS4 ?_
 simp only [Act.put,zA,zB,zC]
 refine tj (i:=8) (some 28) (.int .i64 0) rfl hS4 ?_
 simp only [Act.put,zA,zB,zC]
 refine tj (i:=9) (some 8) (.int .i64 (na:Nat)) rfl hS4 ?_
 simp only [Act.put,zA,zB,zC]
 refine tj (i:=10) (some 9) (.int .i64 0) rfl hS4 ?_
 simp only [Act.put,zA,zB,zC]
 refine wpAnyH_done (by kernel_rfl) ?_ _
 clear hS hS4 HADH EX HSOF
 go_wp2_with fail
 obtain ⟨S0,hSof,hSto⟩:∃S0:World→Prop,(∀W:World,(W.cell? ⟨cb,2,none⟩=some (.pointer (some ⟨A.g,0,none⟩))∧W.heap[w.heap.size+1]? = some (.cells #[.int .i64 k',.int .i64 n',.slice v1 v2 v3] 25))→S0 W)∧(∀W,S0 W→W.cell? ⟨cb,2,none⟩=some (.pointer (some ⟨A.g,0,none⟩))∧W.cell? ⟨w.heap.size+1,0,none⟩=some (.int .i64 k')∧W.cell? ⟨w.heap.size+1,1,none⟩=some (.int .i64 n')∧W.cell? ⟨w.heap.size+1,2,none⟩=some (.slice v1 v2 v3)):=
  ⟨_,fun _ h=>h,fun W h=>⟨h.1,cell_of_row W _ 0 _ _ (0,0) h.2,cell_of_row W _ 1 _ _ (0,0) h.2,cell_of_row W _ 2 _ _ (0,0) h.2⟩⟩
 have hS:S0 w4.drew:=hSof _ ⟨c24,HC4.out.2.2.1⟩
 have hew4:Else (fun j=>O j∨w.heap.size≤j) w w4.drew:=by
  have h1:Else (fun j=>O j∨w.heap.size≤j) w w3.drew:=Un.Else.drew (Else.of_below HB3.out)
  exact h1.trans (Un.Else.drew (HC4.out.2.1.mono fun j hj=>.inl (HC.out.1.own j (.inl hj))))
 obtain ⟨p4,e4,s4,t4,wf4,a4⟩:=HT.out.2 w4.drew hew4
 have HAD:Calls Tryz.prog 110 #[.pointer (some ⟨A.g,0,none⟩),.agg #[.int .i64 k',.int .i64 n',.slice v1 v2 v3]] w4.drew fun e w'=>∃v' X,e = .returned (.tuple #[.int .i64 ((gadd1 (gadd1 G k n ps).1 k' n' ps').2:Nat),.int .i64 0])∧ClM (fun k=>(O k∨w3.drew.heap.size≤k)∨w4.drew.heap.size≤k) w' cb ((A.gr vg Xg).gr v' X) st false G.length (eqG G k n ps k' n' ps') kn nx col ro fs∧Else (A.gr vg Xg).D w4.drew w'∧∀j,((A.gr vg Xg).gr v' X).D j→(A.gr vg Xg).D j∨w4.drew.heap.size≤j:=by
  have hsz:(gadd1 G k n ps).1.length+(1+p4.size)≤500000:=by
   have h1:=HG.out.2.2.2.2.2.2.1
   have h2:=HG.out.2.2.2.2.2.2.2.1
   rw [h1,List.length_append]
   omega
  have h:=add_cl (A:=A.gr vg Xg) (HC4.out.1.below (Below.refl _ w4).drew) HG.out.2.1 w4.drew.heap.size (Nat.le_refl _) k' n' (v1,v2,v3) p4 t4 wf4 hsz a4
  rw [e4] at h
  exact h
 clear e4 s4 t4 wf4 a4 hew4
 have EX:=kI hSto
 have HSOF:=kI hSof
 have HADH:=kI HAD
 clear hSof hSto HAD c24
 refine wp_region_held (S:=S0) (by kernel_rfl) ?_
 change wpAnyH _ _ _ _ _ 11 (List.replicate 11 false).toArray _ w4.drew
 simp only [List.replicate_succ,List.replicate_zero]
 refine tj (i:=0) (some 33) (.pointer (some ⟨cb,0,none⟩)) rfl hS ?_
 simp only [Act.put,zA,zB,zC]
 refine tj (i:=1) (some 34) (.pointer (some ⟨cb,0,none⟩)) rfl hS ?_
 simp only [Act.put,zA,zB,zC]
 refine tj (i:=2) (some 35) (.pointer (some ⟨cb,2,none⟩)) rfl hS ?_
 simp only [Act.put,zA,zB,zC]
 refine tk (i:=3) (some 36) (.pointer (some ⟨A.g,0,none⟩)) rfl (fun W hw=>by obtain ⟨n0,n1,n2,n3⟩:=EX.out W hw;clear hw;go_simp) hS ?_
 simp only [Act.put,zA,zB,zC]
 refine tk (i:=4) (some 37) (.agg #[.int .i64 k',.int .i64 n',.slice v1 v2 v3]) rfl (fun W hw=>by obtain ⟨n0,n1,n2,n3⟩:=EX.out W hw;clear hw;go_simp) hS ?_
 simp only [Act.put,zA,zB,zC]
 refine aK 5 ?_
 refine ops_call (d:=some 38) rfl (by rfl) (by kernel_rfl) (by go_simp) (HADH.out.mono ?_)
 rintro e w5 ⟨vh,Xh,rfl,hC5,hE5,hD5⟩
 have hB5:=(hE5.block (w.heap.size+1) (gL HC4.out.2.2.1).1 (fun hD=>by
  rcases HC4.out.2.2.2.1 _ hD with e|e
  ·have:=HC.out.1.lt (.inl e)
   omega
  ·have h1:w3.drew.heap.size=w3.heap.size:=rfl
   have:=(gL HC3.out.2.2).1
   omega)).trans HC4.out.2.2.1
 obtain ⟨_,_,_,_,c25,_,_⟩:=hC5.cells
 have hS5:=HSOF.out w5 ⟨c25,hB5⟩
 obtain ⟨nb,hnb⟩:∃z,(gadd1 (gadd1 G k n ps).1 k' n' ps').2=z:=⟨_,rfl⟩
 have HC5:=kI (aI hC5 (aI hE5 hnb))
 rw [hnb]
 clear hC5 hE5 hB5 hnb hD5 c25
 refine ⟨_,rfl,hS5,?_⟩
 simp only [Act.put,zA,zB,zC]
 refine tj (i:=6) (some 32) (.tuple #[.int .i64 (nb:Nat),.int .i64 0]) rfl hS5 ?_
 simp only [Act.put,zA,zB,zC]
 refine tj (i:=7) (some 39) (.int .i64 (nb:Nat)) rfl hS5 ?_
 simp only [Act.put,zA,zB,zC]
 refine tj (i:=8) (some 40) (.int .i64 0) rfl hS5 ?_
 simp only [Act.put,zA,zB,zC]
 refine tj (i:=9) (some 10) (.int .i64 (nb:Nat)) rfl hS5 ?_
 simp only [Act.put,zA,zB,zC]
 refine tj (i:=10) (some 11) (.int .i64 0) rfl hS5 ?_
 simp only [Act.put,zA,zB,zC]
 refine wpAnyH_done (by kernel_rfl) ?_ _
 clear hS hS5 HADH EX HSOF
 obtain ⟨G2,hG2⟩:∃z,eqG G k n ps k' n' ps'=z:=⟨_,rfl⟩
 obtain ⟨E2,hE2⟩:∃z,eqE G E k n ps k' n' ps'=z:=⟨_,rfl⟩
 have hX:∃X,G2=G++X∧X.length≤(1+ps.size)+(1+ps'.size):=by
  obtain ⟨_,_,_,_,_,_,h1,h2,h3,h4⟩:=HG.out
  refine ⟨X1++X2,?_,?_⟩
  ·rw [←hG2]
   show (gadd1 (gadd1 G k n ps).1 k' n' ps').1=_
   rw [h3,h1,List.append_assoc]
  ·rw [List.length_append]
   omega
 obtain ⟨X,hX,hXs⟩:=hX
 have hE2':E2=E ++ [(na,nb)]:=by rw [←hE2,←HC4.out.2.2.2.2,←HC5.out.2.2];rfl
 have hlenG:G.length≤G2.length∧G2.length≤400000:=by rw [hX,List.length_append];omega
 obtain ⟨M,hM⟩:=bound_col G.length col
 have hna2:na<G2.length:=by
  obtain ⟨_,_,_,_,h5,_,_,_,h3,_⟩:=HG.out
  have e:G2=(gadd1 (gadd1 G k n ps).1 k' n' ps').1:=hG2.symm
  rw [e,h3,List.length_append,←HC4.out.2.2.2.2]
  omega
 have hnb2:nb<G2.length:=by
  obtain ⟨_,_,_,_,_,h6,_⟩:=HG.out
  have e:G2=(gadd1 (gadd1 G k n ps).1 k' n' ps').1:=hG2.symm
  rw [e,←HC5.out.2.2]
  exact h6
 have hGp2:Gp G2:=by rw [←hG2];exact HG.out.2.2.1
 have hGI2:GI G2:=by rw [←hG2];exact HG.out.2.2.2.1
 have hC5:=HC5.out.1
 rw [hG2] at hC5
 have hJ2:Js G2 G2.length (gC G.length M col) (gI G.length ro) (gK G2 G.length kn) E2 [(na,nb)]:=by
  rw [hE2',hX]
  rw [hX] at hna2 hnb2 hGp2
  exact HC.out.2.2.1.grow hM (fun x p hp u hu=>(hGp2 p (List.mem_of_getElem? hp)).2 u hu) hna2 hnb2
 have hR2:Rings G2.length (gI G.length nx) (vc G2 (gC G.length M col)):=by
  rw [hX]
  exact rings_app HC.out.2.2.2.1 rfl hM
 have hcn:Un.cnt G2.length (gC G.length M col)≤m+(G2.length-G.length):=by
  have:=cnt_gC (n:=G.length) (M:=M) (col:=col) hlenG.1
  rw [HC.out.2.2.2.2.2] at this
  exact this
 have hlk:ClM (fun k=>(O k∨w3.drew.heap.size≤k)∨w4.drew.heap.size≤k) w5 cb ((A.gr vg Xg).gr vh Xh) st false G.length G2 (gK G2 G.length kn) (gI G.length nx) (gC G.length M col) (gI G.length ro) fs:=
  hC5.like (fun i hi=>by simp [gK,hi]) (fun i hi=>by simp [gI,hi]) (fun i hi=>by simp [gC,hi]) (fun i hi=>by simp [gI,hi])
 have hbare:G.length=0→Bare w5 cb A.ob (.int .i64 st) (.bool false) (.pointer (some ⟨A.g,0,none⟩)) A.K A.N:=by
  intro h0
  have hb:=HC.out.2.2.2.2.1 h0
  unfold Bare at hb ⊢
  have h1:=(HB3.out.block cb hkcb).trans hb
  have h2:=(HC4.out.2.1.block cb (gL (show w3.drew.heap[cb]? = _ from h1)).1 (fun e=>HC.out.1.d cb e (.inr (.inl rfl)))).trans h1
  exact (HC5.out.2.1.block cb (gL (show w4.drew.heap[cb]? = _ from h2)).1 (fun e=>HC4.out.1.d cb e (.inr (.inl rfl)))).trans h2
 have HGR:=grow_cl hlk hbare hlenG.1 (by omega) (fun i p hi hp=>gK_new hi hp) (fun i hi=>by simp [gI];omega) (fun i hi=>by simp [gI];omega) (fun i k hi hk e=>by rcases (gC_iff hM k i).1 e with e|e<;>omega)
 rw [hG2,hE2]
 have hEw5:Else (fun j=>O j∨w.heap.size≤j) w w5:=by
  have hOD:∀j,A.D j→O j:=fun j hj=>HC.out.1.own j (.inl hj)
  have h1:Else (fun j=>O j∨w.heap.size≤j) w w3.drew:=Un.Else.drew (Else.of_below HB3.out)
  have h2:Else (fun j=>O j∨w.heap.size≤j) w3.drew w4.drew:=Un.Else.drew (HC4.out.2.1.mono fun j hj=>.inl (hOD j hj))
  have h3:Else (fun j=>O j∨w.heap.size≤j) w4.drew w5:=HC5.out.2.1.mono fun j hj=>(HC4.out.2.2.2.1 j hj).imp (hOD j) fun e=>Nat.le_trans HB3.out.size e
  exact (h1.trans h2).trans h3
 have HL:=kI (aI hJ2 (aI hR2 (aI hcn (aI hlk (aI hGp2 (aI hGI2 (aI hlenG (aI hna2 hEw5))))))))
 have HGRH:=kI HGR
 have HX:=kI (aI hG2 (aI hE2 (aI hX (aI hXs hE2'))))
 clear hC5 hJ2 hR2 hcn hlk hGp2 hGI2 hlenG hna2 hEw5 HGR hG2 hE2 hX hXs hE2' hnb2 hbare hM
 go_wp2_with fail
 refine HGRH.out.mono ?_
 rintro e w6 ⟨rfl,⟨A6,hC6⟩,hE6⟩
 have hn6:0<G2.length:=by have:=HL.out.2.2.2.2.2.2.2.1;omega
 have HJA:=joinAll_cl hC6.tight (fun j hj=>hC6.lt hj) hn6 na nb HL.out.1 HL.out.2.1 (fun p hp=>(HL.out.2.2.2.2.1 p hp).1) hst hfs
 have hO6:∀j,A6.D j∨A6.F cb j→O j∨w.heap.size≤j:=by
  intro j hj
  have e3:w3.drew.heap.size=w3.heap.size:=rfl
  have e4:w4.drew.heap.size=w4.heap.size:=rfl
  have h3:=HB3.out.size
  have h4:=HC4.out.2.1.size
  have h5:=HC5.out.2.1.size
  rcases hC6.own j hj with ((e|e)|e)|e
  ·exact .inl e
  ·exact .inr (by omega)
  ·exact .inr (by omega)
  ·exact .inr (by omega)
 have hEw6:Else (fun j=>O j∨w.heap.size≤j) w w6:=HL.out.2.2.2.2.2.2.2.2.trans (hE6.mono fun j hj=>by
  have e3:w3.drew.heap.size=w3.heap.size:=rfl
  have e4:w4.drew.heap.size=w4.heap.size:=rfl
  have h3:=HB3.out.size
  have h4:=HC4.out.2.1.size
  rcases hj with (e|e)|e
  ·exact .inl e
  ·exact .inr (by omega)
  ·exact .inr (by omega))
 have HC6:=kI (aI hC6 (aI hO6 hEw6))
 have HJH:=kI HJA
 clear hC6 hE6 hO6 hEw6 HJA HGRH
 go_wp2_with fail
 refine HJH.out.mono ?_
 rintro e w7 ⟨rfl,⟨cl7,j,kn7,nx7,col7,ro7,fs7,hC7,hf1,hf2,hjM,hcl,hok⟩,hE7⟩
 obtain ⟨s7,hs7⟩:∃z,st+(j:Int)+(fs7-fs)=z:=⟨_,rfl⟩
 rw [hs7] at hC7
 have hEw7:Else O w w7:=(HC6.out.2.2.trans (hE7.mono fun i hi=>HC6.out.2.1 i hi)).old fun i hi=>hi
 obtain ⟨F7,hF7⟩:=hC7.blk
 have c17:w7.cell? ⟨cb,1,none⟩=some (.bool cl7):=cell_of_row w7 cb 1 _ _ (0,0) hF7
 have c07:w7.cell? ⟨cb,0,none⟩=some (.int .i64 s7):=cell_of_row w7 cb 0 _ _ (0,0) hF7
 have hl7:=(gL hF7).1
 have hz7:∀i,w7.frozen? ⟨cb,i,none⟩=false:=fun i=>by simp [World.frozen?,hF7]
 have hsum:st≤s7∧s7≤st+j+4*(dg G2.length:Int)*j∧j≤9*(m+(G2.length-G.length))+1:=by
  have:=HL.out.2.2.1
  omega
 have H7:=kI (aI hC7 (aI hf1 (aI hf2 (aI hsum (aI hcl (aI hok (aI hEw7 hF7)))))))
 clear hC7 hf1 hf2 hjM hcl hok hE7 hs7 hsum hEw7 HJH
 obtain ⟨K6,hK6⟩:∃z,A6.K=z:=⟨_,rfl⟩
 obtain ⟨N6,hN6⟩:∃z,A6.N=z:=⟨_,rfl⟩
 rw [hK6,hN6] at hF7
 cases cl7 with
 | false=>
  have HE:=err_cl H7.out.1
  have H8:=kI (H7.out.2.2.2.2.2.1 rfl)
  clear c07 hz7
  go_wp2_with fail
  refine HE.mono ?_
  rintro e w8 ⟨rfl,rfl⟩
  clear HE
  dsimp only [errN]
  go_wp2_with fail
  obtain ⟨hC7,hf1,hf2,hsum,hcl,hok,hEw7,hF7⟩:=H7.out
  obtain ⟨hJ7,hR7,hjm⟩:=H8.out
  have h5:=HL.out.2.2.1
  refine bodyPost_ret (results_tmp rfl _ _ _) rfl ?_
  rw [HX.out.1,HX.out.2.1]
  refine ⟨hEw7,s7,j,hsum.1,hsum.2.1,.inr ⟨rfl,hJ7.jn.noClash,fs7,Un.cnt G2.length col7,⟨⟨A6,kn7,nx7,col7,ro7,hC7.owned HC6.out.2.1,hJ7,hR7,fun h0=>by omega,rfl⟩,HL.out.2.2.2.2.2.1,HL.out.2.2.2.2.1⟩,hf1,hf2,by omega⟩⟩
 | true=>
  have H8:=kI (H7.out.2.2.2.2.1 rfl)
  obtain ⟨z0,z1,z2,z3,z4,z5,z6,zz7⟩:w7.frozen? ⟨cb,0,none⟩=false∧w7.frozen? ⟨cb,1,none⟩=false∧w7.frozen? ⟨cb,2,none⟩=false∧w7.frozen? ⟨cb,3,none⟩=false∧w7.frozen? ⟨cb,4,none⟩=false∧w7.frozen? ⟨cb,5,none⟩=false∧w7.frozen? ⟨cb,6,none⟩=false∧w7.frozen? ⟨cb,7,none⟩=false:=⟨hz7 0,hz7 1,hz7 2,hz7 3,hz7 4,hz7 5,hz7 6,hz7 7⟩
  clear hz7
  have d2:w7.cell? ⟨cb,2,none⟩=some _:=cell_of_row w7 cb 2 _ _ (0,0) hF7
  have d3:w7.cell? ⟨cb,3,none⟩=some _:=cell_of_row w7 cb 3 _ _ (0,0) hF7
  have d4:w7.cell? ⟨cb,4,none⟩=some _:=cell_of_row w7 cb 4 _ _ (0,0) hF7
  have d5:w7.cell? ⟨cb,5,none⟩=some _:=cell_of_row w7 cb 5 _ _ (0,0) hF7
  have d6:w7.cell? ⟨cb,6,none⟩=some _:=cell_of_row w7 cb 6 _ _ (0,0) hF7
  have d7:w7.cell? ⟨cb,7,none⟩=some _:=cell_of_row w7 cb 7 _ _ (0,0) hF7
  clear hF7
  go_wp2_with fail
  obtain ⟨x1,x2⟩:=cx_of H7.out.2.2.2.2.2.2.2 s7
  refine (err_cx x1).mono ?_
  rintro e w8 ⟨rfl,rfl⟩
  have HXX:=kI (aI x1 x2)
  clear x1 x2 z0 z1 z2 z3 z4 z5 z6 zz7 d2 d3 d4 d5 d6 d7 c07 c17
  go_wp2_with fail
  obtain ⟨hC7,hf1,hf2,hsum,hcl,hok,hEw7,hF7⟩:=H7.out
  obtain ⟨x1,x2⟩:=HXX.out
  have hOc:O cb:=HC.out.1.own _ (.inr (.inr (.inl rfl)))
  refine bodyPost_ret (results_tmp rfl _ _ _) rfl ?_
  rw [HX.out.1,HX.out.2.1]
  exact ⟨hEw7.trans (x2.mono fun i hi=>hi ▸ hOc),s7,j,hsum.1,hsum.2.1,.inl ⟨rfl,H8.out,x1,hsum.2.2⟩⟩
end
end
section
open Go.RowKit
open Un (Else StM rowI UFo own_else dg swp wp_world paint cnt Rings)
set_option maxRecDepth 100000
def KindIs (G:List Gn) (E:List (Nat×Nat)) (v:Int) (r:Int):Prop:=
 match gvar G v with
 | none=>r=0
 | some i=>(∃y q,Cl G E i y∧G[y]? = some q∧q.1≠1∧r=q.1)∨(r=0∧∀(y:Nat) (q:Gn),Cl G E i y→G[y]? = some q→q.1=1)
def SameIs (G:List Gn) (E:List (Nat×Nat)) (a b:Int):Prop:=∃i j,gvar G a=some i∧gvar G b=some j∧Cl G E i j
section
variable {O T:Nat→Prop}{w w' V:World}{cb:Nat}{A:Adr}{st:Int}{cl:Bool}{n m:Nat}{G:List Gn}{kn:Kn}{nx col ro col' ro':Nat→Nat}{fs fs':Int}{E:List (Nat×Nat)}
theorem CsM.keep (h:CsM O w cb G E st fs m) (he:Else T w w') (ht:∀k,O k→¬ T k):CsM O w' cb G E st fs m:=by
 obtain ⟨⟨A,kn,nx,col,ro,hC,hJ,hR,hB,hm⟩,h3⟩:=h
 refine ⟨⟨A,kn,nx,col,ro,hC.keep he ht,hJ,hR,fun h0=>?_,hm⟩,h3⟩
 have hb:=hB h0
 have hO:=hC.own cb (.inr (.inr (.inl rfl)))
 exact (he.block cb (gL hb).1 (ht cb hO)).trans hb
theorem CsM.below (h:CsM O w cb G E st fs m) (hb:Below w.heap.size w w'):CsM O w' cb G E st fs m:=h.keep (T:=fun _=>False) (Else.of_below hb) fun _ _ e=>e
theorem CsM.turned {A:Adr}{kn:Kn}{nx col ro:Nat→Nat}(hC:ClM O w' cb A st false G.length G kn nx col ro fs') (hE:Else A.S w w') (hJ:Js G G.length col ro kn E []) (hR:Rings G.length nx (vc G col)) (hB:G.length=0→Bare w cb A.ob (.int .i64 st) (.bool false) (.pointer (some ⟨A.g,0,none⟩)) A.K A.N) (hm:Un.cnt G.length col=m) (h2:GI G) (h3:Gp G):CsM O w' cb G E st fs' m:=by
 refine ⟨⟨A,kn,nx,col,ro,hC,hJ,hR,fun h0=>?_,hm⟩,h2,h3⟩
 have hb:=hB h0
 rcases hC.sets with h|⟨_,_,h,_⟩
 ·exact (hE.block cb (gL hb).1 h.ncb).trans hb
 ·exact h
theorem CsM.noClash (h:CsM O w cb G E st fs m):¬ Clash G E:=by
 obtain ⟨⟨A,kn,nx,col,ro,_,hJ,_⟩,_⟩:=h
 exact hJ.jn.noClash
theorem new_cl2 (w:World):Calls Tryz.prog 76 #[] w fun e w'=>∃cb A,e = .returned (.pointer (some ⟨cb,0,none⟩))∧ClM (fun k=>w.heap.size≤k) w' cb A 0 false 0 [] (fun _=>(none,none)) (fun j=>j) (fun j=>j) (fun j=>j) 0∧Bare w' cb A.ob (.int .i64 0) (.bool false) (.pointer (some ⟨A.g,0,none⟩)) A.K A.N∧Below w.heap.size w w':=by
 have hmm:=@run_makeMap Tryz.prog
 have HN:=new_graph w
 go_enter Tryz.func76,Tryz.ntmps76
 go_wp2_with fail
 refine HN.mono ?_
 rintro e w1 ⟨g,mb,rfl,hG,hB⟩
 have HG:=kI (aI hG hB)
 clear hG hB HN
 go_wp2_with fail
 obtain ⟨hG,hB⟩:=HG.out
 refine bodyPost_ret (results_tmp rfl _ _ _) rfl ?_
 have hb2:Below w1.heap.size w1 ((w1.alloc (Obj.map #[] 0)).alloc (Obj.cells #[.int .i64 0,.bool false,.pointer (some ⟨g,0,none⟩),.slice none 0 0,.int .i64 0,.map (some w1.heap.size),.slice none 0 0,.slice none 0 0] 150)):=((Below.refl _ _).alloc (Nat.le_refl _) _).alloc (by simp) _
 have hlt:=hG.lt
 have hge:=hG.ge
 have hsz:=hB.size
 have hrow:((w1.alloc (Obj.map #[] 0)).alloc (Obj.cells #[.int .i64 0,.bool false,.pointer (some ⟨g,0,none⟩),.slice none 0 0,.int .i64 0,.map (some w1.heap.size),.slice none 0 0,.slice none 0 0] 150)).heap[w1.heap.size+1]? = some (Obj.cells #[.int .i64 0,.bool false,.pointer (some ⟨g,0,none⟩),.slice none 0 0,.int .i64 0,.map (some w1.heap.size),.slice none 0 0,.slice none 0 0] 150):=by
  have h:=heap_alloc_new (w1.alloc (Obj.map #[] 0)) (Obj.cells #[.int .i64 0,.bool false,.pointer (some ⟨g,0,none⟩),.slice none 0 0,.int .i64 0,.map (some w1.heap.size),.slice none 0 0,.slice none 0 0] 150)
  rwa [World.size_alloc] at h
 refine ⟨_,⟨g,mb,.slice none 0 0,[],w1.heap.size+1,0,0,w1.heap.size,.slice none 0 0,.slice none 0 0,fun _=>False⟩,rfl,⟨.inr ⟨rfl,⟨rfl,rfl⟩,hrow,?_⟩,(hG.below hb2).zero,World.ownsRow_nil _ _ _ _,World.ownsRow_nil _ _ _ _,?_,fun k hk=>(by cases hk),fun k hk=>(by cases hk),?_,fun k hk=>hk.elim⟩,hrow,hB.trans (hb2.mono hsz)⟩
 ·exact (MapF.made w1).kept (World.grownBy_alloc _ _ none) (by simp)
 ·intro k hk hF
  have h1:k<w1.heap.size:=by
   rcases hk with h|h|h|⟨x,hx,_⟩
   ·have h:k=g:=h
    omega
   ·have h:k=mb:=h
    omega
   ·cases h
   ·cases hx
  rcases hF with h|h|h|h|h|h
  ·exact h
  ·omega
  ·have h:k=w1.heap.size:=h
   omega
  ·have h:k=w1.heap.size+1:=h
   omega
  ·cases h
  ·cases h
 ·intro k hk
  rcases hk with (h|h|h|⟨x,hx,_⟩)|(h|h|h|h|h|h)
  ·have h:k=g:=h
   show w.heap.size≤k
   omega
  ·have h:k=mb:=h
   show w.heap.size≤k
   omega
  ·cases h
  ·cases hx
  ·exact h.elim
  ·show w.heap.size≤k
   omega
  ·have h:k=w1.heap.size:=h
   show w.heap.size≤k
   omega
  ·have h:k=w1.heap.size+1:=h
   show w.heap.size≤k
   omega
  ·cases h
  ·cases h
theorem new_cs (w:World):Calls Tryz.prog 76 #[] w fun e w'=>∃cb,e = .returned (.pointer (some ⟨cb,0,none⟩))∧CsM (fun k=>w.heap.size≤k) w' cb [] [] 0 0 0∧Below w.heap.size w w':=by
 refine (new_cl2 w).mono ?_
 rintro e w' ⟨cb,A,rfl,hC,hb,hB⟩
 have hJ:Js [] 0 (fun j=>j) (fun j=>j) (fun _=>(none,none)) [] []:=
  ⟨⟨fun i j hi=>by simp at hi,fun a b h=>(by cases h),fun a b h=>(by cases h),fun x y p q hp=>by simp at hp,fun x p hp=>by simp at hp⟩,rfl,⟨fun i j hi=>by simp at hi,fun i p hp=>by simp at hp,fun i k hi=>by simp at hi⟩,⟨fun i l hi=>by omega,fun i v p hi=>by omega⟩,fun i hi=>by omega,fun i j hi=>by omega⟩
 refine ⟨cb,rfl,⟨⟨A,_,_,_,_,hC,hJ,fun i hi=>by simp at hi,fun _=>hb,rfl⟩,fun x hx=>(by cases hx),fun x hx=>(by cases hx)⟩,hB⟩
end
end
section
open Go.RowKit Go.Shelf
open Un (Else StM rowI UFo own_else dg swp wp_world paint cnt Rings)
set_option maxRecDepth 100000
theorem nm_idn (k n:Int):nm idn k n=n:=by unfold nm;split<;>rfl
theorem Img.gadd {f g:Fo}(h:Img idn f g):∀G,gadd G g=gadd G f:=by
 induction f generalizing g with
 | nil=>cases g with
  | nil=>intro G;rfl
  | cons=>exact h.elim
 | cons k n u ps r i1 i2=>cases g with
  | nil=>exact h.elim
  | cons k' n' u' ps' r'=>
   obtain ⟨rfl,e,h1,h2⟩:=h
   rw [nm_idn] at e
   subst e
   intro G
   rw [gadd_cons,gadd_cons,gadd1_eq,gadd1_eq,i1 h1,i2 h2]
def AlP:Fo→Prop
 | .nil=>True
 | .cons k n _ ps r=>alone k n ps.len=true∧AlP ps∧AlP r
theorem Img.alp {f g:Fo}(h:Img idn f g) (ha:AlP f):AlP g:=by
 induction f generalizing g with
 | nil=>cases g with
  | nil=>trivial
  | cons=>exact h.elim
 | cons k n u ps r i1 i2=>cases g with
  | nil=>exact h.elim
  | cons k' n' u' ps' r'=>
   obtain ⟨rfl,e,h1,h2⟩:=h
   rw [nm_idn] at e
   subst e
   exact ⟨by rw [h1.len];exact ha.1,i1 h1 ha.2.1,i2 h2 ha.2.2⟩
theorem AlP.all {f:Fo}(h:AlP f) (hl:LenOk f):∀x∈f.pre,alone x.1 x.2.1 x.2.2.2.1=true:=by
 induction f with
 | nil=>intro x hx;simp [Fo.pre] at hx
 | cons k n u ps r i1 i2=>
  intro x hx
  simp only [Fo.pre,List.mem_cons,List.mem_append] at hx
  rcases hx with rfl|hx|hx
  ·show alone k n u.2.1=true
   rw [hl.1];exact h.1
  ·exact i1 h.2.1 hl.2.1 x hx
  ·exact i2 h.2.2 hl.2.2 x hx
theorem Img.wfi {f g:Fo}(h:Img idn f g) (hf:f.wf):g.wf:=by
 induction f generalizing g with
 | nil=>cases g with
  | nil=>trivial
  | cons=>exact h.elim
 | cons k n u ps r i1 i2=>cases g with
  | nil=>exact h.elim
  | cons k' n' u' ps' r'=>
   obtain ⟨rfl,e,h1,h2⟩:=h
   rw [nm_idn] at e
   subst e
   exact ⟨hf.1,i1 h1 hf.2.1,i2 h2 hf.2.2⟩
section
variable {O:Nat→Prop}{w:World}{k n:Int}{u:Sl}{ps:Fo}{B:Nat}
theorem TyLat.low (h:TyV B w ps (slv u)) (hO:∀k,O k→B≤k) (hB:B≤w.heap.size) (hwf:(Fo.cons k n u ps .nil).wf) (hr:allAlone (Fo.cons k n u ps .nil).pre=true):TyLat O w k n u ps:=by
 intro W hE
 have hb:Below B w W:=hE.below (fun j hj=>hj.elim (hO j) fun e=>by omega) hB
 exact ⟨ps,fun _=>rfl,rfl,(h.below hb).keep (Nat.le_trans hB hb.size) fun _ _ _=>rfl,hwf,hr⟩
end
def exP (k n k' n':Int):Fo:=.cons k n (none,0,0) .nil (.cons k' n' (none,0,0) .nil .nil)
end
section
open Go.RowKit Go.Shelf
open Un (Else StM rowI UFo own_else dg swp wp_world paint cnt Rings)
set_option maxRecDepth 100000
theorem CsM.tight {O:Nat→Prop}{w:World}{cb m:Nat}{G:List Gn}{E:List (Nat×Nat)}{st fs:Int}(h:CsM O w cb G E st fs m):∃O':Nat→Prop,(∀k,O' k→O k∧k<w.heap.size)∧CsM O' w cb G E st fs m:=by
 obtain ⟨⟨A,kn,nx,col,ro,hC,h2⟩,h3⟩:=h
 exact ⟨fun k=>A.D k∨A.F cb k,fun k hk=>⟨hC.own k hk,hC.lt hk⟩,⟨A,kn,nx,col,ro,hC.tight,h2⟩,h3⟩
end
end Go.Proofs.YtmamdiggjghjkaaGreatDoor
