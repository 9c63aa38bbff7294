/- Texts of one proof, one behind the other. -/
import Derived.Test.YtmamdiggjghjkaaGreatDoorMgSolveOrder21
import Derived.Test.YtmamdiggjghjkaaGreatDoorMgSolveOrder17
import Derived.Test.YtmamdiggjghjkaaGreatDoorMgSolveOrder25
import Derived.Test.YtmamdiggjghjkaaGreatDoorMgSolveOrder24
import Derived.Test.YtmamdiggjghjkaaGreatDoorMgSolveOrder16
import Derived.Test.YtmamdiggjghjkaaGreatDoorMgSolveOrder26a
set_option linter.unusedVariables false
namespace Go.Proofs.YtmamdiggjghjkaaGreatDoor
section
open Go.RowKit Go.Shelf
attribute [local go_sem ↓] builtin_app
set_option maxRecDepth 100000
end
section
open Go.RowKit
attribute [local go_sem] Oper.semAt_some
attribute [local go_sem ↓] builtin_app
open Un (rowI rowI_get own_shape paint)
set_option maxRecDepth 100000
def selC (G:List Gn) (c:Nat→Nat) (i:Nat) (a:Int):Bool:=c (ivar G a).toNat == c i
theorem ivar_of {G:List Gn}{a:Int}(h:a∈vsort G):∃j,gvar G a=some j∧ivar G a=(j:Nat)∧j<G.length:=by
 have hp:=(vfold G [] List.Pairwise.nil).2
 have hm:a∈names G:=by have:=hp.mem_iff.1 h;simpa using this
 obtain ⟨j,hj⟩:=Option.isSome_iff_exists.1 ((gvar_names G a).2 hm)
 exact ⟨j,hj,by rw [ivar,hj],gvar_lt hj⟩
end
section
open Go.RowKit
open Un (rowI rowI_get own_shape paint Else)
set_option maxRecDepth 100000
def GK (G:List Gn):Prop:=∀p∈G,p.1≠0
theorem gnode_GK {G:List Gn}{k n:Int}{P:List Nat}(h:GK G) (hk:k≠0):GK (gnode G k n P).1:=by
 unfold gnode
 split
 ·exact h
 ·intro p hp
  rcases List.mem_append.1 hp with hp|hp
  ·exact h p hp
  ·simp only [List.mem_singleton] at hp
   subst hp
   exact hk
theorem alone_kind {k n:Int}{m:Nat}(h:alone k n m=true):k≠0:=by
 rintro rfl
 simp [alone] at h
theorem gadd_GK (F:Fo):∀G,GK G→(∀x∈F.pre,alone x.1 x.2.1 x.2.2.2.1=true)→GK (gadd G F).1:=by
 induction F with
 | nil=>intro G h _;rw [gadd_nil];exact h
 | cons k n u ps r i1 i2=>
  intro G h hw
  rw [gadd_cons]
  refine i2 _ ?_ fun x hx=>hw x (by simp [Fo.pre,hx])
  rw [gadd1_eq]
  exact gnode_GK (i1 G h fun x hx=>hw x (by simp [Fo.pre,hx])) (alone_kind (hw (k,n,u) (by simp [Fo.pre])))
theorem gadd1_GK {G:List Gn}{t:Ty1}(h:GK G) (hr:rt1 t=true):GK (gadd1 G t.1 t.2.1 t.2.2.2).1:=by
 unfold rt1 at hr
 rw [Bool.and_eq_true] at hr
 rw [gadd1_eq]
 refine gnode_GK (gadd_GK _ _ h ?_) (alone_kind hr.1)
 have:=hr.2
 unfold allAlone at this
 rw [List.all_eq_true] at this
 exact this
theorem fold_GK (m:List Eqn):∀s:Sys,GK s.1→(∀y∈m,rtE y=true)→GK (m.foldl stp s).1:=by
 induction m with
 | nil=>intro s h _;exact h
 | cons x m ih=>
  intro s h hw
  refine ih _ ?_ fun y hy=>hw y (List.mem_cons_of_mem _ hy)
  have hx:=hw x List.mem_cons_self
  unfold rtE at hx
  rw [Bool.and_eq_true] at hx
  exact gadd1_GK (t:=x.2.1) (gadd1_GK (t:=x.1) h hx.1) hx.2
theorem cls_GK (l:List Eqn) (h:∀y∈l,rtE y=true):GK (cls l).1:=fold_GK l _ (fun p hp=>by simp at hp) h
structure Both (G:List Gn) (col ro:Nat→Nat) (kn:Kn) (E:List (Nat×Nat)) (cc:Nat→Nat):Prop where
 js:Js G G.length col ro kn E []
 rc:Rc G cc E
 he:∀a b,(a,b)∈E→a<G.length∧b<G.length∧cc a=cc b
 hc:ClosedC G cc
 gn:GN G
 gk:GK G
 nc:¬ Clash G E
section PaBs
variable {G:List Gn}{col ro:Nat→Nat}{kn:Kn}{E:List (Nat×Nat)}{cc:Nat→Nat}{i j:Nat}
theorem Both.cl (h:Both G col ro kn E cc) (hi:i<G.length) (hj:j<G.length):Cl G E i j↔cc i=cc j:=by
 rw [h.rc.is h.he h.hc]
 constructor
 ·rintro (rfl|⟨_,_,e⟩)
  ·rfl
  ·exact e
 ·exact fun e=>.inr ⟨hi,hj,e⟩
theorem Both.cf (h:Both G col ro kn E cc) (hi:i<G.length) (hj:j<G.length) (e:col i=col j):cc i=cc j:=(h.cl hi hj).1 (h.js.jn.done.2 (.inr ⟨hi,hj,e⟩))
theorem Both.cg (h:Both G col ro kn E cc) (hi:i<G.length) (hj:j<G.length) (e:cc i=cc j):col i=col j:=by
 rcases h.js.jn.done.1 ((h.cl hi hj).2 e) with rfl|⟨_,_,e⟩
 ·rfl
 ·exact e
theorem Both.least (h:Both G col ro kn E cc) (hi:i<G.length):leastV G (kn (ro i)).2=(((vsort G).filter (selC G cc i)).head?).getD (-1):=by
 obtain ⟨hv1,hv2⟩:=vfold G [] List.Pairwise.nil
 have hv1:(vsort G).Pairwise (·≤·):=hv1
 have hv2:(vsort G).Perm (names G):=by simpa [vsort] using hv2
 have hmem:∀b,b∈(vsort G).filter (selC G cc i)↔∃v p,G[v]? = some p∧p.1=1∧p.2.1=b∧cc v=cc i:=fun b=>by
  rw [List.mem_filter]
  constructor
  ·rintro ⟨hb,hs⟩
   obtain ⟨v,hv,hvv,hvl⟩:=ivar_of hb
   unfold selC at hs
   rw [hvv] at hs
   obtain ⟨p,hp,p1,p2⟩:=gvar_at hv
   exact ⟨v,p,hp,p1,p2,by simpa using hs⟩
  ·rintro ⟨v,p,hp,p1,rfl,hc⟩
   have hv:=gvar_node h.gn hp p1
   refine ⟨hv2.mem_iff.2 ((gvar_names G _).1 (by rw [hv];rfl)),?_⟩
   unfold selC
   rw [show ivar G p.2.1=(v:Nat) by rw [ivar,hv]]
   simpa using hc
 have hs:=hv1.sublist (List.filter_sublist (l:=vsort G) (p:=selC G cc i))
 cases hk:(kn (ro i)).2 with
 | none=>
  have:(vsort G).filter (selC G cc i)=[]:=List.eq_nil_iff_forall_not_mem.2 fun b hb=>by
   obtain ⟨v,p,hp,p1,_,hc⟩:=(hmem b).1 hb
   exact h.js.le.no i v p hi hk hp p1 (h.cg (lt_of_get hp) hi hc)
  rw [this]
  rfl
 | some l0=>
  obtain ⟨hl0,⟨p,hp,p1⟩,hcl,hmin⟩:=h.js.le.is i l0 hi hk
  have hnm:nmG G l0=p.2.1:=by simp [nmG,hp]
  have hin:nmG G l0∈(vsort G).filter (selC G cc i):=(hmem _).2 ⟨l0,p,hp,p1,hnm.symm,h.cf hl0 hi hcl⟩
  show nmG G l0=_
  cases hf:(vsort G).filter (selC G cc i) with
  | nil=>rw [hf] at hin;cases hin
  | cons a L=>
   rw [hf] at hin hs
   have ha:a∈(vsort G).filter (selC G cc i):=by rw [hf];exact List.mem_cons_self
   obtain ⟨v,q,hq,q1,rfl,hc⟩:=(hmem a).1 ha
   have h1:=hmin v q hq q1 (h.cg (lt_of_get hq) hi hc)
   have h2:q.2.1≤nmG G l0:=by
    rcases List.mem_cons.1 hin with e|hm
    ·omega
    ·exact (List.pairwise_cons.1 hs).1 _ hm
   show nmG G l0=q.2.1
   omega
end PaBs
end
section
open Un (cnt)
def Cs (G:List Gn) (cc:Nat→Nat) (a b:Nat):Prop:=∃(k:Nat) (p:Gn) (u:Nat),G[k]? = some p∧cc k=a∧p.1≠1∧u∈p.2.2.2∧cc u=b
inductive Cp (G:List Gn) (cc:Nat→Nat):Nat→Nat→Prop
 | one {a b:Nat} (h:Cs G cc a b):Cp G cc a b
 | more {a b c:Nat} (h:Cp G cc a b) (k:Cs G cc b c):Cp G cc a c
abbrev AccC (G:List Gn) (cc:Nat→Nat) (c:Nat):Prop:=Acc (fun b a=>Cs G cc a b) c
section CyVs
variable {G:List Gn}{cc col ro:Nat→Nat}{kn:Kn}{E:List (Nat×Nat)}{a b c i:Nat}
theorem Cp.trans (h:Cp G cc a b) (k:Cp G cc b c):Cp G cc a c:=by
 induction k with
 | one s=>exact .more h s
 | more _ s ih=>exact .more ih s
theorem AccC.down (h:AccC G cc a) (k:Cp G cc a b):AccC G cc b:=by
 induction k with
 | one s=>exact h.inv s
 | more _ s ih=>exact ih.inv s
theorem Cp.front (h:Cp G cc a b):∃d,Cs G cc a d∧(d=b∨Cp G cc d b):=by
 induction h with
 | one s=>exact ⟨_,s,.inl rfl⟩
 | more _ s ih=>
  obtain ⟨d,h1,h2⟩:=ih
  rcases h2 with rfl|h2
  ·exact ⟨d,h1,.inr (.one s)⟩
  ·exact ⟨d,h1,.inr (.more h2 s)⟩
theorem AccC.no (h:AccC G cc a):¬ Cp G cc a a:=by
 induction h with
 | intro a _ ih=>
  intro k
  obtain ⟨d,h1,h2⟩:=k.front
  rcases h2 with rfl|h2
  ·exact ih d h1 (.one h1)
  ·exact ih d h1 (h2.trans (.one h1))
theorem nodup_sub {V L:List Nat}(hn:V.Nodup) (hs:∀x∈V,x∈L):V.length≤L.length:=by
 induction V generalizing L with
 | nil=>simp
 | cons x V ih=>
  have hx:=hs x List.mem_cons_self
  obtain ⟨h1,h2⟩:=List.nodup_cons.1 hn
  have h3:=ih h2 (L:=L.erase x) fun y hy=>(List.mem_erase_of_ne (fun e=>h1 (by rw [←e];exact hy))).2 (hs y (List.mem_cons_of_mem _ hy))
  have h4:=List.length_erase_of_mem hx
  have h5:=List.length_pos_of_mem hx
  rw [List.length_cons]
  omega
theorem acc_noloop (hp:∀p∈G,∀u∈p.2.2.2,u<G.length):∀(m:Nat) (V:List Nat) (c:Nat),V.Nodup→(∀v∈V,v∈(List.range G.length).map cc)→(∀v∈V,Cp G cc v c)→c∈(List.range G.length).map cc→(∀d,(d=c∨Cp G cc c d)→¬ Cp G cc d d)→G.length≤V.length+m→AccC G cc c:=by
 intro m
 induction m with
 | zero=>
  intro V c hn hV hR hc hno hl
  exfalso
  have hcV:c ∉ V:=fun h=>hno c (.inl rfl) (hR c h)
  have h1:=nodup_sub (V:=c :: V) (L:=(List.range G.length).map cc) (List.nodup_cons.2 ⟨hcV,hn⟩) fun x hx=>by
   rcases List.mem_cons.1 hx with rfl|hx
   ·exact hc
   ·exact hV x hx
  rw [List.length_cons,List.length_map,List.length_range] at h1
  omega
 | succ m ih=>
  intro V c hn hV hR hc hno hl
  have hcV:c ∉ V:=fun h=>hno c (.inl rfl) (hR c h)
  refine ⟨_,fun d hd=>?_⟩
  have hd:Cs G cc c d:=hd
  refine ih (c :: V) d (List.nodup_cons.2 ⟨hcV,hn⟩) (fun v hv=>?_) (fun v hv=>?_) ?_ (fun e he=>?_) (by rw [List.length_cons];omega)
  ·rcases List.mem_cons.1 hv with rfl|hv
   ·exact hc
   ·exact hV v hv
  ·rcases List.mem_cons.1 hv with rfl|hv
   ·exact .one hd
   ·exact .more (hR v hv) hd
  ·obtain ⟨k,p,u,h1,h2,h3,h4,h5⟩:=hd
   exact List.mem_map.2 ⟨u,List.mem_range.2 (hp p (List.mem_of_getElem? h1) u h4),h5⟩
  ·rcases he with rfl|he
   ·exact hno _ (.inr (.one hd))
   ·exact hno _ (.inr ((Cp.one hd).trans he))
theorem acc_colors (hp:∀p∈G,∀u∈p.2.2.2,u<G.length) (hi:i<G.length):¬ AccC G cc (cc i)↔∃d,(d=cc i∨Cp G cc (cc i) d)∧Cp G cc d d:=by
 constructor
 ·intro h
  refine Classical.byContradiction fun hno=>h ?_
  exact acc_noloop hp G.length [] (cc i) (by simp) (fun v hv=>by cases hv) (fun v hv=>by cases hv) (List.mem_map.2 ⟨i,List.mem_range.2 hi,rfl⟩) (fun d hd k=>hno ⟨d,hd,k⟩) (by simp)
 ·rintro ⟨d,hd,k⟩ h
  rcases hd with rfl|hd
  ·exact h.no k
  ·exact (h.down hd).no k
theorem Cp.at (hp:∀p∈G,∀u∈p.2.2.2,u<G.length) (h:Cp G cc a b):∃u,u<G.length∧cc u=b:=by
 cases h with
 | one s=>obtain ⟨k,p,u,h1,h2,h3,h4,h5⟩:=s;exact ⟨u,hp p (List.mem_of_getElem? h1) u h4,h5⟩
 | more _ s=>obtain ⟨k,p,u,h1,h2,h3,h4,h5⟩:=s;exact ⟨u,hp p (List.mem_of_getElem? h1) u h4,h5⟩
theorem acc_color (h:Both G col ro kn E cc) (hi:i<G.length):Acc (Nx G E) i↔AccC G cc (cc i):=by
 constructor
 ·intro ha
  induction ha with
  | intro i _ ih=>
   refine ⟨_,fun b hb=>?_⟩
   obtain ⟨k,p,u,h1,h2,h3,h4,rfl⟩:=hb
   exact ih u ⟨k,p,(h.cl hi (lt_of_get h1)).2 h2.symm,h1,h3,h4⟩ (h.rc.parts k p h1 u h4)
 ·intro ha
  obtain ⟨c,hc⟩:∃c,cc i=c:=⟨_,rfl⟩
  rw [hc] at ha
  induction ha generalizing i with
  | intro c _ ih=>
   subst hc
   refine ⟨_,fun j ⟨z,p,h1,h2,h3,h4⟩=>?_⟩
   exact ih (cc j) ⟨z,p,j,h2,((h.cl hi (lt_of_get h2)).1 h1).symm,h3,h4,rfl⟩ (h.rc.parts z p h2 j h4) rfl
def NextIs (G:List Gn) (cc:Nat→Nat) (i:Nat) (P:List Nat):Prop:=
 (∃(k:Nat) (p:Gn),G[k]? = some p∧cc k=cc i∧p.1≠1∧P=p.2.2.2)∨((∀(k:Nat) (p:Gn),G[k]? = some p→cc k=cc i→p.1=1)∧P=[])
theorem NextIs.all (h:Both G col ro kn E cc) (_hi:i<G.length) {P:List Nat}(hP:NextIs G cc i P) (d:Nat):Cs G cc (cc i) d↔∃u∈P,cc u=d:=by
 rcases hP with ⟨k,p,h1,h2,h3,rfl⟩|⟨h1,rfl⟩
 ·constructor
  ·rintro ⟨z,q,u,g1,g2,g3,g4,rfl⟩
   have hkz:=(h.cl (lt_of_get h1) (lt_of_get g1)).2 (h2.trans g2.symm)
   have hf:Fit p q:=Classical.byContradiction fun hf=>h.nc ⟨k,z,p,q,hkz,h1,g1,h3,g3,hf⟩
   obtain ⟨t,ht,rfl⟩:=List.getElem_of_mem g4
   have htp:t<p.2.2.2.length:=by have:=hf.2;omega
   exact ⟨p.2.2.2[t],List.getElem_mem htp,h.hc k z p q h1 g1 (h2.trans g2.symm) h3 hf.1 hf.2 t _ _ (List.getElem?_eq_getElem htp) (List.getElem?_eq_getElem ht)⟩
  ·rintro ⟨u,hu,rfl⟩
   exact ⟨k,p,u,h1,h2,h3,hu,rfl⟩
 ·constructor
  ·rintro ⟨z,q,u,g1,g2,g3,g4,rfl⟩
   exact absurd (h1 z q g1 g2) g3
  ·rintro ⟨u,hu,_⟩
   cases hu
end CyVs
end
section
section CyOs
variable {G:List Gn}{cc col ro:Nat→Nat}{kn:Kn}{E:List (Nat×Nat)}{f:Int→Int→Int}{R R':Nat→Prop}{val val':Nat→Int}{i:Nat}
theorem NextIs.lt (hp:∀p∈G,∀u∈p.2.2.2,u<G.length) {P:List Nat}(h:NextIs G cc i P):∀u∈P,u<G.length:=by
 rcases h with ⟨k,p,h1,_,_,rfl⟩|⟨_,rfl⟩
 ·exact hp p (List.mem_of_getElem? h1)
 ·intro u hu
  cases hu
end CyOs
end
end Go.Proofs.YtmamdiggjghjkaaGreatDoor
