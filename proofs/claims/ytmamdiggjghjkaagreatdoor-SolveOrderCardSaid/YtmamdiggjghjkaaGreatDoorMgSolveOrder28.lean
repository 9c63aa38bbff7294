/- Texts of one proof, one behind the other. -/
import Derived.Test.YtmamdiggjghjkaaGreatDoorMgSolveOrder27
import Derived.Test.YtmamdiggjghjkaaGreatDoorMgSolveOrder1
import Derived.Test.YtmamdiggjghjkaaGreatDoorMgSolveOrder18
import Derived.Test.YtmamdiggjghjkaaGreatDoorMgSolveOrder26a
import Derived.Test.YtmamdiggjghjkaaGreatDoorMgSolveOrder24
set_option linter.unusedVariables false
namespace Go.Proofs.YtmamdiggjghjkaaGreatDoor
section
def inF (v:Int):Fo→Prop
 | .nil=>False
 | .cons k n _ ps r=>(k=1∧n=v)∨inF v ps∨inF v r
def inT (v:Int) (x:Tp):Prop:=(x.1=1∧x.2.1=v)∨inF v x.2.2
section SoEs
variable {G:List Gn}{cc col ro:Nat→Nat}{kn:Kn}{E:List (Nat×Nat)}{lv:Nat→Int}{v:Int}
theorem inF_row (l:List Tp):inF v (tpRow l)↔∃x∈l,inT v x:=by
 induction l with
 | nil=>simp [tpRow,inF]
 | cons y l ih=>
  simp only [tpRow,inF,ih,List.mem_cons]
  constructor
  ·rintro (h|h|⟨x,hx,h⟩)
   ·exact ⟨y,.inl rfl,.inl h⟩
   ·exact ⟨y,.inl rfl,.inr h⟩
   ·exact ⟨x,.inr hx,h⟩
  ·rintro ⟨x,rfl|hx,h⟩
   ·rcases h with h|h
    ·exact .inl h
    ·exact .inr (.inl h)
   ·exact .inr (.inr ⟨x,hx,h⟩)
def LvOk (G:List Gn) (cc:Nat→Nat) (lv:Nat→Int):Prop:=∀i,i<G.length→(¬ ∃x,Hd G cc (cc i) x)→∃z,z<G.length∧cc z=cc i∧∃p,G[z]? = some p∧p.1=1∧p.2.1=lv (cc i)
theorem mean_own (hB:Both G col ro kn E cc) (hp:∀p∈G,∀u∈p.2.2.2,u<G.length) (hlv:LvOk G cc lv):∀c,AccC G cc c→∀i,cc i=c→i<G.length→∀v,inT v (meanC G cc lv c)→meanV G cc lv v=(1,v,.nil):=by
 intro c hc
 induction hc with
 | intro c hacc ih=>
  intro i hic hi v hv
  have ha:AccC G cc c:=Acc.intro c hacc
  by_cases hk:∃x,Hd G cc c x
  ·obtain ⟨⟨k,p⟩,h1,h2,h3⟩:=hk
   have h1:G[k]? = some p:=h1
   have h2:cc k=c:=h2
   have h3:p.1≠1:=h3
   rw [mean_node hB ha h1 h2 h3] at hv
   rcases hv with hv|hv
   ·exact absurd hv.1 h3
   ·obtain ⟨x,hx,hv⟩:=(inF_row _).1 hv
    obtain ⟨u,hu,rfl⟩:=List.mem_map.1 hx
    exact ih (cc u) ⟨k,p,u,h1,h2,h3,hu,rfl⟩ u rfl (hp p (List.mem_of_getElem? h1) u hu) v hv
  ·have hm:=mean_var (lv:=lv) ha hk
   rw [hm] at hv
   rcases hv with hv|hv
   ·obtain ⟨_,rfl⟩:=hv
    obtain ⟨z,hzl,hzc,p,hp1,hp2,hp3⟩:=hlv i hi (by rw [hic];exact hk)
    rw [hic] at hp3 hzc
    unfold meanV
    rw [←hp3,gvar_node hB.gn hp1 hp2]
    show meanC G cc lv (cc z)=_
    rw [hzc,hm,hp3]
   ·exact hv.elim
def nv:Fo→Prop
 | .nil=>True
 | .cons k _ _ ps r=>(k=1→ps = .nil)∧nv ps∧nv r
theorem nv_row (l:List Tp) (h:∀x∈l,(x.1=1→x.2.2 = .nil)∧nv x.2.2):nv (tpRow l):=by
 induction l with
 | nil=>trivial
 | cons x l ih=>
  have hx:=h x List.mem_cons_self
  exact ⟨hx.1,hx.2,ih fun y hy=>h y (List.mem_cons_of_mem _ hy)⟩
theorem mean_nv (hB:Both G col ro kn E cc):∀c,AccC G cc c→((meanC G cc lv c).1=1→(meanC G cc lv c).2.2 = .nil)∧nv (meanC G cc lv c).2.2:=by
 intro c hc
 induction hc with
 | intro c hacc ih=>
  have ha:AccC G cc c:=Acc.intro c hacc
  by_cases hk:∃x,Hd G cc c x
  ·obtain ⟨⟨k,p⟩,h1,h2,h3⟩:=hk
   have h1:G[k]? = some p:=h1
   have h2:cc k=c:=h2
   have h3:p.1≠1:=h3
   rw [mean_node hB ha h1 h2 h3]
   refine ⟨fun h=>absurd h h3,nv_row _ fun x hx=>?_⟩
   obtain ⟨u,hu,rfl⟩:=List.mem_map.1 hx
   exact ih (cc u) ⟨k,p,u,h1,h2,h3,hu,rfl⟩
  ·rw [mean_var ha hk]
   exact ⟨fun _=>rfl,trivial⟩
theorem sb_own (s:Int→Tp) (F:Fo):nv F→(∀v,inF v F→s v=(1,v,.nil))→sb s F=F.pure:=by
 induction F with
 | nil=>intro _ _;rfl
 | cons k n u ps r i1 i2=>
  rintro ⟨n1,n2,n3⟩ h
  have e1:=i1 n2 fun v hv=>h v (.inr (.inl hv))
  have e2:=i2 n3 fun v hv=>h v (.inr (.inr hv))
  show Fo.cons _ _ _ _ _=_
  rw [e2]
  by_cases hk:k=1
  ·rw [if_pos hk,h n (.inl ⟨hk,rfl⟩)]
   rw [n1 hk,hk]
   rfl
  ·rw [if_neg hk,e1]
   rfl
end SoEs
end
section
section SoFs
variable {G:List Gn}{cc col ro:Nat→Nat}{kn:Kn}{E:List (Nat×Nat)}{lv:Nat→Int}{v:Int}
theorem row_pure (l:List Tp) (h:∀x∈l,x.2.2.pure=x.2.2):(tpRow l).pure=tpRow l:=by
 induction l with
 | nil=>rfl
 | cons x l ih=>
  show Fo.cons _ _ _ _ _=_
  rw [h x List.mem_cons_self,ih fun y hy=>h y (List.mem_cons_of_mem _ hy)]
  rfl
theorem mean_pure (hB:Both G col ro kn E cc):∀c,AccC G cc c→(meanC G cc lv c).2.2.pure=(meanC G cc lv c).2.2:=by
 intro c hc
 induction hc with
 | intro c hacc ih=>
  have ha:AccC G cc c:=Acc.intro c hacc
  by_cases hk:∃x,Hd G cc c x
  ·obtain ⟨⟨k,p⟩,h1,h2,h3⟩:=hk
   have h1:G[k]? = some p:=h1
   have h2:cc k=c:=h2
   have h3:p.1≠1:=h3
   rw [mean_node hB ha h1 h2 h3]
   refine row_pure _ fun x hx=>?_
   obtain ⟨u,hu,rfl⟩:=List.mem_map.1 hx
   exact ih (cc u) ⟨k,p,u,h1,h2,h3,hu,rfl⟩
  ·rw [mean_var ha hk]
   rfl
structure Can (Sv:(Int→Tp)→Prop) (m:Int→Tp):Prop where
 solves:Sv m
 then_:∀s,Sv s→∀v,sbT s (m v)=s v
 own:∀v x,inT x (m v)→m x=(1,x,.nil)
 nv:∀v,((m v).1=1→(m v).2.2 = .nil)∧Go.Proofs.YtmamdiggjghjkaaGreatDoor.nv (m v).2.2∧(m v).2.2.pure=(m v).2.2
 min:∀v a,m v=(1,a,.nil)→a≤v
theorem Can.one {Sv:(Int→Tp)→Prop}{m m':Int→Tp}(h:Can Sv m) (k:Can Sv m') (v:Int):m v=m' v:=by
 have t1:∀v,sbT m (m' v)=m v:=fun v=>k.then_ _ h.solves v
 have t2:∀v,sbT m' (m v)=m' v:=fun v=>h.then_ _ k.solves v
 have hvar:∀v a,m' v=(1,a,.nil)→m v=(1,a,.nil):=by
  intro v a ha
  have e1:=t1 v
  rw [ha] at e1
  have e1:m a=m v:=e1
  have e2:=t2 v
  rw [ha] at e2
  have h1:(m v).1=1:=by
   refine Classical.byContradiction fun hn=>?_
   unfold sbT at e2
   rw [if_neg hn] at e2
   exact hn (Prod.mk.inj e2).1
  obtain ⟨b,hb⟩:∃b,m v=(1,b,.nil):=⟨(m v).2.1,Prod.ext h1 (Prod.ext rfl ((h.nv v).1 h1))⟩
  rw [hb] at e2 e1 ⊢
  have e2:m' b=(1,a,.nil):=e2
  have l1:=k.min _ _ e2
  have l2:=h.min _ _ e1
  rw [show b=a by omega]
 have hx:∀x,inT x (m' v)→m x=(1,x,.nil):=fun x hx=>hvar x x (k.own _ _ hx)
 rw [←t1 v]
 obtain ⟨n1,n2,n3⟩:=k.nv v
 unfold sbT
 by_cases h1:(m' v).1=1
 ·rw [if_pos h1,hx _ (.inl ⟨h1,rfl⟩)]
  exact Prod.ext h1.symm (Prod.ext rfl (n1 h1).symm)
 ·rw [if_neg h1,sb_own _ _ n2 (fun x h2=>hx x (.inr h2)),n3]
def LvLeast (G:List Gn) (cc:Nat→Nat) (lv:Nat→Int):Prop:=∀z p,G[z]? = some p→p.1=1→(¬ ∃x,Hd G cc (cc z) x)→lv (cc z)≤p.2.1
structure Sol (L:List Eqn) (cc:Nat→Nat) (lv:Nat→Int):Prop where
 both:∃col ro kn,Both (cls L).1 col ro kn (cls L).2 cc
 part:∀p∈(cls L).1,∀u∈p.2.2.2,u<(cls L).1.length
 gl:GL (cls L).1
 nz:∀x∈L,nz (tOne x.1)∧nz (tOne x.2.1)
 acc:∀i,i<(cls L).1.length→AccC (cls L).1 cc (cc i)
 lvok:LvOk (cls L).1 cc lv
 least:LvLeast (cls L).1 cc lv
noncomputable abbrev solV (L:List Eqn) (cc:Nat→Nat) (lv:Nat→Int) (v:Int):Tp:=meanV (cls L).1 cc lv v
section
variable {L M:List Eqn}{cc dd:Nat→Nat}{lv mv:Nat→Int}{s:Int→Tp}
theorem Sol.solves (h:Sol L cc lv):Slv L (solV L cc lv):=by
 obtain ⟨col,ro,kn,hB⟩:=h.both
 exact mean_solves L hB h.acc h.nz
theorem Sol.then_ (h:Sol L cc lv) (hs:Slv L s) (v:Int):sbT s (solV L cc lv v)=s v:=by
 obtain ⟨col,ro,kn,hB⟩:=h.both
 exact slv_then hB h.part h.gl h.nz hs h.lvok h.acc v
theorem Sol.own (h:Sol L cc lv) {v x:Int}(hx:inT x (solV L cc lv v)):solV L cc lv x=(1,x,.nil):=by
 obtain ⟨col,ro,kn,hB⟩:=h.both
 unfold solV at hx
 unfold meanV at hx
 cases hg:gvar (cls L).1 v with
 | none=>
  rw [hg] at hx
  rcases hx with ⟨_,h2⟩|h2
  ·have h2:v=x:=h2
   subst h2
   show meanV _ _ _ _=_
   unfold meanV
   rw [hg]
  ·exact h2.elim
 | some i=>
  rw [hg] at hx
  exact mean_own hB h.part h.lvok _ (h.acc i (gvar_lt hg)) i rfl (gvar_lt hg) x hx
theorem Sol.nv (h:Sol L cc lv) (v:Int):((solV L cc lv v).1=1→(solV L cc lv v).2.2 = .nil)∧Go.Proofs.YtmamdiggjghjkaaGreatDoor.nv (solV L cc lv v).2.2∧(solV L cc lv v).2.2.pure=(solV L cc lv v).2.2:=by
 obtain ⟨col,ro,kn,hB⟩:=h.both
 show ((meanV _ _ _ _).1=1→_)∧_
 unfold solV meanV
 cases hg:gvar (cls L).1 v with
 | none=>exact ⟨fun _=>rfl,trivial,rfl⟩
 | some i=>
  have h1:=mean_nv (lv:=lv) hB _ (h.acc i (gvar_lt hg))
  exact ⟨h1.1,h1.2,mean_pure hB _ (h.acc i (gvar_lt hg))⟩
theorem Sol.min (h:Sol L cc lv) {v a:Int}(ha:solV L cc lv v=(1,a,.nil)):a≤v:=by
 obtain ⟨col,ro,kn,hB⟩:=h.both
 unfold solV meanV at ha
 cases hg:gvar (cls L).1 v with
 | none=>
  rw [hg] at ha
  have:v=a:=(Prod.mk.inj (Prod.mk.inj ha).2).1
  omega
 | some i=>
  rw [hg] at ha
  have ha:meanC (cls L).1 cc lv (cc i)=(1,a,.nil):=ha
  obtain ⟨p,h1,h2,h3⟩:=var_node hg
  by_cases hk:∃x,Hd (cls L).1 cc (cc i) x
  ·obtain ⟨⟨k,q⟩,g1,g2,g3⟩:=hk
   rw [mean_node hB (h.acc i (gvar_lt hg)) g1 g2 g3] at ha
   exact absurd (Prod.mk.inj ha).1 g3
  ·rw [mean_var (h.acc i (gvar_lt hg)) hk] at ha
   have e:lv (cc i)=a:=(Prod.mk.inj (Prod.mk.inj ha).2).1
   have:=h.least i p h1 h2 hk
   omega
theorem Sol.can (h:Sol L cc lv):Can (Slv L) (solV L cc lv):=⟨h.solves,fun _ hs v=>h.then_ hs v,fun _ _ hx=>h.own hx,h.nv,fun _ _ ha=>h.min ha⟩
end
end SoFs
end
section
section SoGs
variable {s t:Int→Tp}{n:Int}{b:Tp}
def one (n:Int) (b:Tp) (v:Int):Tp:=if v=n then b else (1,v,.nil)
def Slp (l:List (Tp×Tp)) (s:Int→Tp):Prop:=∀x∈l,sbT s x.1=sbT s x.2
end SoGs
end
section
def inL (v:Int) (l:List (Tp×Tp)):Prop:=∃x∈l,inT v x.1∨inT v x.2
def okT (x:Tp):Prop:=(x.1=1→x.2.2 = .nil)∧nv x.2.2∧x.2.2.pure=x.2.2
structure SlI (l0 l:List (Tp×Tp)) (m:Int→Tp):Prop where
 same:∀s,Slp l0 s↔Slp l s∧∀v,sbT s (m v)=s v
 own:∀v x,inT x (m v)→m x=(1,x,.nil)
 left:∀x,inL x l→m x=(1,x,.nil)
 okm:∀v,okT (m v)
 okl:∀x∈l,okT x.1∧okT x.2
section SoHs
variable {l0 l:List (Tp×Tp)}{m:Int→Tp}{s:Int→Tp}{n:Int}{a b:Tp}
end SoHs
end
section
section SoIs
variable {l0 l:List (Tp×Tp)}{m:Int→Tp}{s t:Int→Tp}
theorem sb_pure (s:Int→Tp) (F:Fo):sb s F.pure=sb s F:=by
 induction F with
 | nil=>rfl
 | cons k n u ps r i1 i2=>
  show Fo.cons _ _ _ _ _=Fo.cons _ _ _ _ _
  rw [i1,i2]
def prs (L:List Eqn):List (Tp×Tp):=L.map fun x=>((x.1.1,x.1.2.1,x.1.2.2.2.pure),(x.2.1.1,x.2.1.2.1,x.2.1.2.2.2.pure))
end SoIs
end
section
section SoJs
variable {l0 l:List (Tp×Tp)}{m:Int→Tp}{s:Int→Tp}{n:Int}{a b:Tp}
theorem row_size (l:List Tp):(tpRow l).size=(l.map tsz).sum:=by
 induction l with
 | nil=>rfl
 | cons x l ih=>
  show 1+x.2.2.size+(tpRow l).size=_
  rw [ih]
  simp [tsz]
theorem sb_grows (s:Int→Tp) (F:Fo):nv F→F.size≤(sb s F).size:=by
 induction F with
 | nil=>intro _;exact Nat.le_refl _
 | cons k n u ps r i1 i2=>
  rintro ⟨n1,n2,n3⟩
  have h2:=i2 n3
  show 1+ps.size+r.size≤1+Fo.size _+Fo.size _
  by_cases hk:k=1
  ·rw [n1 hk]
   simp only [Fo.size]
   omega
  ·rw [if_neg hk]
   have h1:=i1 n2
   show 1+ps.size+r.size≤1+(sb s ps).size+_
   omega
theorem sbT_grows (s:Int→Tp) {x:Tp}(h:okT x):tsz x≤tsz (sbT s x):=by
 unfold sbT
 by_cases hk:x.1=1
 ·rw [if_pos hk]
  unfold tsz
  rw [h.1 hk]
  simp [Fo.size]
 ·rw [if_neg hk]
  have:=sb_grows s _ h.2.1
  unfold tsz
  dsimp only
  omega
end SoJs
end
section
section SoKs
variable {Sv:(Int→Tp)→Prop}{m s:Int→Tp}
end SoKs
end
section
def lvC (G:List Gn) (cc:Nat→Nat) (c:Nat):Int:=(((vsort G).filter fun a=>cc (ivar G a).toNat == c).head?).getD (-1)
section SoLs
variable {G:List Gn}{cc:Nat→Nat}{c:Nat}
theorem lvC_mem (hg:GN G) (b:Int):b∈(vsort G).filter (fun a=>cc (ivar G a).toNat == c)↔∃v p,G[v]? = some p∧p.1=1∧p.2.1=b∧cc v=c:=by
 have hv2:(vsort G).Perm (names G):=by simpa [vsort] using (vfold G [] List.Pairwise.nil).2
 rw [List.mem_filter]
 constructor
 ·rintro ⟨hb,hs⟩
  obtain ⟨v,hv,hvv,hvl⟩:=ivar_of hb
  rw [hvv] at hs
  obtain ⟨p,hp,p1,p2⟩:=gvar_at hv
  exact ⟨v,p,hp,p1,p2,by simpa using hs⟩
 ·rintro ⟨v,p,hp,p1,rfl,hc⟩
  have hv:=gvar_node hg hp p1
  refine ⟨hv2.mem_iff.2 ((gvar_names G _).1 (by rw [hv];rfl)),?_⟩
  rw [show ivar G p.2.1=(v:Nat) by rw [ivar,hv]]
  simpa using hc
theorem lvC_at (hg:GN G) {v:Nat}{p:Gn}(hp:G[v]? = some p) (p1:p.1=1) (hc:cc v=c):(∃z q,G[z]? = some q∧q.1=1∧q.2.1=lvC G cc c∧cc z=c)∧lvC G cc c≤p.2.1:=by
 have hv1:(vsort G).Pairwise (·≤·):=(vfold G [] List.Pairwise.nil).1
 have hs:=hv1.sublist (List.filter_sublist (l:=vsort G) (p:=fun a=>cc (ivar G a).toNat == c))
 have hin:=(lvC_mem hg (c:=c) (cc:=cc) p.2.1).2 ⟨v,p,hp,p1,rfl,hc⟩
 have hm:=fun b=>(lvC_mem hg (c:=c) (cc:=cc) b).1
 unfold lvC
 cases hf:(vsort G).filter (fun a=>cc (ivar G a).toNat == c) with
 | nil=>rw [hf] at hin;cases hin
 | cons y l=>
  rw [hf] at hin hs hm
  show (∃z q,G[z]? = some q∧q.1=1∧q.2.1=y∧cc z=c)∧y≤p.2.1
  refine ⟨hm y List.mem_cons_self,?_⟩
  rcases List.mem_cons.1 hin with h|h
  ·omega
  ·exact (List.pairwise_cons.1 hs).1 _ h
theorem lvC_ok (hg:GN G):LvOk G cc (lvC G cc):=by
 intro i hi hk
 obtain ⟨p,hp⟩:∃p,G[i]? = some p:=⟨_,List.getElem?_eq_getElem hi⟩
 have p1:p.1=1:=Classical.byContradiction fun h=>hk ⟨(i,p),hp,rfl,h⟩
 obtain ⟨⟨z,q,h1,h2,h3,h4⟩,_⟩:=lvC_at hg hp p1 rfl
 exact ⟨z,lt_of_get h1,h4,q,h1,h2,h3⟩
theorem lvC_least (hg:GN G):LvLeast G cc (lvC G cc):=fun _ _ hp p1 _=>(lvC_at hg hp p1 rfl).2
theorem sol_of {L:List Eqn}{col ro:Nat→Nat}{kn:Kn}(hB:Both (cls L).1 col ro kn (cls L).2 cc) (hp:Gp (cls L).1) (hl:GL (cls L).1) (hf:FinC (cls L).1 (cls L).2) (hz:∀x∈L,nz (tOne x.1)∧nz (tOne x.2.1)):Sol L cc (lvC (cls L).1 cc) where
 both:=⟨col,ro,kn,hB⟩
 part p hh:=(hp p hh).2
 gl:=hl
 nz:=hz
 acc i hi:=(acc_color hB hi).1 (acc_all hB.nc hB.gn hl hf i hi)
 lvok:=lvC_ok hB.gn
 least:=lvC_least hB.gn
end SoLs
end
section
open Go.RowKit
open Un (rowI rowI_get Else own_else wp_world)
attribute [local go_sem] Oper.semAt_some
set_option maxRecDepth 100000
section SoMs
variable {D:Nat→Prop}{B:Nat}{vm vs:Value}{M:List Rm}{G:List Gn}{cc:Nat→Nat}{col ro:Nat→Nat}{kn:Kn}{E:List (Nat×Nat)}
theorem next_size (hB:Both G col ro kn E cc) (lv:Nat→Int) {i:Nat}(ha:AccC G cc (cc i)) (_hi:i<G.length) {P:List Nat}(hP:NextIs G cc i P):tsz (meanC G cc lv (cc i))=1+(P.map fun u=>tsz (meanC G cc lv (cc u))).sum:=by
 rcases hP with ⟨k,p,h1,h2,h3,rfl⟩|⟨h1,rfl⟩
 ·rw [mean_node hB ha h1 h2 h3]
  show 1+(tpRow _).size=_
  rw [row_size,List.map_map]
  rfl
 ·rw [mean_var ha (by rintro ⟨⟨k,p⟩,g1,g2,g3⟩;exact g3 (h1 k p g1 g2))]
  rfl
theorem sum_take (P:List Nat) (f:Nat→Nat):∀k,((P.take k).map f).sum≤(P.map f).sum:=by
 induction P with
 | nil=>intro k;simp
 | cons x P ih=>
  intro k
  cases k with
  | zero=>simp
  | succ k=>
   have:=ih k
   rw [List.take_succ_cons,List.map_cons,List.map_cons,List.sum_cons,List.sum_cons]
   omega
set_option maxHeartbeats 4000000 in
theorem heavy_size (hB:Both G col ro kn E cc) (hg:Gp G) (lv:Nat→Int) (hl:G.length≤10000):∀c,AccC G cc c→∀(i:Nat) (w:World) (most:Int),cc i=c→i<G.length→0<most→most≤5000→An3 D B w vm vs M G cc→
  Calls Tryz.prog 36 #[.agg #[vm,vs],.int .i64 (i:Nat),.int .i64 most] w fun x w'=>(∃r:Nat,x = .returned (.int .i64 (r:Nat))∧r=most.toNat-tsz (meanC G cc lv (cc i)))∧Below w.heap.size w w':=by
 intro c hc
 induction hc with
 | intro c hacc ih=>
  intro i w most hic hi hm1 hm2 h
  obtain ⟨Am,cm,rfl⟩:=h.row.form
  obtain ⟨As,cs,rfl,_,_⟩:=Un.own_form h.col
  obtain ⟨Q,hQ⟩:∃Q,M.length=Q:=⟨_,rfl⟩
  rw [hQ] at h ih ⊢
  obtain ⟨w0,hw0⟩:∃w0,w.alloc (.cells #[.slice Am Q cm,.slice As Q cs] 67)=w0:=⟨_,rfl⟩
  have hb0:Below w.heap.size w w0:=by rw [←hw0];exact (Below.refl _ _).alloc (Nat.le_refl _) _
  have hx0:w0.heap[w.heap.size]? = some (.cells #[.slice Am Q cm,.slice As Q cs] 67):=by rw [←hw0];exact heap_alloc_new _ _
  have hlen:=h.len
  replace h:=h.below hb0
  have HNX:=kI (next_any h (by omega) hi)
  have HW0:=kI (aI hb0 hx0)
  have HWE:=kI hw0
  have HACC:=kI (show AccC G cc c from Acc.intro c hacc)
  have x0:w0.cell? ⟨w.heap.size,0,none⟩=some (.slice Am Q cm):=cell_of_row w0 _ 0 _ _ (0,0) hx0
  have x1:w0.cell? ⟨w.heap.size,1,none⟩=some (.slice As Q cs):=cell_of_row w0 _ 1 _ _ (0,0) hx0
  have IH:=kI ih
  have H:=kI (aI h (aI hic (aI hi (aI hl (aI hm1 hm2)))))
  have hiQ:i≤10000:=by omega
  obtain ⟨mo,hmo⟩:∃mo:Nat,most=(mo:Nat)+1:=⟨(most-1).toNat,by omega⟩
  subst hmo
  have hmob:mo≤5000:=by omega
  clear ih h hic hi hl hm1 hm2 hacc hQ hlen hb0 hx0 hw0
  go_enter Tryz.func36,Tryz.ntmps36
  go_upto_region 1 with fail
  rw [HWE.out]
  go_wp2_with fail
  refine HNX.out.mono ?_
  clear HNX
  rintro x w2 ⟨⟨v,P,rfl,hrd,hP⟩,hb2⟩
  obtain ⟨AP,cP,rfl⟩:=hrd.form
  obtain ⟨q,hq⟩:∃q,P.length=q:=⟨_,rfl⟩
  have hq8:=hP.few hg
  have hsum:=next_size hB lv (show AccC G cc (cc i) by rw [H.out.2.1];exact HACC.out) H.out.2.2.1 hP
  have hP_lt:=hP.lt (fun p hp=>(hg p hp).2)
  have hP_st:∀u∈P,Cs G cc c (cc u):=fun u hu=>by
   rw [←H.out.2.1]
   exact (hP.all hB H.out.2.2.1 _).2 ⟨u,hu,rfl⟩
  rw [hq] at hrd hq8 ⊢
  have H2:=kI (aI hrd (aI hP (aI hq hb2)))
  have H3:=kI (aI hP_lt hP_st)
  have HSUM:=kI hsum
  clear hsum
  clear hrd hP hq hb2 hP_lt hP_st
  clear x0 x1
  go_wp2_with fail
  go_loopg [2,8] q (fun nn s2 s8 wr=>∃(k t:Nat),s8 = .int .i64 (k:Nat)∧k≤q∧q≤k+nn∧s2 = .int .i64 (t:Nat)∧t=mo-((P.take k).map fun u=>tsz (meanC G cc lv (cc u))).sum∧Below w2.heap.size w2 wr)
  case atStart=>exact ⟨0,mo,rfl,Nat.zero_le _,by omega,rfl,by simp,Below.refl _ _⟩
  case round=>
   obtain ⟨k,t,rfl,hk,hkn,rfl,ht,hb⟩:=hrel
   have hb02:Below w0.heap.size w0 wr:=H2.out.2.2.2.trans (hb.mono H2.out.2.2.2.size)
   have hbt:Below w.heap.size w wr:=HW0.out.1.trans (hb02.mono HW0.out.1.size)
   have hx:=(hb02.block _ (gL HW0.out.2).1).trans HW0.out.2
   have y0:wr.cell? ⟨w.heap.size,0,none⟩=some (.slice Am Q cm):=cell_of_row wr _ 0 _ _ (0,0) hx
   have y1:wr.cell? ⟨w.heap.size,1,none⟩=some (.slice As Q cs):=cell_of_row wr _ 1 _ _ (0,0) hx
   have hmo5:t≤mo:=by rw [ht];exact Nat.sub_le _ _
   have HTT:=kI ht
   have HI:=kI (aI hkn (aI hb (aI hb02 hbt)))
   clear hkn hb hb02 hbt hx ht
   by_cases hkl:k<q
   ·have g1:decide ((k:Int)<(q:Int))=true:=decide_eq_true (by omega)
    have g2:decide (k<q)=true:=decide_eq_true hkl
    by_cases ht0:0<t
    ·have g3:decide ((0:Int)<(t:Int))=true:=decide_eq_true (by omega)
     have g4:decide (0<t)=true:=decide_eq_true ht0
     obtain ⟨d,hd⟩:∃d,P[k]? = some d:=⟨_,List.getElem?_eq_getElem (by rw [H2.out.2.2.1];exact hkl)⟩
     have hdP:=List.mem_of_getElem? hd
     have hdG:=H3.out.1 d hdP
     obtain ⟨bq,oq,cap,hv,_,_,hlt,hcel⟩:=H2.out.1.1.2.resolve_left (by rintro ⟨h,_⟩;omega)
     injection hv with e1 e2 e3
     subst e1
     clear e2 e3
     have y2:wr.cell? ⟨bq,oq+k,none⟩=some (.int .i64 (d:Nat)):=(HI.out.2.1.cell (p:=⟨bq,oq+k,none⟩) hlt).trans (hcel k _ (nums_get hd))
     have EX:Hid (∀W,Below wr.heap.size wr W→W.cell? ⟨w.heap.size,0,none⟩=some (.slice Am Q cm)∧W.cell? ⟨w.heap.size,1,none⟩=some (.slice As Q cs)∧W.cell? ⟨bq,oq+k,none⟩=some (.int .i64 (d:Nat))):=kI fun W hW=>⟨(hW.cell (p:=⟨w.heap.size,0,none⟩) (by have h1:=HI.out.2.2.1.size;have h2:=(gL HW0.out.2).1;show w.heap.size<wr.heap.size;omega)).trans y0,(hW.cell (p:=⟨w.heap.size,1,none⟩) (by have h1:=HI.out.2.2.1.size;have h2:=(gL HW0.out.2).1;show w.heap.size<wr.heap.size;omega)).trans y1,(hW.cell (p:=⟨bq,oq+k,none⟩) (by have h1:=HI.out.2.1.size;have h2:bq<w2.heap.size:=hlt;show bq<wr.heap.size;omega)).trans y2⟩
     have HK:=kI (aI hkl (aI ht0 (aI hdG (H3.out.2 d hdP))))
     have HKD:=kI hd
     have hdb:d≤10000:=by have:=H.out.2.2.2.1;omega
     clear hd hdP hdG hlt hcel y0 y1 y2
     go_wp2_with fail
     have hS:Below wr.heap.size wr wr.drew:=(Below.refl _ _).drew
     refine wp_region_held (S:=(fun W=>Below wr.heap.size wr W)) (by kernel_rfl) ?_
     change wpAnyH _ _ _ _ _ 8 (List.replicate 8 false).toArray _ wr.drew
     simp only [List.replicate_succ,List.replicate_zero]
     refine tk (i:=0) (some 24) (.agg #[.slice Am Q cm,.slice As Q cs]) rfl (fun W hw=>by obtain ⟨n0_,n1_,n2_⟩:=EX.out W hw;clear hw;go_simp) hS ?_
     simp only [Act.put,zA,zB,zC]
     refine tj (i:=1) (some 25) (.slice (some ⟨bq,oq,none⟩) q cP) rfl hS ?_
     simp only [Act.put,zA,zB,zC]
     refine tj (i:=2) (some 26) (.int .i64 (k:Nat)) rfl hS ?_
     simp only [Act.put,zA,zB,zC]
     refine tk (i:=3) (some 27) (.pointer (some ⟨bq,oq+k,none⟩)) rfl (fun W hw=>by clear hw;have hkl_:=HK.out.1;go_simp) hS ?_
     simp only [Act.put,zA,zB,zC]
     refine tk (i:=4) (some 28) (.int .i64 (d:Nat)) rfl (fun W hw=>by obtain ⟨n0_,n1_,n2_⟩:=EX.out W hw;clear hw;go_simp) hS ?_
     simp only [Act.put,zA,zB,zC]
     refine tj (i:=5) (some 29) (.int .i64 (t:Nat)) rfl hS ?_
     simp only [Act.put,zA,zB,zC]
     refine aK 6 ?_
     refine ops_call (d:=some 30) rfl (by rfl) (by kernel_rfl) (by go_simp) (((IH.out (cc d) HK.out.2.2.2 d _ (t:Nat) rfl HK.out.2.2.1 (by have:=HK.out.2.1;omega) (by omega) (H.out.1.below (HI.out.2.2.1.trans (hS.mono HI.out.2.2.1.size))))).mono ?_)
     rintro y w3 ⟨⟨r,rfl,hr1⟩,hb3⟩
     have hS3:Below wr.heap.size wr w3:=hS.trans (hb3.mono hS.size)
     refine ⟨_,rfl,hS3,?_⟩
     simp only [Act.put,zA,zB,zC]
     refine tj (i:=7) (some 2) (.int .i64 (r:Nat)) rfl hS3 ?_
     simp only [Act.put,zA,zB,zC]
     refine wpAnyH_done (by kernel_rfl) ?_ _
     have HR:=kI (aI hr1 hS3)
     clear hr1 hS3 hb3 EX
     go_wp2_with fail
     go_roundg (q-(k+1))
     case rel=>exact ⟨k+1,r,by go_num,HK.out.1,by omega,rfl,by rw [HR.out.1,List.take_add_one,HKD.out,List.map_append,List.sum_append];have h1:=HTT.out;simp only [Option.toList_some,List.map_cons,List.map_nil,List.sum_cons,List.sum_nil];omega,HI.out.2.1.trans (HR.out.2.mono HI.out.2.1.size)⟩
     case measure=>have h1:=HI.out.1;have h2:=HK.out.1;omega
    ·have g3:decide ((0:Int)<(t:Int))=false:=decide_eq_false (by omega)
     have g4:decide (0<t)=false:=decide_eq_false ht0
     go_wp2_with fail
     exact bodyPost_ret (results_tmp rfl _ _ _) rfl ⟨⟨t,rfl,by rw [HSUM.out];have h1:=HTT.out;have h2:=sum_take P (fun u=>tsz (meanC G cc lv (cc u))) k;omega⟩,HI.out.2.2.2⟩
   ·have g1:decide ((k:Int)<(q:Int))=false:=decide_eq_false (by omega)
    have g2:decide (k<q)=false:=decide_eq_false hkl
    have htk:P.take k=P:=List.take_of_length_le (by have:=H2.out.2.2.1;omega)
    have HTK:=kI htk
    clear htk
    go_wp2_with fail
    exact bodyPost_ret (results_tmp rfl _ _ _) rfl ⟨⟨t,rfl,by rw [HSUM.out];have h1:=HTT.out;rw [HTK.out] at h1;omega⟩,HI.out.2.2.2⟩
end SoMs
end
section
section SoNs
theorem right_ok (F:Fo):LenOk F→allAlone F.pre=true→nz F∧nv F:=by
 induction F with
 | nil=>intro _ _;exact ⟨trivial,trivial⟩
 | cons k n u ps r i1 i2=>
  rintro ⟨l1,l2,l3⟩ h
  unfold allAlone at h i1 i2
  simp only [Fo.pre,List.all_cons,List.all_append,Bool.and_eq_true] at h
  obtain ⟨h1,h2,h3⟩:=h
  obtain ⟨a1,a2⟩:=i1 l2 h2
  obtain ⟨b1,b2⟩:=i2 l3 h3
  refine ⟨⟨fun hk=>?_,a1,b1⟩,fun hk=>?_,a2,b2⟩
  ·unfold alone at h1
   rw [if_neg hk] at h1
   split at h1
   ·simp only [Bool.and_eq_true,beq_iff_eq] at h1;exact h1.1
   ·split at h1
    ·simp only [Bool.and_eq_true,beq_iff_eq] at h1;exact h1.1
    ·split at h1
     ·simp only [Bool.and_eq_true,beq_iff_eq] at h1;exact h1.1.1
     ·cases h1
  ·unfold alone at h1
   rw [if_pos hk] at h1
   simp only [Bool.and_eq_true,beq_iff_eq] at h1
   have h4:=h1.2
   rw [l1] at h4
   cases ps with
   | nil=>rfl
   | cons _ _ _ _ _=>
    simp only [Fo.len] at h4
    omega
theorem nv_pure (F:Fo):nv F→nv F.pure:=by
 induction F with
 | nil=>exact id
 | cons k n u ps r i1 i2=>
  rintro ⟨a,b,c⟩
  refine ⟨fun hk=>?_,i1 b,i2 c⟩
  rw [a hk]
  rfl
theorem prs_ok (L:List Eqn) (hlen:∀x∈L,LenOk (tOne x.1)∧LenOk (tOne x.2.1)) (hr:∀x∈L,allAlone (tOne x.1).pre=true∧allAlone (tOne x.2.1).pre=true):(∀x∈L,nz (tOne x.1)∧nz (tOne x.2.1))∧∀x∈prs L,okT x.1∧okT x.2:=by
 have hz:=fun x hx=>aI (right_ok _ (hlen x hx).1 (hr x hx).1) (right_ok _ (hlen x hx).2 (hr x hx).2)
 refine ⟨fun x hx=>⟨(hz x hx).1.1,(hz x hx).2.1⟩,fun x hx=>?_⟩
 obtain ⟨y,hy,rfl⟩:=List.mem_map.1 hx
 obtain ⟨⟨_,n1,n2,_⟩,⟨_,m1,m2,_⟩⟩:=hz y hy
 refine ⟨⟨fun hk=>?_,nv_pure _ n2,?_⟩,⟨fun hk=>?_,nv_pure _ m2,?_⟩⟩
 ·show y.1.2.2.2.pure = .nil
  rw [n1 hk]
  rfl
 ·exact Fo.pure_pure _
 ·show y.2.1.2.2.2.pure = .nil
  rw [m1 hk]
  rfl
 ·exact Fo.pure_pure _
end SoNs
end
section
set_option maxRecDepth 100000
structure EaI (R:Nat→Prop) (ch:Nat→List Nat) (rk:Nat→Nat) (n:Nat) (I D B P:List Nat):Prop where
 par:∀x∈D,∀y∈ch x,y∈D
 nd:D.Nodup
 dl:∀x∈D,x<n
 bl:∀x∈B,x<n∧R x
 pl:∀x∈P,x<n∧x ∉ D∧R x
 dn:P.Pairwise fun a b=>rk b<rk a
 all:∀x∈I,x∈B∨x∈D
theorem nd_snoc {D:List Nat}{r:Nat}(h:D.Nodup) (hd:r ∉ D):(D ++ [r]).Nodup:=by
 refine List.nodup_append.2 ⟨h,by simp,fun a ha b hb e=>?_⟩
 rcases List.mem_cons.1 hb with h1|h1
 ·exact hd (h1 ▸ e ▸ ha)
 ·cases h1
section EaIs
variable {R:Nat→Prop}{ch:Nat→List Nat}{rk:Nat→Nat}{n:Nat}{I D B P:List Nat}{r x:Nat}
theorem EaI.pnd (h:EaI R ch rk n I D B P):P.Nodup:=h.dn.imp fun hab e=>by subst e;exact Nat.lt_irrefl _ hab
theorem EaI.few (h:EaI R ch rk n I D B P):D.length+P.length≤n:=by
 have h1:(D++P).Nodup:=List.nodup_append.2 ⟨h.nd,h.pnd,fun a ha b hb e=>(h.pl b hb).2.1 (e ▸ ha)⟩
 have h2:=nodup_len h1 (fun y hy=>by
  rcases List.mem_append.1 hy with hy|hy
  ·exact h.dl y hy
  ·exact (h.pl y hy).1)
 simpa using h2
theorem EaI.top (h:EaI R ch rk n I D B P) (hr:(B++P).getLast? = some r):r<n∧(P≠[]→r ∉ D)∧(∀y∈P,rk r≤rk y)∧R r:=by
 by_cases hP:P=[]
 ·subst hP
  rw [List.append_nil] at hr
  exact ⟨(h.bl r (List.mem_of_getLast? hr)).1,fun h=>absurd rfl h,(fun y hy=>by cases hy),(h.bl r (List.mem_of_getLast? hr)).2⟩
 ·obtain ⟨Q,z,rfl⟩:∃Q z,P=Q ++ [z]:=⟨P.dropLast,P.getLast hP,(List.dropLast_concat_getLast hP).symm⟩
  rw [←List.append_assoc,List.getLast?_concat] at hr
  cases hr
  refine ⟨(h.pl r (by simp)).1,fun _=>(h.pl r (by simp)).2.1,fun y hy=>?_,(h.pl r (by simp)).2.2⟩
  rcases List.mem_append.1 hy with hy|hy
  ·exact Nat.le_of_lt ((List.pairwise_append.1 h.dn).2.2 y hy r (by simp))
  ·obtain rfl:y=r:=by simpa using hy
   exact Nat.le_refl _
theorem EaI.push (h:EaI R ch rk n I D B P) (hr:(B++P).getLast? = some r) (hx:x ∉ D) (hn:x<n) (hk:rk x<rk r) (hR:R x):EaI R ch rk n I D B (P ++ [x]) where
 par:=h.par
 nd:=h.nd
 dl:=h.dl
 bl:=h.bl
 pl y hy:=by
  rcases List.mem_append.1 hy with hy|hy
  ·exact h.pl y hy
  ·obtain rfl:y=x:=by simpa using hy
   exact ⟨hn,hx,hR⟩
 dn:=List.pairwise_append.2 ⟨h.dn,by simp,fun a ha b hb=>by
  obtain rfl:b=x:=by simpa using hb
  exact Nat.lt_of_lt_of_le hk ((h.top hr).2.2.1 a ha)⟩
 all:=h.all
theorem EaI.pop (h:EaI R ch rk n I D B P) (hr:(B++P).getLast? = some r) (hc:∀y∈ch r,y∈D):
  (r∈D→∃B' P',B'++P'=(B++P).dropLast∧EaI R ch rk n I D B' P'∧B'.length+P.length+1=B.length+P'.length∧B'.length≤B.length)∧(r ∉ D→∃B' P',B'++P'=(B++P).dropLast∧EaI R ch rk n I (D ++ [r]) B' P'∧B'.length+P.length≤B.length+P'.length+1∧B'.length≤B.length):=by
 by_cases hP:P=[]
 ·subst hP
  rw [List.append_nil] at hr
  obtain ⟨Q,rfl⟩:∃Q,B=Q ++ [r]:=⟨B.dropLast,by
   have hne:B≠[]:=fun e=>by rw [e] at hr;simp at hr
   have h1:=List.dropLast_concat_getLast hne
   rw [List.getLast?_eq_some_getLast hne] at hr
   injection hr with hr
   rw [hr] at h1
   exact h1.symm⟩
  have hrn:=(h.top (r:=r) (by simp)).1
  refine ⟨fun hd=>⟨Q,[],by simp,⟨h.par,h.nd,h.dl,fun y hy=>h.bl y (List.mem_append_left _ hy),(fun y hy=>by cases hy),by simp,fun y hy=>?_⟩,by simp⟩,
   fun hd=>⟨Q,[],by simp,⟨fun y hy z hz=>?_,nd_snoc h.nd hd,fun y hy=>?_,fun y hy=>h.bl y (List.mem_append_left _ hy),(fun y hy=>by cases hy),by simp,fun y hy=>?_⟩,by simp;omega⟩⟩
  ·rcases h.all y hy with h1|h1
   ·rcases List.mem_append.1 h1 with h1|h1
    ·exact .inl h1
    ·obtain rfl:y=r:=by simpa using h1
     exact .inr hd
   ·exact .inr h1
  ·rcases List.mem_append.1 hy with hy|hy
   ·exact List.mem_append_left _ (h.par y hy z hz)
   ·obtain rfl:y=r:=by simpa using hy
    exact List.mem_append_left _ (hc z hz)
  ·rcases List.mem_append.1 hy with hy|hy
   ·exact h.dl y hy
   ·obtain rfl:y=r:=by simpa using hy
    exact hrn
  ·rcases h.all y hy with h1|h1
   ·rcases List.mem_append.1 h1 with h1|h1
    ·exact .inl h1
    ·exact .inr (List.mem_append_right _ h1)
   ·exact .inr (List.mem_append_left _ h1)
 ·obtain ⟨Q,z,rfl⟩:∃Q z,P=Q ++ [z]:=⟨P.dropLast,P.getLast hP,(List.dropLast_concat_getLast hP).symm⟩
  have ht:=h.top hr
  rw [←List.append_assoc,List.getLast?_concat] at hr
  cases hr
  refine ⟨fun hd=>absurd hd (ht.2.1 hP),fun hd=>⟨B,Q,by rw [←List.append_assoc];simp,⟨fun y hy w hw=>?_,nd_snoc h.nd hd,fun y hy=>?_,h.bl,fun y hy=>?_,(List.pairwise_append.1 h.dn).1,fun y hy=>?_⟩,by simp;omega⟩⟩
  ·rcases List.mem_append.1 hy with hy|hy
   ·exact List.mem_append_left _ (h.par y hy w hw)
   ·obtain rfl:y=r:=by simpa using hy
    exact List.mem_append_left _ (hc w hw)
  ·rcases List.mem_append.1 hy with hy|hy
   ·exact h.dl y hy
   ·obtain rfl:y=r:=by simpa using hy
    exact ht.1
  ·refine ⟨(h.pl y (List.mem_append_left _ hy)).1,fun hm=>?_,(h.pl y (List.mem_append_left _ hy)).2.2⟩
   rcases List.mem_append.1 hm with hm|hm
   ·exact (h.pl y (List.mem_append_left _ hy)).2.1 hm
   ·obtain rfl:y=r:=by simpa using hm
    exact Nat.lt_irrefl _ ((List.pairwise_append.1 h.dn).2.2 y hy y (by simp))
  ·rcases h.all y hy with h1|h1
   ·exact .inl h1
   ·exact .inr (List.mem_append_left _ h1)
def eaM (n:Nat) (D B P:List Nat):Nat:=2*(n-D.length)+B.length-P.length
theorem eaM_push (h:EaI R ch rk n I D B (P ++ [x])):eaM n D B (P ++ [x])<eaM n D B P:=by
 have:=h.few
 unfold eaM
 simp at this ⊢
 omega
theorem eaM_skip {B' P':List Nat}(h:EaI R ch rk n I D B P) (k:EaI R ch rk n I D B' P') (hl:B'.length+P.length+1=B.length+P'.length):eaM n D B' P'<eaM n D B P:=by
 have:=h.few
 have:=k.few
 unfold eaM
 omega
theorem eaM_pop {B' P':List Nat}(h:EaI R ch rk n I D B P) (k:EaI R ch rk n I (D ++ [r]) B' P') (hl:B'.length+P.length≤B.length+P'.length+1):eaM n (D ++ [r]) B' P'<eaM n D B P:=by
 have h1:=h.few
 have h2:=k.few
 unfold eaM
 simp at h2 ⊢
 omega
theorem EaI.start (hI:∀x∈I,x<n∧R x):EaI R ch rk n I [] I []:=⟨(fun x hx=>by cases hx),by simp,(fun x hx=>by cases hx),hI,(fun x hx=>by cases hx),by simp,fun x hx=>.inl hx⟩
end EaIs
end
section
set_option maxRecDepth 100000
section SvAs
variable {G:List Gn}{col ro:Nat→Nat}{kn:Kn}{E:List (Nat×Nat)}{i j:Nat}
theorem both_ro (hJ:Js G G.length col ro kn E []) (hgn:GN G) (hgk:GK G) (hnc:¬ Clash G E):Both G col ro kn E ro where
 js:=hJ
 rc:=⟨fun i j hi hj h=>(hJ.same hi hj).1 h,hJ.jn.parts⟩
 he a b h:=by
  obtain ⟨h1,h2,_⟩:=(hJ.jn.eqs a b h).none
  exact ⟨h1,h2,(hJ.same h1 h2).2 (.eq h)⟩
 hc x y p q hx hy hc p1 hk hl j a b ha hb:=by
  have hcl:=(hJ.same (lt_of_get hx) (lt_of_get hy)).1 hc
  exact (hJ.same (hJ.jn.parts x p hx a (List.mem_of_getElem? ha)) (hJ.jn.parts y q hy b (List.mem_of_getElem? hb))).2 (.part hcl hx hy p1 (hk ▸ p1) hk hl ha hb)
 gn:=hgn
 gk:=hgk
 nc:=hnc
noncomputable abbrev mnR (G:List Gn) (ro:Nat→Nat) (r:Nat):Tp:=meanC G ro (lvC G ro) r
theorem ro_ro (hB:Both G col ro kn E ro) (hi:i<G.length):ro (ro i)=ro i:=hB.js.idem hi
theorem mn_node (hB:Both G col ro kn E ro) (hi:i<G.length) (ha:AccC G ro (ro i)) (hk:kindO G (kn (ro i)).1≠0):
  kindO G (kn (ro i)).1≠1∧mnR G ro (ro i)=(kindO G (kn (ro i)).1,0,tpRow ((chR G kn ro (ro i)).map fun u=>mnR G ro u)):=by
 cases h:(kn (ro i)).1 with
 | none=>rw [h] at hk;exact absurd rfl hk
 | some k=>
  obtain ⟨p,hp,p1,hc⟩:=hB.js.md.some i k hi h
  have hrk:ro k=ro i:=hB.js.un _ _ (lt_of_get hp) hi hc
  have h1:=mean_node (lv:=lvC G ro) hB ha hp hrk p1
  have e:kindO G (some k)=p.1:=by simp [kindO,hp]
  refine ⟨by rw [e];exact p1,?_⟩
  rw [e]
  refine h1.trans ?_
  unfold chR partsO
  simp only [h,hp,Option.map_some,Option.getD_some,List.map_map]
  rfl
theorem mn_var (hB:Both G col ro kn E ro) (hi:i<G.length) (ha:AccC G ro (ro i)) (hk:kindO G (kn (ro i)).1=0):
  mnR G ro (ro i)=(1,leastV G (kn (ro i)).2,.nil)∧chR G kn ro (ro i)=[]∧∃l,(kn (ro i)).2=some l∧∃p,G[l]? = some p∧p.1=1:=by
 cases h:(kn (ro i)).1 with
 | some k=>
  obtain ⟨p,hp,_,_⟩:=hB.js.md.some i k hi h
  rw [h] at hk
  exact absurd (by simpa [kindO,hp] using hk) (hB.gk p (List.mem_of_getElem? hp))
 | none=>
  have hn:¬ ∃x,Hd G ro (ro i) x:=by
   rintro ⟨⟨k,p⟩,h1,h2,h3⟩
   exact h3 (hB.js.vars hi h ((hB.cl hi (lt_of_get h1)).2 h2.symm) h1)
  refine ⟨?_,by unfold chR partsO;rw [h];rfl,?_⟩
  ·rw [mnR,mean_var ha hn,hB.least hi]
   rfl
  ·cases hl:(kn (ro i)).2 with
   | none=>
    obtain ⟨p,hp⟩:∃p,G[i]? = some p:=⟨_,List.getElem?_eq_getElem hi⟩
    exact absurd rfl (hB.js.le.no i i p hi hl hp (hB.js.md.none i p hp h))
   | some l=>exact ⟨l,rfl,(hB.js.le.is i l hi hl).2.1⟩
theorem lt_sum {α:Type}(f:α→Nat) (L:List α):∀x∈L,f x<1+(L.map f).sum:=by
 induction L with
 | nil=>intro x hx;cases hx
 | cons y L ih=>
  intro x hx
  rw [List.map_cons,List.sum_cons]
  rcases List.mem_cons.1 hx with rfl|hx
  ·omega
  ·have:=ih x hx
   omega
theorem mn_size (hB:Both G col ro kn E ro) (hi:i<G.length) (ha:AccC G ro (ro i)):tsz (mnR G ro (ro i))=1+((chR G kn ro (ro i)).map fun u=>tsz (mnR G ro u)).sum:=by
 by_cases hk:kindO G (kn (ro i)).1=0
 ·obtain ⟨h1,h2,_⟩:=mn_var hB hi ha hk
  rw [h1,h2]
  rfl
 ·rw [(mn_node hB hi ha hk).2]
  show 1+(tpRow _).size=_
  rw [row_size,List.map_map]
  rfl
theorem mn_less (hB:Both G col ro kn E ro) (hi:i<G.length) (ha:AccC G ro (ro i)) (y:Nat) (hy:y∈chR G kn ro (ro i)):tsz (mnR G ro y)<tsz (mnR G ro (ro i)):=by
 rw [mn_size hB hi ha]
 exact lt_sum (fun u=>tsz (mnR G ro u)) _ y hy
end SvAs
end
section
open Go.RowKit
open Un (rowI)
set_option maxRecDepth 100000
end
section
def RepL (H:List Gn):Fo→List Nat→Prop
 | .nil,P=>P=[]
 | .cons k n _ ps r,P=>∃j P',P=j :: P'∧(∃s Q,H[j]? = some (k,n,s,Q)∧RepL H ps Q)∧RepL H r P'
theorem RepL.later {H X:List Gn}{F:Fo}:∀ {P:List Nat},RepL H F P→RepL (H++X) F P:=by
 induction F with
 | nil=>intro P h;exact h
 | cons k n u ps r i1 i2=>
  rintro P ⟨j,P',rfl,⟨s,Q,h1,h2⟩,h3⟩
  exact ⟨j,P',rfl,⟨s,Q,app_get h1,i1 h2⟩,i2 h3⟩
def GV (G:List Gn):Prop:=∀p∈G,p.1=1→p.2.2.2=[]
theorem gnode_GV {G:List Gn}{k n:Int}{P:List Nat}(h:GV G) (hk:k=1→P=[]):GV (gnode G k n P).1:=by
 unfold gnode
 split
 ·exact h
 ·intro p hp p1
  rcases List.mem_append.1 hp with hp|hp
  ·exact h p hp p1
  ·simp only [List.mem_cons,List.not_mem_nil,or_false] at hp
   subst hp
   exact hk p1
structure Gok (G:List Gn):Prop where
 gi:GI G
 gp:Gp G
 gn:GN G
 gv:GV G
theorem Gok.nil:Gok []:=⟨fun _ h=>(by cases h),fun _ h=>(by cases h),⟨by simp [names],fun n hn=>by simp [names] at hn⟩,fun _ h=>(by cases h)⟩
structure Fok (F:Fo):Prop where
 vok:Vok F
 alp:AlP F
 wf:F.wf
theorem Fok.parts {k n:Int}{u:Sl}{ps r:Fo}(h:Fok (.cons k n u ps r)):Fok ps:=⟨h.vok.2.1,h.alp.2.1,h.wf.2.1⟩
theorem Fok.rest {k n:Int}{u:Sl}{ps r:Fo}(h:Fok (.cons k n u ps r)):Fok r:=⟨h.vok.2.2,h.alp.2.2,h.wf.2.2⟩
theorem gnode_ok2 {G:List Gn}{k n:Int}{P:List Nat}(h:Gok G) (hk:k=1→P=[]) (h8:P.length≤8) (hlt:∀u∈P,u<G.length) (hw:(Lit.int .i64 n).wf=true):Gok (gnode G k n P).1:=
 ⟨(gnode_ok G k n P h.gi hk).2.1,gnode_gp h.gp h8 hlt,gnode_GN h.gn hw,gnode_GV h.gv hk⟩
theorem gadd_rep (F:Fo):∀G,Gok G→Fok F→Gok (gadd G F).1∧RepL (gadd G F).1 F (gadd G F).2∧∀p∈(gadd G F).2,p<(gadd G F).1.length:=by
 induction F with
 | nil=>intro G h _;rw [gadd_nil];exact ⟨h,rfl,fun p hp=>by cases hp⟩
 | cons k n u ps r i1 i2=>
  intro G hG hF
  obtain ⟨g1,r1,l1⟩:=i1 G hG hF.parts
  have hk:k=1→(gadd G ps).2=[]:=fun h=>by rw [hF.vok.1 h,gadd_nil]
  have h8:(gadd G ps).2.length≤8:=by rw [gadd_len];exact alone_le hF.alp.1
  have g2:=gnode_ok2 (k:=k) (n:=n) g1 hk h8 l1 hF.wf.1
  have hlt:=(gnode_ok (gadd G ps).1 k n (gadd G ps).2 g1.gi hk).2.2.1
  have hat:∃s Q,(gnode (gadd G ps).1 k n (gadd G ps).2).1[(gnode (gadd G ps).1 k n (gadd G ps).2).2]? = some (k,n,s,Q)∧RepL (gnode (gadd G ps).1 k n (gadd G ps).2).1 ps Q:=by
   unfold gnode
   split
   ·rename_i i hi
    split at hi
    ·rename_i h1
     obtain ⟨x,hx,x1,x2⟩:=gvar_at hi
     have hq:=g1.gv x (List.mem_of_getElem? hx) x1
     obtain ⟨a,b,c,d⟩:=x
     dsimp only at x1 x2 hq
     subst x1 x2 hq
     refine ⟨c,[],by rw [hx,h1],?_⟩
     rw [hF.vok.1 h1]
     rfl
    ·cases hi
   ·exact ⟨1+gsum (gadd G ps).1 (gadd G ps).2,(gadd G ps).2,by simp,r1.later⟩
  rw [←gadd1_eq] at g2 hat hlt
  obtain ⟨g3,r3,l3⟩:=i2 (gadd1 G k n ps).1 g2 hF.rest
  obtain ⟨X,hX,_⟩:=gadd_pre r (gadd1 G k n ps).1
  rw [gadd_cons]
  refine ⟨g3,⟨_,_,rfl,?_,r3⟩,fun p hp=>?_⟩
  ·obtain ⟨s,Q,h1,h2⟩:=hat
   refine ⟨s,Q,?_,?_⟩
   ·show (gadd (gadd1 G k n ps).1 r).1[_]? = _
    rw [hX];exact app_get h1
   ·show RepL (gadd (gadd1 G k n ps).1 r).1 ps Q
    rw [hX];exact h2.later
  ·rcases List.mem_cons.1 hp with rfl|hp
   ·show _<(gadd (gadd1 G k n ps).1 r).1.length
    rw [hX,List.length_append];omega
   ·exact l3 p hp
def Hm (G H:List Gn) (φ:Nat→Nat):Prop:=∀(i:Nat) (p:Gn),G[i]? = some p→∃s,H[φ i]? = some (p.1,p.2.1,s,p.2.2.2.map φ)
theorem hm_add (H:List Gn) (hH:GN H) (F:Fo):∀(G:List Gn) (φ:Nat→Nat) (P:List Nat),Gok G→Fok F→Hm G H φ→RepL H F P→∃φ',(∀i,i<G.length→φ' i=φ i)∧Hm (gadd G F).1 H φ'∧(gadd G F).2.map φ'=P:=by
 induction F with
 | nil=>
  intro G φ P _ _ h hP
  rw [gadd_nil]
  exact ⟨φ,fun _ _=>rfl,h,by rw [show P=[] from hP];rfl⟩
 | cons k n u ps r i1 i2=>
  rintro G φ P hG hF h ⟨j,P',rfl,⟨s,Q,hj,hQ⟩,hP'⟩
  obtain ⟨φ1,e1,h1,m1⟩:=i1 G φ Q hG hF.parts h hQ
  obtain ⟨g1,r1,l1⟩:=gadd_rep ps G hG hF.parts
  have hk:k=1→(gadd G ps).2=[]:=fun h=>by rw [hF.vok.1 h,gadd_nil]
  have h8:(gadd G ps).2.length≤8:=by rw [gadd_len];exact alone_le hF.alp.1
  have g2:=gnode_ok2 (k:=k) (n:=n) g1 hk h8 l1 hF.wf.1
  have hlt:=(gnode_ok (gadd G ps).1 k n (gadd G ps).2 g1.gi hk).2.2.1
  obtain ⟨X1,hX1,_⟩:=gadd_pre ps G
  have hGl:G.length≤(gadd G ps).1.length:=by rw [hX1,List.length_append];omega
  have key:∃φ2,(∀i,i<(gadd G ps).1.length→φ2 i=φ1 i)∧Hm (gnode (gadd G ps).1 k n (gadd G ps).2).1 H φ2∧φ2 (gnode (gadd G ps).1 k n (gadd G ps).2).2=j:=by
   unfold gnode
   split
   ·rename_i i hi
    split at hi
    ·rename_i hk1
     obtain ⟨x,hx,x1,x2⟩:=gvar_at hi
     obtain ⟨s',hs'⟩:=h1 i x hx
     rw [x1,x2] at hs'
     have e1:=gvar_node hH hs' rfl
     rw [hk1] at hj
     have e2:=gvar_node hH hj rfl
     refine ⟨φ1,fun _ _=>rfl,h1,?_⟩
     rw [e1] at e2
     exact Option.some.inj e2
    ·cases hi
   ·refine ⟨fun x=>if x=(gadd G ps).1.length then j else φ1 x,fun i hi=>if_neg (by omega),fun i p hp=>?_,if_pos rfl⟩
    have hmap:∀L:List Nat,(∀u∈L,u<(gadd G ps).1.length)→L.map (fun x=>if x=(gadd G ps).1.length then j else φ1 x)=L.map φ1:=fun L hL=>List.map_congr_left fun u hu=>if_neg (by have:=hL u hu;omega)
    by_cases hil:i<(gadd G ps).1.length
    ·have hp':=get_before hil hp
     obtain ⟨s',hs'⟩:=h1 i p hp'
     refine ⟨s',?_⟩
     dsimp only
     rw [if_neg (by omega),hmap _ (g1.gp p (List.mem_of_getElem? hp')).2]
     exact hs'
    ·have hie:i=(gadd G ps).1.length:=by
      have:=lt_of_get hp
      simp at this
      omega
     subst hie
     simp at hp
     subst hp
     refine ⟨s,?_⟩
     dsimp only
     rw [if_pos rfl]
     rw [hmap _ l1,m1]
     exact hj
  obtain ⟨φ2,e2,h2,m2⟩:=key
  rw [←gadd1_eq] at g2 hlt h2 m2
  have hl12:(gadd G ps).1.length≤(gadd1 G k n ps).1.length:=by
   obtain ⟨X2,hX2,_⟩:=gnode_pre (gadd G ps).1 k n (gadd G ps).2
   rw [gadd1_eq,hX2,List.length_append];omega
  obtain ⟨φ3,e3,h3,m3⟩:=i2 (gadd1 G k n ps).1 φ2 P' g2 hF.rest h2 hP'
  rw [gadd_cons]
  refine ⟨φ3,fun i hi=>?_,h3,?_⟩
  ·rw [e3 i (by omega),e2 i (by omega),e1 i hi]
  ·show φ3 (gadd1 G k n ps).2 :: (gadd (gadd1 G k n ps).1 r).2.map φ3=j :: P'
   rw [m3,e3 _ hlt,m2]
theorem Hm.cl {G H:List Gn}{φ:Nat→Nat}{E F:List (Nat×Nat)}(h:Hm G H φ) (hE:∀a b,(a,b)∈E→Cl H F (φ a) (φ b)) {a b:Nat}(hc:Cl G E a b):Cl H F (φ a) (φ b):=by
 induction hc with
 | eq e=>exact hE _ _ e
 | refl a=>exact .refl _
 | symm _ ih=>exact .symm ih
 | trans _ _ i1 i2=>exact .trans i1 i2
 | @part x y a b j p q _ hp hq p1 q1 hk hl ha hb ih=>
  obtain ⟨s,hs⟩:=h _ _ hp
  obtain ⟨t,ht⟩:=h _ _ hq
  exact .part (j:=j) ih hs ht p1 q1 hk (by simpa using hl) (by rw [List.getElem?_map,ha];rfl) (by rw [List.getElem?_map,hb];rfl)
theorem Hm.clash {G H:List Gn}{φ:Nat→Nat}{E F:List (Nat×Nat)}(h:Hm G H φ) (hE:∀a b,(a,b)∈E→Cl H F (φ a) (φ b)) (hc:Clash G E):Clash H F:=by
 obtain ⟨x,y,p,q,h1,hp,hq,p1,q1,hf⟩:=hc
 obtain ⟨s,hs⟩:=h _ _ hp
 obtain ⟨t,ht⟩:=h _ _ hq
 exact ⟨_,_,_,_,h.cl hE h1,hs,ht,p1,q1,fun e=>hf ⟨e.1,by simpa using e.2⟩⟩
def one1 (t:Ty1):Fo:=.cons t.1 t.2.1 t.2.2.1 t.2.2.2 .nil
def HoldsIn (t:Sys) (x:Eqn):Prop:=∃a b,RepL t.1 (one1 x.1) [a]∧RepL t.1 (one1 x.2.1) [b]∧Cl t.1 t.2 a b
def Eok (x:Eqn):Prop:=Fok (one1 x.1)∧Fok (one1 x.2.1)
def flipE (x:Eqn):Eqn:=(x.2.1,x.1,x.2.2)
theorem HoldsIn.flip {t:Sys}{x:Eqn}(h:HoldsIn t x):HoldsIn t (flipE x):=by
 obtain ⟨a,b,h1,h2,h3⟩:=h
 exact ⟨b,a,h2,h1,h3.symm⟩
theorem HoldsIn.later {s t:Sys}{x:Eqn}(hX:∃X,t.1=s.1++X) (hY:∃Y,t.2=s.2++Y) (h:HoldsIn s x):HoldsIn t x:=by
 obtain ⟨a,b,h1,h2,h3⟩:=h
 obtain ⟨X,hX'⟩:=hX
 exact ⟨a,b,by rw [hX'];exact h1.later,by rw [hX'];exact h2.later,h3.later ⟨X,hX'⟩ hY⟩
theorem gadd_one (G:List Gn) (t:Ty1):gadd G (one1 t)=((gadd1 G t.1 t.2.1 t.2.2.2).1,[(gadd1 G t.1 t.2.1 t.2.2.2).2]):=by
 unfold one1
 rw [gadd_cons,gadd_nil]
theorem stp_ok {s:Sys}{x:Eqn}(h:Gok s.1) (hx:Eok x):Gok (stp s x).1∧HoldsIn (stp s x) x:=by
 obtain ⟨g1,r1,l1⟩:=gadd_rep (one1 x.1) s.1 h hx.1
 rw [gadd_one] at g1 r1 l1
 dsimp only at g1 r1 l1
 obtain ⟨g2,r2,l2⟩:=gadd_rep (one1 x.2.1) _ g1 hx.2
 rw [gadd_one] at g2 r2 l2
 dsimp only at g2 r2 l2
 obtain ⟨X,hX,_⟩:=gadd1_pre (gadd1 s.1 x.1.1 x.1.2.1 x.1.2.2.2).1 x.2.1.1 x.2.1.2.1 x.2.1.2.2.2
 refine ⟨g2,(gadd1 s.1 x.1.1 x.1.2.1 x.1.2.2.2).2,(gadd1 (gadd1 s.1 x.1.1 x.1.2.1 x.1.2.2.2).1 x.2.1.1 x.2.1.2.1 x.2.1.2.2.2).2,?_,r2,.eq ?_⟩
 ·show RepL (gadd1 (gadd1 s.1 x.1.1 x.1.2.1 x.1.2.2.2).1 x.2.1.1 x.2.1.2.1 x.2.1.2.2.2).1 _ _
  rw [hX]
  exact r1.later
 ·exact List.mem_append_right _ (List.mem_singleton.2 rfl)
theorem fold_ok (m:List Eqn):∀s:Sys,Gok s.1→(∀x∈m,Eok x)→Gok (m.foldl stp s).1∧∀x∈m,HoldsIn (m.foldl stp s) x:=by
 induction m with
 | nil=>intro s h _;exact ⟨h,fun x hx=>by cases hx⟩
 | cons y m ih=>
  intro s h hm
  obtain ⟨h1,h2⟩:=stp_ok h (hm y List.mem_cons_self)
  obtain ⟨h3,h4⟩:=ih _ h1 fun x hx=>hm x (List.mem_cons_of_mem _ hx)
  refine ⟨h3,fun x hx=>?_⟩
  rcases List.mem_cons.1 hx with rfl|hx
  ·obtain ⟨⟨X,hX,_⟩,hY⟩:=fold_pre m (stp s x)
   exact h2.later ⟨X,hX⟩ hY
  ·exact h4 x hx
theorem fold_hm (t:Sys) (hH:GN t.1) (m:List Eqn):∀(s:Sys) (φ:Nat→Nat),Gok s.1→(∀a b,(a,b)∈s.2→a<s.1.length∧b<s.1.length)→(∀x∈m,Eok x)→(∀x∈m,HoldsIn t x)→Hm s.1 t.1 φ→(∀a b,(a,b)∈s.2→Cl t.1 t.2 (φ a) (φ b))→
  ∃φ',Hm (m.foldl stp s).1 t.1 φ'∧∀a b,(a,b)∈(m.foldl stp s).2→Cl t.1 t.2 (φ' a) (φ' b):=by
 induction m with
 | nil=>intro s φ _ _ _ _ h hE;exact ⟨φ,h,hE⟩
 | cons y m ih=>
  intro s φ hG hl hm ht h hE
  have hy:=hm y List.mem_cons_self
  obtain ⟨a,b,ra,rb,hc⟩:=ht y List.mem_cons_self
  obtain ⟨φ1,e1,h1,m1⟩:=hm_add t.1 hH (one1 y.1) s.1 φ [a] hG hy.1 h ra
  obtain ⟨g1,_,l1⟩:=gadd_rep (one1 y.1) s.1 hG hy.1
  rw [gadd_one] at h1 m1 g1 l1
  dsimp only at h1 m1 g1 l1
  obtain ⟨φ2,e2,h2,m2⟩:=hm_add t.1 hH (one1 y.2.1) _ φ1 [b] g1 hy.2 h1 rb
  obtain ⟨g2,_,l2⟩:=gadd_rep (one1 y.2.1) _ g1 hy.2
  rw [gadd_one] at h2 m2 g2 l2
  dsimp only at h2 m2 g2 l2
  simp only [List.map_cons,List.map_nil,List.cons.injEq,and_true] at m1 m2
  have la:=l1 _ (List.mem_singleton.2 rfl)
  have lb:=l2 _ (List.mem_singleton.2 rfl)
  obtain ⟨X1,hX1,_⟩:=gadd1_pre s.1 y.1.1 y.1.2.1 y.1.2.2.2
  obtain ⟨X2,hX2,_⟩:=gadd1_pre (gadd1 s.1 y.1.1 y.1.2.1 y.1.2.2.2).1 y.2.1.1 y.2.1.2.1 y.2.1.2.2.2
  have hl1:s.1.length≤(gadd1 s.1 y.1.1 y.1.2.1 y.1.2.2.2).1.length:=by rw [hX1,List.length_append];omega
  have hl2:(gadd1 s.1 y.1.1 y.1.2.1 y.1.2.2.2).1.length≤(stp s y).1.length:=by
   show _≤(gadd1 (gadd1 s.1 y.1.1 y.1.2.1 y.1.2.2.2).1 y.2.1.1 y.2.1.2.1 y.2.1.2.2.2).1.length
   rw [hX2,List.length_append];omega
  refine ih (stp s y) φ2 g2 (fun c d hcd=>?_) (fun x hx=>hm x (List.mem_cons_of_mem _ hx)) (fun x hx=>ht x (List.mem_cons_of_mem _ hx)) h2 fun c d hcd=>?_
  ·rcases List.mem_append.1 hcd with hcd|hcd
   ·have:=hl c d hcd
    omega
   ·simp only [List.mem_cons,List.not_mem_nil,or_false,Prod.mk.injEq] at hcd
    obtain ⟨rfl,rfl⟩:=hcd
    exact ⟨by omega,lb⟩
  ·rcases List.mem_append.1 hcd with hcd|hcd
   ·have hlt:=hl c d hcd
    rw [e2 c (by omega),e2 d (by omega),e1 c hlt.1,e1 d hlt.2]
    exact hE c d hcd
   ·simp only [List.mem_cons,List.not_mem_nil,or_false,Prod.mk.injEq] at hcd
    obtain ⟨rfl,rfl⟩:=hcd
    rw [e2 _ la,m1,m2]
    exact hc
structure Sim (s t:Sys):Prop where
 clash:Clash s.1 s.2→Clash t.1 t.2
 var:∀a,a∈names s.1→a∈names t.1
 same:∀a b,SameIs s.1 s.2 a b→SameIs t.1 t.2 a b
 kind:¬ Clash t.1 t.2→∀v r r',KindIs s.1 s.2 v r→KindIs t.1 t.2 v r'→r≠0→r'=r
theorem sim_of (l m:List Eqn) (hl:∀x∈l,Eok x) (hm:∀x∈m,Eok x) (h:∀x∈l,HoldsIn (cls m) x):Sim (cls l) (cls m):=by
 obtain ⟨gm,_⟩:=fold_ok m ([],[]) Gok.nil hm
 have gm:Gok (cls m).1:=gm
 obtain ⟨φ,h1,h2⟩:=fold_hm (cls m) gm.gn l ([],[]) (fun x=>x) Gok.nil (fun a b h=>by cases h) hl h (fun i p hp=>by simp at hp) (fun a b h=>by cases h)
 have h1:Hm (cls l).1 (cls m).1 φ:=h1
 have hv:∀a i,gvar (cls l).1 a=some i→gvar (cls m).1 a=some (φ i):=fun a i hi=>by
  obtain ⟨p,hp,p1,p2⟩:=gvar_at hi
  obtain ⟨s,hs⟩:=h1 i p hp
  have:=gvar_node gm.gn hs p1
  dsimp only at this
  rw [p2] at this
  exact this
 refine ⟨h1.clash h2,fun a ha=>?_,fun a b hab=>?_,fun hn v r r' hr hr' h0=>?_⟩
 ·obtain ⟨i,p,_,_,_,hi⟩:=names_at ha
  exact (gvar_names _ a).1 (by rw [hv a i hi];rfl)
 ·obtain ⟨i,j,hi,hj,hc⟩:=hab
  exact ⟨φ i,φ j,hv a i hi,hv b j hj,h1.cl h2 hc⟩
 ·unfold KindIs at hr hr'
  cases hg:gvar (cls l).1 v with
  | none=>rw [hg] at hr;exact absurd hr h0
  | some i=>
   rw [hg] at hr
   rw [hv v i hg] at hr'
   rcases hr with ⟨y,q,c1,c2,c3,rfl⟩|⟨e,_⟩
   ·obtain ⟨s,hs⟩:=h1 y q c2
    have c1':=h1.cl h2 c1
    rcases hr' with ⟨z,p,g1,g2,g3,rfl⟩|⟨_,g⟩
    ·apply Decidable.byContradiction
     intro hne
     exact hn ⟨z,φ y,p,_,g1.symm.trans c1',g2,hs,g3,c3,fun e=>hne e.1⟩
    ·exact absurd (g (φ y) _ c1' hs) c3
   ·exact absurd e h0
theorem sim_vars {s t:Sys}(hs:GN s.1) (ht:GN t.1) (h1:∀a,a∈names s.1→a∈names t.1) (h2:∀a,a∈names t.1→a∈names s.1):vsort s.1=vsort t.1:=by
 obtain ⟨a1,a2⟩:=vfold s.1 [] List.Pairwise.nil
 obtain ⟨b1,b2⟩:=vfold t.1 [] List.Pairwise.nil
 rw [List.nil_append] at a2 b2
 have hp:(names s.1).Perm (names t.1):=(List.perm_ext_iff_of_nodup hs.1 ht.1).2 fun a=>⟨h1 a,h2 a⟩
 exact List.Perm.eq_of_pairwise (le:=fun a b=>a≤b) (fun a b _ _ h1 h2=>Int.le_antisymm h1 h2) a1 b1 (a2.trans (hp.trans b2.symm))
end
end Go.Proofs.YtmamdiggjghjkaaGreatDoor
