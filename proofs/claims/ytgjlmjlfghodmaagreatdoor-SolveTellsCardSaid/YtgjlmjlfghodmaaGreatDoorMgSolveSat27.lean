/- Texts of one proof, one behind the other. -/
import Derived.Test.YtgjlmjlfghodmaaGreatDoorMgSolveSat26
import Derived.Test.YtgjlmjlfghodmaaGreatDoorMgSolveSat1
import Derived.Test.YtgjlmjlfghodmaaGreatDoorMgSolveSat18
import Derived.Test.YtgjlmjlfghodmaaGreatDoorMgSolveSat25a
import Derived.Test.YtgjlmjlfghodmaaGreatDoorMgSolveSat23
import Derived.Test.YtgjlmjlfghodmaaGreatDoorMgSolveSat20
import Derived.Test.YtgjlmjlfghodmaaGreatDoorMgSolveSat25b
import Derived.IntWalk
import Derived.Test.YtgjlmjlfghodmaaGreatDoorMgSolveSat5
set_option linter.unusedVariables false
namespace Go.Proofs.YtgjlmjlfghodmaaGreatDoor
def inF (v:Int):Fo→Prop
 | .nil=>False
 | .cons k n _ ps r=>(k=1∧n=v)∨inF v ps∨inF v r
def inT (v:Int) (x:Tp):Prop:=(x.1=1∧x.2.1=v)∨inF v x.2.2
section SoEs
variable {G:List Gn}{cc col ro:Nat→Nat}{kn:Kn}{E:List (Nat×Nat)}{lv:Nat→Int}{v:Int}
theorem inF_row (l:List Tp):inF v (tpRow l)↔∃x∈l,inT v x:=by
 induction l with
 | nil=>simp [tpRow,inF]
 | cons y l ih=>
  simp only [tpRow,inF,ih,List.mem_cons]
  constructor
  ·rintro (h|h|⟨x,hx,h⟩)
   ·exact ⟨y,.inl rfl,.inl h⟩
   ·exact ⟨y,.inl rfl,.inr h⟩
   ·exact ⟨x,.inr hx,h⟩
  ·rintro ⟨x,rfl|hx,h⟩
   ·rcases h with h|h
    ·exact .inl h
    ·exact .inr (.inl h)
   ·exact .inr (.inr ⟨x,hx,h⟩)
def LvOk (G:List Gn) (cc:Nat→Nat) (lv:Nat→Int):Prop:=∀i,i<G.length→(¬ ∃x,Hd G cc (cc i) x)→∃z,z<G.length∧cc z=cc i∧∃p,G[z]? = some p∧p.1=1∧p.2.1=lv (cc i)
theorem mean_own (hB:Both G col ro kn E cc) (hp:∀p∈G,∀u∈p.2.2.2,u<G.length) (hlv:LvOk G cc lv):∀c,AccC G cc c→∀i,cc i=c→i<G.length→∀v,inT v (meanC G cc lv c)→meanV G cc lv v=(1,v,.nil):=by
 intro c hc
 induction hc with
 | intro c hacc ih=>
  intro i hic hi v hv
  have ha:AccC G cc c:=Acc.intro c hacc
  by_cases hk:∃x,Hd G cc c x
  ·obtain ⟨⟨k,p⟩,h1,h2,h3⟩:=hk
   have h1:G[k]? = some p:=h1
   have h2:cc k=c:=h2
   have h3:p.1≠1:=h3
   rw [mean_node hB ha h1 h2 h3] at hv
   rcases hv with hv|hv
   ·exact absurd hv.1 h3
   ·obtain ⟨x,hx,hv⟩:=(inF_row _).1 hv
    obtain ⟨u,hu,rfl⟩:=List.mem_map.1 hx
    exact ih (cc u) ⟨k,p,u,h1,h2,h3,hu,rfl⟩ u rfl (hp p (List.mem_of_getElem? h1) u hu) v hv
  ·have hm:=mean_var (lv:=lv) ha hk
   rw [hm] at hv
   rcases hv with hv|hv
   ·obtain ⟨_,rfl⟩:=hv
    obtain ⟨z,hzl,hzc,p,hp1,hp2,hp3⟩:=hlv i hi (by rw [hic];exact hk)
    rw [hic] at hp3 hzc
    unfold meanV
    rw [←hp3,gvar_node hB.gn hp1 hp2]
    show meanC G cc lv (cc z)=_
    rw [hzc,hm,hp3]
   ·exact hv.elim
def nv:Fo→Prop
 | .nil=>True
 | .cons k _ _ ps r=>(k=1→ps = .nil)∧nv ps∧nv r
theorem nv_row (l:List Tp) (h:∀x∈l,(x.1=1→x.2.2 = .nil)∧nv x.2.2):nv (tpRow l):=by
 induction l with
 | nil=>trivial
 | cons x l ih=>
  have hx:=h x List.mem_cons_self
  exact ⟨hx.1,hx.2,ih fun y hy=>h y (List.mem_cons_of_mem _ hy)⟩
theorem mean_nv (hB:Both G col ro kn E cc):∀c,AccC G cc c→((meanC G cc lv c).1=1→(meanC G cc lv c).2.2 = .nil)∧nv (meanC G cc lv c).2.2:=by
 intro c hc
 induction hc with
 | intro c hacc ih=>
  have ha:AccC G cc c:=Acc.intro c hacc
  by_cases hk:∃x,Hd G cc c x
  ·obtain ⟨⟨k,p⟩,h1,h2,h3⟩:=hk
   have h1:G[k]? = some p:=h1
   have h2:cc k=c:=h2
   have h3:p.1≠1:=h3
   rw [mean_node hB ha h1 h2 h3]
   refine ⟨fun h=>absurd h h3,nv_row _ fun x hx=>?_⟩
   obtain ⟨u,hu,rfl⟩:=List.mem_map.1 hx
   exact ih (cc u) ⟨k,p,u,h1,h2,h3,hu,rfl⟩
  ·rw [mean_var ha hk]
   exact ⟨fun _=>rfl,trivial⟩
end SoEs
end Go.Proofs.YtgjlmjlfghodmaaGreatDoor
namespace Go.Proofs.YtgjlmjlfghodmaaGreatDoor
section SoFs
variable {G:List Gn}{cc col ro:Nat→Nat}{kn:Kn}{E:List (Nat×Nat)}{lv:Nat→Int}{v:Int}
theorem row_pure (l:List Tp) (h:∀x∈l,x.2.2.pure=x.2.2):(tpRow l).pure=tpRow l:=by
 induction l with
 | nil=>rfl
 | cons x l ih=>
  show Fo.cons _ _ _ _ _=_
  rw [h x List.mem_cons_self,ih fun y hy=>h y (List.mem_cons_of_mem _ hy)]
  rfl
theorem mean_pure (hB:Both G col ro kn E cc):∀c,AccC G cc c→(meanC G cc lv c).2.2.pure=(meanC G cc lv c).2.2:=by
 intro c hc
 induction hc with
 | intro c hacc ih=>
  have ha:AccC G cc c:=Acc.intro c hacc
  by_cases hk:∃x,Hd G cc c x
  ·obtain ⟨⟨k,p⟩,h1,h2,h3⟩:=hk
   have h1:G[k]? = some p:=h1
   have h2:cc k=c:=h2
   have h3:p.1≠1:=h3
   rw [mean_node hB ha h1 h2 h3]
   refine row_pure _ fun x hx=>?_
   obtain ⟨u,hu,rfl⟩:=List.mem_map.1 hx
   exact ih (cc u) ⟨k,p,u,h1,h2,h3,hu,rfl⟩
  ·rw [mean_var ha hk]
   rfl
structure Can (Sv:(Int→Tp)→Prop) (m:Int→Tp):Prop where
 solves:Sv m
 then_:∀s,Sv s→∀v,sbT s (m v)=s v
 own:∀v x,inT x (m v)→m x=(1,x,.nil)
 nv:∀v,((m v).1=1→(m v).2.2 = .nil)∧Go.Proofs.YtgjlmjlfghodmaaGreatDoor.nv (m v).2.2∧(m v).2.2.pure=(m v).2.2
 min:∀v a,m v=(1,a,.nil)→a≤v
def LvLeast (G:List Gn) (cc:Nat→Nat) (lv:Nat→Int):Prop:=∀z p,G[z]? = some p→p.1=1→(¬ ∃x,Hd G cc (cc z) x)→lv (cc z)≤p.2.1
structure Sol (L:List Eqn) (cc:Nat→Nat) (lv:Nat→Int):Prop where
 both:∃col ro kn,Both (cls L).1 col ro kn (cls L).2 cc
 part:∀p∈(cls L).1,∀u∈p.2.2.2,u<(cls L).1.length
 gl:GL (cls L).1
 nz:∀x∈L,nz (tOne x.1)∧nz (tOne x.2.1)
 acc:∀i,i<(cls L).1.length→AccC (cls L).1 cc (cc i)
 lvok:LvOk (cls L).1 cc lv
 least:LvLeast (cls L).1 cc lv
noncomputable abbrev solV (L:List Eqn) (cc:Nat→Nat) (lv:Nat→Int) (v:Int):Tp:=meanV (cls L).1 cc lv v
section
variable {L M:List Eqn}{cc dd:Nat→Nat}{lv mv:Nat→Int}{s:Int→Tp}
theorem Sol.solves (h:Sol L cc lv):Slv L (solV L cc lv):=by
 obtain ⟨col,ro,kn,hB⟩:=h.both
 exact mean_solves L hB h.acc h.nz
theorem Sol.then_ (h:Sol L cc lv) (hs:Slv L s) (v:Int):sbT s (solV L cc lv v)=s v:=by
 obtain ⟨col,ro,kn,hB⟩:=h.both
 exact slv_then hB h.part h.gl h.nz hs h.lvok h.acc v
theorem Sol.own (h:Sol L cc lv) {v x:Int}(hx:inT x (solV L cc lv v)):solV L cc lv x=(1,x,.nil):=by
 obtain ⟨col,ro,kn,hB⟩:=h.both
 unfold solV at hx
 unfold meanV at hx
 cases hg:gvar (cls L).1 v with
 | none=>
  rw [hg] at hx
  rcases hx with ⟨_,h2⟩|h2
  ·have h2:v=x:=h2
   subst h2
   show meanV _ _ _ _=_
   unfold meanV
   rw [hg]
  ·exact h2.elim
 | some i=>
  rw [hg] at hx
  exact mean_own hB h.part h.lvok _ (h.acc i (gvar_lt hg)) i rfl (gvar_lt hg) x hx
theorem Sol.nv (h:Sol L cc lv) (v:Int):((solV L cc lv v).1=1→(solV L cc lv v).2.2 = .nil)∧Go.Proofs.YtgjlmjlfghodmaaGreatDoor.nv (solV L cc lv v).2.2∧(solV L cc lv v).2.2.pure=(solV L cc lv v).2.2:=by
 obtain ⟨col,ro,kn,hB⟩:=h.both
 show ((meanV _ _ _ _).1=1→_)∧_
 unfold solV meanV
 cases hg:gvar (cls L).1 v with
 | none=>exact ⟨fun _=>rfl,trivial,rfl⟩
 | some i=>
  have h1:=mean_nv (lv:=lv) hB _ (h.acc i (gvar_lt hg))
  exact ⟨h1.1,h1.2,mean_pure hB _ (h.acc i (gvar_lt hg))⟩
theorem Sol.min (h:Sol L cc lv) {v a:Int}(ha:solV L cc lv v=(1,a,.nil)):a≤v:=by
 obtain ⟨col,ro,kn,hB⟩:=h.both
 unfold solV meanV at ha
 cases hg:gvar (cls L).1 v with
 | none=>
  rw [hg] at ha
  have:v=a:=(Prod.mk.inj (Prod.mk.inj ha).2).1
  omega
 | some i=>
  rw [hg] at ha
  have ha:meanC (cls L).1 cc lv (cc i)=(1,a,.nil):=ha
  obtain ⟨p,h1,h2,h3⟩:=var_node hg
  by_cases hk:∃x,Hd (cls L).1 cc (cc i) x
  ·obtain ⟨⟨k,q⟩,g1,g2,g3⟩:=hk
   rw [mean_node hB (h.acc i (gvar_lt hg)) g1 g2 g3] at ha
   exact absurd (Prod.mk.inj ha).1 g3
  ·rw [mean_var (h.acc i (gvar_lt hg)) hk] at ha
   have e:lv (cc i)=a:=(Prod.mk.inj (Prod.mk.inj ha).2).1
   have:=h.least i p h1 h2 hk
   omega
theorem Sol.can (h:Sol L cc lv):Can (Slv L) (solV L cc lv):=⟨h.solves,fun _ hs v=>h.then_ hs v,fun _ _ hx=>h.own hx,h.nv,fun _ _ ha=>h.min ha⟩
end
end SoFs
end Go.Proofs.YtgjlmjlfghodmaaGreatDoor
namespace Go.Proofs.YtgjlmjlfghodmaaGreatDoor
section SoGs
variable {s t:Int→Tp}{n:Int}{b:Tp}
def one (n:Int) (b:Tp) (v:Int):Tp:=if v=n then b else (1,v,.nil)
def Slp (l:List (Tp×Tp)) (s:Int→Tp):Prop:=∀x∈l,sbT s x.1=sbT s x.2
end SoGs
end Go.Proofs.YtgjlmjlfghodmaaGreatDoor
namespace Go.Proofs.YtgjlmjlfghodmaaGreatDoor
def inL (v:Int) (l:List (Tp×Tp)):Prop:=∃x∈l,inT v x.1∨inT v x.2
def okT (x:Tp):Prop:=(x.1=1→x.2.2 = .nil)∧nv x.2.2∧x.2.2.pure=x.2.2
structure SlI (l0 l:List (Tp×Tp)) (m:Int→Tp):Prop where
 same:∀s,Slp l0 s↔Slp l s∧∀v,sbT s (m v)=s v
 own:∀v x,inT x (m v)→m x=(1,x,.nil)
 left:∀x,inL x l→m x=(1,x,.nil)
 okm:∀v,okT (m v)
 okl:∀x∈l,okT x.1∧okT x.2
section SoHs
variable {l0 l:List (Tp×Tp)}{m:Int→Tp}{s:Int→Tp}{n:Int}{a b:Tp}
end SoHs
end Go.Proofs.YtgjlmjlfghodmaaGreatDoor
namespace Go.Proofs.YtgjlmjlfghodmaaGreatDoor
section SoIs
variable {l0 l:List (Tp×Tp)}{m:Int→Tp}{s t:Int→Tp}
theorem sb_pure (s:Int→Tp) (F:Fo):sb s F.pure=sb s F:=by
 induction F with
 | nil=>rfl
 | cons k n u ps r i1 i2=>
  show Fo.cons _ _ _ _ _=Fo.cons _ _ _ _ _
  rw [i1,i2]
def prs (L:List Eqn):List (Tp×Tp):=L.map fun x=>((x.1.1,x.1.2.1,x.1.2.2.2.pure),(x.2.1.1,x.2.1.2.1,x.2.1.2.2.2.pure))
end SoIs
end Go.Proofs.YtgjlmjlfghodmaaGreatDoor
namespace Go.Proofs.YtgjlmjlfghodmaaGreatDoor
section SoJs
variable {l0 l:List (Tp×Tp)}{m:Int→Tp}{s:Int→Tp}{n:Int}{a b:Tp}
theorem row_size (l:List Tp):(tpRow l).size=(l.map tsz).sum:=by
 induction l with
 | nil=>rfl
 | cons x l ih=>
  show 1+x.2.2.size+(tpRow l).size=_
  rw [ih]
  simp [tsz]
theorem sb_grows (s:Int→Tp) (F:Fo):nv F→F.size≤(sb s F).size:=by
 induction F with
 | nil=>intro _;exact Nat.le_refl _
 | cons k n u ps r i1 i2=>
  rintro ⟨n1,n2,n3⟩
  have h2:=i2 n3
  show 1+ps.size+r.size≤1+Fo.size _+Fo.size _
  by_cases hk:k=1
  ·rw [n1 hk]
   simp only [Fo.size]
   omega
  ·rw [if_neg hk]
   have h1:=i1 n2
   show 1+ps.size+r.size≤1+(sb s ps).size+_
   omega
theorem sbT_grows (s:Int→Tp) {x:Tp}(h:okT x):tsz x≤tsz (sbT s x):=by
 unfold sbT
 by_cases hk:x.1=1
 ·rw [if_pos hk]
  unfold tsz
  rw [h.1 hk]
  simp [Fo.size]
 ·rw [if_neg hk]
  have:=sb_grows s _ h.2.1
  unfold tsz
  dsimp only
  omega
end SoJs
end Go.Proofs.YtgjlmjlfghodmaaGreatDoor
namespace Go.Proofs.YtgjlmjlfghodmaaGreatDoor
section SoKs
variable {Sv:(Int→Tp)→Prop}{m s:Int→Tp}
end SoKs
end Go.Proofs.YtgjlmjlfghodmaaGreatDoor
namespace Go.Proofs.YtgjlmjlfghodmaaGreatDoor
def lvC (G:List Gn) (cc:Nat→Nat) (c:Nat):Int:=(((vsort G).filter fun a=>cc (ivar G a).toNat == c).head?).getD (-1)
section SoLs
variable {G:List Gn}{cc:Nat→Nat}{c:Nat}
theorem lvC_mem (hg:GN G) (b:Int):b∈(vsort G).filter (fun a=>cc (ivar G a).toNat == c)↔∃v p,G[v]? = some p∧p.1=1∧p.2.1=b∧cc v=c:=by
 have hv2:(vsort G).Perm (names G):=by simpa [vsort] using (vfold G [] List.Pairwise.nil).2
 rw [List.mem_filter]
 constructor
 ·rintro ⟨hb,hs⟩
  obtain ⟨v,hv,hvv,hvl⟩:=ivar_of hb
  rw [hvv] at hs
  obtain ⟨p,hp,p1,p2⟩:=gvar_at hv
  exact ⟨v,p,hp,p1,p2,by simpa using hs⟩
 ·rintro ⟨v,p,hp,p1,rfl,hc⟩
  have hv:=gvar_node hg hp p1
  refine ⟨hv2.mem_iff.2 ((gvar_names G _).1 (by rw [hv];rfl)),?_⟩
  rw [show ivar G p.2.1=(v:Nat) by rw [ivar,hv]]
  simpa using hc
theorem lvC_at (hg:GN G) {v:Nat}{p:Gn}(hp:G[v]? = some p) (p1:p.1=1) (hc:cc v=c):(∃z q,G[z]? = some q∧q.1=1∧q.2.1=lvC G cc c∧cc z=c)∧lvC G cc c≤p.2.1:=by
 have hv1:(vsort G).Pairwise (·≤·):=(vfold G [] List.Pairwise.nil).1
 have hs:=hv1.sublist (List.filter_sublist (l:=vsort G) (p:=fun a=>cc (ivar G a).toNat == c))
 have hin:=(lvC_mem hg (c:=c) (cc:=cc) p.2.1).2 ⟨v,p,hp,p1,rfl,hc⟩
 have hm:=fun b=>(lvC_mem hg (c:=c) (cc:=cc) b).1
 unfold lvC
 cases hf:(vsort G).filter (fun a=>cc (ivar G a).toNat == c) with
 | nil=>rw [hf] at hin;cases hin
 | cons y l=>
  rw [hf] at hin hs hm
  show (∃z q,G[z]? = some q∧q.1=1∧q.2.1=y∧cc z=c)∧y≤p.2.1
  refine ⟨hm y List.mem_cons_self,?_⟩
  rcases List.mem_cons.1 hin with h|h
  ·omega
  ·exact (List.pairwise_cons.1 hs).1 _ h
theorem lvC_ok (hg:GN G):LvOk G cc (lvC G cc):=by
 intro i hi hk
 obtain ⟨p,hp⟩:∃p,G[i]? = some p:=⟨_,List.getElem?_eq_getElem hi⟩
 have p1:p.1=1:=Classical.byContradiction fun h=>hk ⟨(i,p),hp,rfl,h⟩
 obtain ⟨⟨z,q,h1,h2,h3,h4⟩,_⟩:=lvC_at hg hp p1 rfl
 exact ⟨z,lt_of_get h1,h4,q,h1,h2,h3⟩
theorem lvC_least (hg:GN G):LvLeast G cc (lvC G cc):=fun _ _ hp p1 _=>(lvC_at hg hp p1 rfl).2
theorem sol_of {L:List Eqn}{col ro:Nat→Nat}{kn:Kn}(hB:Both (cls L).1 col ro kn (cls L).2 cc) (hp:Gp (cls L).1) (hl:GL (cls L).1) (hf:FinC (cls L).1 (cls L).2) (hz:∀x∈L,nz (tOne x.1)∧nz (tOne x.2.1)):Sol L cc (lvC (cls L).1 cc) where
 both:=⟨col,ro,kn,hB⟩
 part p hh:=(hp p hh).2
 gl:=hl
 nz:=hz
 acc i hi:=(acc_color hB hi).1 (acc_all hB.nc hB.gn hl hf i hi)
 lvok:=lvC_ok hB.gn
 least:=lvC_least hB.gn
end SoLs
end Go.Proofs.YtgjlmjlfghodmaaGreatDoor
namespace Go.Proofs.YtgjlmjlfghodmaaGreatDoor
open Go.RowKit
open Un (rowI rowI_get Else own_else wp_world)
attribute [local go_sem] Oper.semAt_some
set_option maxRecDepth 100000
section SoMs
variable {D:Nat→Prop}{B:Nat}{vm vs:Value}{M:List Rm}{G:List Gn}{cc:Nat→Nat}{col ro:Nat→Nat}{kn:Kn}{E:List (Nat×Nat)}
end SoMs
end Go.Proofs.YtgjlmjlfghodmaaGreatDoor
namespace Go.Proofs.YtgjlmjlfghodmaaGreatDoor
section SoNs
theorem right_ok (F:Fo):LenOk F→allAlone F.pre=true→nz F∧nv F:=by
 induction F with
 | nil=>intro _ _;exact ⟨trivial,trivial⟩
 | cons k n u ps r i1 i2=>
  rintro ⟨l1,l2,l3⟩ h
  unfold allAlone at h i1 i2
  simp only [Fo.pre,List.all_cons,List.all_append,Bool.and_eq_true] at h
  obtain ⟨h1,h2,h3⟩:=h
  obtain ⟨a1,a2⟩:=i1 l2 h2
  obtain ⟨b1,b2⟩:=i2 l3 h3
  refine ⟨⟨fun hk=>?_,a1,b1⟩,fun hk=>?_,a2,b2⟩
  ·unfold alone at h1
   rw [if_neg hk] at h1
   split at h1
   ·simp only [Bool.and_eq_true,beq_iff_eq] at h1;exact h1.1
   ·split at h1
    ·simp only [Bool.and_eq_true,beq_iff_eq] at h1;exact h1.1
    ·split at h1
     ·simp only [Bool.and_eq_true,beq_iff_eq] at h1;exact h1.1.1
     ·cases h1
  ·unfold alone at h1
   rw [if_pos hk] at h1
   simp only [Bool.and_eq_true,beq_iff_eq] at h1
   have h4:=h1.2
   rw [l1] at h4
   cases ps with
   | nil=>rfl
   | cons _ _ _ _ _=>
    simp only [Fo.len] at h4
    omega
theorem nv_pure (F:Fo):nv F→nv F.pure:=by
 induction F with
 | nil=>exact id
 | cons k n u ps r i1 i2=>
  rintro ⟨a,b,c⟩
  refine ⟨fun hk=>?_,i1 b,i2 c⟩
  rw [a hk]
  rfl
theorem prs_ok (L:List Eqn) (hlen:∀x∈L,LenOk (tOne x.1)∧LenOk (tOne x.2.1)) (hr:∀x∈L,allAlone (tOne x.1).pre=true∧allAlone (tOne x.2.1).pre=true):(∀x∈L,nz (tOne x.1)∧nz (tOne x.2.1))∧∀x∈prs L,okT x.1∧okT x.2:=by
 have hz:=fun x hx=>aI (right_ok _ (hlen x hx).1 (hr x hx).1) (right_ok _ (hlen x hx).2 (hr x hx).2)
 refine ⟨fun x hx=>⟨(hz x hx).1.1,(hz x hx).2.1⟩,fun x hx=>?_⟩
 obtain ⟨y,hy,rfl⟩:=List.mem_map.1 hx
 obtain ⟨⟨_,n1,n2,_⟩,⟨_,m1,m2,_⟩⟩:=hz y hy
 refine ⟨⟨fun hk=>?_,nv_pure _ n2,?_⟩,⟨fun hk=>?_,nv_pure _ m2,?_⟩⟩
 ·show y.1.2.2.2.pure = .nil
  rw [n1 hk]
  rfl
 ·exact Fo.pure_pure _
 ·show y.2.1.2.2.2.pure = .nil
  rw [m1 hk]
  rfl
 ·exact Fo.pure_pure _
end SoNs
end Go.Proofs.YtgjlmjlfghodmaaGreatDoor
namespace Go.Proofs.YtgjlmjlfghodmaaGreatDoor
set_option maxRecDepth 100000
structure EaI (R:Nat→Prop) (ch:Nat→List Nat) (rk:Nat→Nat) (n:Nat) (I D B P:List Nat):Prop where
 par:∀x∈D,∀y∈ch x,y∈D
 nd:D.Nodup
 dl:∀x∈D,x<n
 bl:∀x∈B,x<n∧R x
 pl:∀x∈P,x<n∧x ∉ D∧R x
 dn:P.Pairwise fun a b=>rk b<rk a
 all:∀x∈I,x∈B∨x∈D
theorem nd_snoc {D:List Nat}{r:Nat}(h:D.Nodup) (hd:r ∉ D):(D ++ [r]).Nodup:=by
 refine List.nodup_append.2 ⟨h,by simp,fun a ha b hb e=>?_⟩
 rcases List.mem_cons.1 hb with h1|h1
 ·exact hd (h1 ▸ e ▸ ha)
 ·cases h1
section EaIs
variable {R:Nat→Prop}{ch:Nat→List Nat}{rk:Nat→Nat}{n:Nat}{I D B P:List Nat}{r x:Nat}
theorem EaI.pnd (h:EaI R ch rk n I D B P):P.Nodup:=h.dn.imp fun hab e=>by subst e;exact Nat.lt_irrefl _ hab
theorem EaI.few (h:EaI R ch rk n I D B P):D.length+P.length≤n:=by
 have h1:(D++P).Nodup:=List.nodup_append.2 ⟨h.nd,h.pnd,fun a ha b hb e=>(h.pl b hb).2.1 (e ▸ ha)⟩
 have h2:=nodup_len h1 (fun y hy=>by
  rcases List.mem_append.1 hy with hy|hy
  ·exact h.dl y hy
  ·exact (h.pl y hy).1)
 simpa using h2
theorem EaI.top (h:EaI R ch rk n I D B P) (hr:(B++P).getLast? = some r):r<n∧(P≠[]→r ∉ D)∧(∀y∈P,rk r≤rk y)∧R r:=by
 by_cases hP:P=[]
 ·subst hP
  rw [List.append_nil] at hr
  exact ⟨(h.bl r (List.mem_of_getLast? hr)).1,fun h=>absurd rfl h,(fun y hy=>by cases hy),(h.bl r (List.mem_of_getLast? hr)).2⟩
 ·obtain ⟨Q,z,rfl⟩:∃Q z,P=Q ++ [z]:=⟨P.dropLast,P.getLast hP,(List.dropLast_concat_getLast hP).symm⟩
  rw [←List.append_assoc,List.getLast?_concat] at hr
  cases hr
  refine ⟨(h.pl r (by simp)).1,fun _=>(h.pl r (by simp)).2.1,fun y hy=>?_,(h.pl r (by simp)).2.2⟩
  rcases List.mem_append.1 hy with hy|hy
  ·exact Nat.le_of_lt ((List.pairwise_append.1 h.dn).2.2 y hy r (by simp))
  ·obtain rfl:y=r:=by simpa using hy
   exact Nat.le_refl _
theorem EaI.push (h:EaI R ch rk n I D B P) (hr:(B++P).getLast? = some r) (hx:x ∉ D) (hn:x<n) (hk:rk x<rk r) (hR:R x):EaI R ch rk n I D B (P ++ [x]) where
 par:=h.par
 nd:=h.nd
 dl:=h.dl
 bl:=h.bl
 pl y hy:=by
  rcases List.mem_append.1 hy with hy|hy
  ·exact h.pl y hy
  ·obtain rfl:y=x:=by simpa using hy
   exact ⟨hn,hx,hR⟩
 dn:=List.pairwise_append.2 ⟨h.dn,by simp,fun a ha b hb=>by
  obtain rfl:b=x:=by simpa using hb
  exact Nat.lt_of_lt_of_le hk ((h.top hr).2.2.1 a ha)⟩
 all:=h.all
theorem EaI.pop (h:EaI R ch rk n I D B P) (hr:(B++P).getLast? = some r) (hc:∀y∈ch r,y∈D):
  (r∈D→∃B' P',B'++P'=(B++P).dropLast∧EaI R ch rk n I D B' P'∧B'.length+P.length+1=B.length+P'.length∧B'.length≤B.length)∧(r ∉ D→∃B' P',B'++P'=(B++P).dropLast∧EaI R ch rk n I (D ++ [r]) B' P'∧B'.length+P.length≤B.length+P'.length+1∧B'.length≤B.length):=by
 by_cases hP:P=[]
 ·subst hP
  rw [List.append_nil] at hr
  obtain ⟨Q,rfl⟩:∃Q,B=Q ++ [r]:=⟨B.dropLast,by
   have hne:B≠[]:=fun e=>by rw [e] at hr;simp at hr
   have h1:=List.dropLast_concat_getLast hne
   rw [List.getLast?_eq_some_getLast hne] at hr
   injection hr with hr
   rw [hr] at h1
   exact h1.symm⟩
  have hrn:=(h.top (r:=r) (by simp)).1
  refine ⟨fun hd=>⟨Q,[],by simp,⟨h.par,h.nd,h.dl,fun y hy=>h.bl y (List.mem_append_left _ hy),(fun y hy=>by cases hy),by simp,fun y hy=>?_⟩,by simp⟩,
   fun hd=>⟨Q,[],by simp,⟨fun y hy z hz=>?_,nd_snoc h.nd hd,fun y hy=>?_,fun y hy=>h.bl y (List.mem_append_left _ hy),(fun y hy=>by cases hy),by simp,fun y hy=>?_⟩,by simp;omega⟩⟩
  ·rcases h.all y hy with h1|h1
   ·rcases List.mem_append.1 h1 with h1|h1
    ·exact .inl h1
    ·obtain rfl:y=r:=by simpa using h1
     exact .inr hd
   ·exact .inr h1
  ·rcases List.mem_append.1 hy with hy|hy
   ·exact List.mem_append_left _ (h.par y hy z hz)
   ·obtain rfl:y=r:=by simpa using hy
    exact List.mem_append_left _ (hc z hz)
  ·rcases List.mem_append.1 hy with hy|hy
   ·exact h.dl y hy
   ·obtain rfl:y=r:=by simpa using hy
    exact hrn
  ·rcases h.all y hy with h1|h1
   ·rcases List.mem_append.1 h1 with h1|h1
    ·exact .inl h1
    ·exact .inr (List.mem_append_right _ h1)
   ·exact .inr (List.mem_append_left _ h1)
 ·obtain ⟨Q,z,rfl⟩:∃Q z,P=Q ++ [z]:=⟨P.dropLast,P.getLast hP,(List.dropLast_concat_getLast hP).symm⟩
  have ht:=h.top hr
  rw [←List.append_assoc,List.getLast?_concat] at hr
  cases hr
  refine ⟨fun hd=>absurd hd (ht.2.1 hP),fun hd=>⟨B,Q,by rw [←List.append_assoc];simp,⟨fun y hy w hw=>?_,nd_snoc h.nd hd,fun y hy=>?_,h.bl,fun y hy=>?_,(List.pairwise_append.1 h.dn).1,fun y hy=>?_⟩,by simp;omega⟩⟩
  ·rcases List.mem_append.1 hy with hy|hy
   ·exact List.mem_append_left _ (h.par y hy w hw)
   ·obtain rfl:y=r:=by simpa using hy
    exact List.mem_append_left _ (hc w hw)
  ·rcases List.mem_append.1 hy with hy|hy
   ·exact h.dl y hy
   ·obtain rfl:y=r:=by simpa using hy
    exact ht.1
  ·refine ⟨(h.pl y (List.mem_append_left _ hy)).1,fun hm=>?_,(h.pl y (List.mem_append_left _ hy)).2.2⟩
   rcases List.mem_append.1 hm with hm|hm
   ·exact (h.pl y (List.mem_append_left _ hy)).2.1 hm
   ·obtain rfl:y=r:=by simpa using hm
    exact Nat.lt_irrefl _ ((List.pairwise_append.1 h.dn).2.2 y hy y (by simp))
  ·rcases h.all y hy with h1|h1
   ·exact .inl h1
   ·exact .inr (List.mem_append_left _ h1)
def eaM (n:Nat) (D B P:List Nat):Nat:=2*(n-D.length)+B.length-P.length
theorem eaM_push (h:EaI R ch rk n I D B (P ++ [x])):eaM n D B (P ++ [x])<eaM n D B P:=by
 have:=h.few
 unfold eaM
 simp at this ⊢
 omega
theorem eaM_skip {B' P':List Nat}(h:EaI R ch rk n I D B P) (k:EaI R ch rk n I D B' P') (hl:B'.length+P.length+1=B.length+P'.length):eaM n D B' P'<eaM n D B P:=by
 have:=h.few
 have:=k.few
 unfold eaM
 omega
theorem eaM_pop {B' P':List Nat}(h:EaI R ch rk n I D B P) (k:EaI R ch rk n I (D ++ [r]) B' P') (hl:B'.length+P.length≤B.length+P'.length+1):eaM n (D ++ [r]) B' P'<eaM n D B P:=by
 have h1:=h.few
 have h2:=k.few
 unfold eaM
 simp at h2 ⊢
 omega
theorem EaI.start (hI:∀x∈I,x<n∧R x):EaI R ch rk n I [] I []:=⟨(fun x hx=>by cases hx),by simp,(fun x hx=>by cases hx),hI,(fun x hx=>by cases hx),by simp,fun x hx=>.inl hx⟩
end EaIs
end Go.Proofs.YtgjlmjlfghodmaaGreatDoor
namespace Go.Proofs.YtgjlmjlfghodmaaGreatDoor
set_option maxRecDepth 100000
section SvAs
variable {G:List Gn}{col ro:Nat→Nat}{kn:Kn}{E:List (Nat×Nat)}{i j:Nat}
theorem both_ro (hJ:Js G G.length col ro kn E []) (hgn:GN G) (hgk:GK G) (hnc:¬ Clash G E):Both G col ro kn E ro where
 js:=hJ
 rc:=⟨fun i j hi hj h=>(hJ.same hi hj).1 h,hJ.jn.parts⟩
 he a b h:=by
  obtain ⟨h1,h2,_⟩:=(hJ.jn.eqs a b h).none
  exact ⟨h1,h2,(hJ.same h1 h2).2 (.eq h)⟩
 hc x y p q hx hy hc p1 hk hl j a b ha hb:=by
  have hcl:=(hJ.same (lt_of_get hx) (lt_of_get hy)).1 hc
  exact (hJ.same (hJ.jn.parts x p hx a (List.mem_of_getElem? ha)) (hJ.jn.parts y q hy b (List.mem_of_getElem? hb))).2 (.part hcl hx hy p1 (hk ▸ p1) hk hl ha hb)
 gn:=hgn
 gk:=hgk
 nc:=hnc
noncomputable abbrev mnR (G:List Gn) (ro:Nat→Nat) (r:Nat):Tp:=meanC G ro (lvC G ro) r
theorem ro_ro (hB:Both G col ro kn E ro) (hi:i<G.length):ro (ro i)=ro i:=hB.js.idem hi
theorem mn_node (hB:Both G col ro kn E ro) (hi:i<G.length) (ha:AccC G ro (ro i)) (hk:kindO G (kn (ro i)).1≠0):
  kindO G (kn (ro i)).1≠1∧mnR G ro (ro i)=(kindO G (kn (ro i)).1,0,tpRow ((chR G kn ro (ro i)).map fun u=>mnR G ro u)):=by
 cases h:(kn (ro i)).1 with
 | none=>rw [h] at hk;exact absurd rfl hk
 | some k=>
  obtain ⟨p,hp,p1,hc⟩:=hB.js.md.some i k hi h
  have hrk:ro k=ro i:=hB.js.un _ _ (lt_of_get hp) hi hc
  have h1:=mean_node (lv:=lvC G ro) hB ha hp hrk p1
  have e:kindO G (some k)=p.1:=by simp [kindO,hp]
  refine ⟨by rw [e];exact p1,?_⟩
  rw [e]
  refine h1.trans ?_
  unfold chR partsO
  simp only [h,hp,Option.map_some,Option.getD_some,List.map_map]
  rfl
theorem mn_var (hB:Both G col ro kn E ro) (hi:i<G.length) (ha:AccC G ro (ro i)) (hk:kindO G (kn (ro i)).1=0):
  mnR G ro (ro i)=(1,leastV G (kn (ro i)).2,.nil)∧chR G kn ro (ro i)=[]∧∃l,(kn (ro i)).2=some l∧∃p,G[l]? = some p∧p.1=1:=by
 cases h:(kn (ro i)).1 with
 | some k=>
  obtain ⟨p,hp,_,_⟩:=hB.js.md.some i k hi h
  rw [h] at hk
  exact absurd (by simpa [kindO,hp] using hk) (hB.gk p (List.mem_of_getElem? hp))
 | none=>
  have hn:¬ ∃x,Hd G ro (ro i) x:=by
   rintro ⟨⟨k,p⟩,h1,h2,h3⟩
   exact h3 (hB.js.vars hi h ((hB.cl hi (lt_of_get h1)).2 h2.symm) h1)
  refine ⟨?_,by unfold chR partsO;rw [h];rfl,?_⟩
  ·rw [mnR,mean_var ha hn,hB.least hi]
   rfl
  ·cases hl:(kn (ro i)).2 with
   | none=>
    obtain ⟨p,hp⟩:∃p,G[i]? = some p:=⟨_,List.getElem?_eq_getElem hi⟩
    exact absurd rfl (hB.js.le.no i i p hi hl hp (hB.js.md.none i p hp h))
   | some l=>exact ⟨l,rfl,(hB.js.le.is i l hi hl).2.1⟩
theorem lt_sum {α:Type}(f:α→Nat) (L:List α):∀x∈L,f x<1+(L.map f).sum:=by
 induction L with
 | nil=>intro x hx;cases hx
 | cons y L ih=>
  intro x hx
  rw [List.map_cons,List.sum_cons]
  rcases List.mem_cons.1 hx with rfl|hx
  ·omega
  ·have:=ih x hx
   omega
theorem mn_size (hB:Both G col ro kn E ro) (hi:i<G.length) (ha:AccC G ro (ro i)):tsz (mnR G ro (ro i))=1+((chR G kn ro (ro i)).map fun u=>tsz (mnR G ro u)).sum:=by
 by_cases hk:kindO G (kn (ro i)).1=0
 ·obtain ⟨h1,h2,_⟩:=mn_var hB hi ha hk
  rw [h1,h2]
  rfl
 ·rw [(mn_node hB hi ha hk).2]
  show 1+(tpRow _).size=_
  rw [row_size,List.map_map]
  rfl
theorem mn_less (hB:Both G col ro kn E ro) (hi:i<G.length) (ha:AccC G ro (ro i)) (y:Nat) (hy:y∈chR G kn ro (ro i)):tsz (mnR G ro y)<tsz (mnR G ro (ro i)):=by
 rw [mn_size hB hi ha]
 exact lt_sum (fun u=>tsz (mnR G ro u)) _ y hy
end SvAs
end Go.Proofs.YtgjlmjlfghodmaaGreatDoor
namespace Go.Proofs.YtgjlmjlfghodmaaGreatDoor
open Go.RowKit
open Un (rowI)
set_option maxRecDepth 100000
end Go.Proofs.YtgjlmjlfghodmaaGreatDoor
namespace Go.Proofs.YtgjlmjlfghodmaaGreatDoor
def GV (G:List Gn):Prop:=∀p∈G,p.1=1→p.2.2.2=[]
structure Gok (G:List Gn):Prop where
 gi:GI G
 gp:Gp G
 gn:GN G
 gv:GV G
structure Fok (F:Fo):Prop where
 vok:Vok F
 alp:AlP F
 wf:F.wf
structure Sim (s t:Sys):Prop where
 clash:Clash s.1 s.2→Clash t.1 t.2
 var:∀a,a∈names s.1→a∈names t.1
 same:∀a b,SameIs s.1 s.2 a b→SameIs t.1 t.2 a b
 kind:¬ Clash t.1 t.2→∀v r r',KindIs s.1 s.2 v r→KindIs t.1 t.2 v r'→r≠0→r'=r
end Go.Proofs.YtgjlmjlfghodmaaGreatDoor
namespace Go.Proofs.YtgjlmjlfghodmaaGreatDoor
open Go.RowKit
open Un (Else dg cnt own_else)
set_option maxRecDepth 100000
section UzKs
variable {O:Nat→Prop}{w:World}{cb:Nat}{s:Sys}{f:Int}
end UzKs
end Go.Proofs.YtgjlmjlfghodmaaGreatDoor
namespace Go.Proofs.YtgjlmjlfghodmaaGreatDoor
open Go.RowKit
set_option maxRecDepth 100000
section UzUs
variable {w w':World}{cb:Nat}{st:Int}
theorem CxM.lt (h:CxM w cb st):cb<w.heap.size:=(gL h).1
theorem steps_cx (h:CxM w cb st):Calls Tryz.prog 77 #[.pointer (some ⟨cb,0,none⟩)] w fun e w'=>e = .returned (.int .i64 st)∧w'=w:=by
 have c0:w.cell? ⟨cb,0,none⟩=some (.int .i64 st):=cell_of_row w cb 0 _ _ (0,0) h
 have hl:=h.lt
 clear h
 go_enter Tryz.func77,Tryz.ntmps77
 go_wp2_with fail
 exact bodyPost_ret (results_tmp rfl _ _ _) rfl ⟨rfl,rfl⟩
end UzUs
end Go.Proofs.YtgjlmjlfghodmaaGreatDoor
namespace Go.Proofs.YtgjlmjlfghodmaaGreatDoor
open Go.RowKit
open Un (Else dg cnt own_else intAt)
set_option maxRecDepth 100000
attribute [local go_sem] Oper.semAt_some
attribute [local go_sem ↓] builtin_app
def dgt (n:Nat):Nat:=if n=0 then 0 else dg n
theorem dgt_half {n:Nat}(h:0<n):dgt n=dgt (n / 2)+1:=by
 unfold dgt
 rw [if_neg (by omega)]
 unfold dg
 by_cases h1:n / 2=0
 ·rw [if_pos h1]
  have:n=1:=by omega
  subst this
  decide
 ·rw [if_neg h1,Nat.log2_def n,if_pos (by omega)]
def OkC (B:Nat) (w:World) (c:Nat) (s:Sys) (q:Nat) (st:Int):Prop:=
 ∃O fs m J,CsM O w c s.1 s.2 st fs m∧(0≤st∧st≤(1+4*(dg s.1.length:Int))*(J:Nat)∧0≤fs∧fs≤(1+4*(dg s.1.length:Int))*(J:Nat))∧J+9*m≤9*s.1.length+q∧∀k,O k→B≤k∧k<w.heap.size
section UzWs
variable {w w':World}{B c q:Nat}{s:Sys}{st:Int}
theorem OkC.below (h:OkC B w c s q st) (hb:Below w.heap.size w w'):OkC B w' c s q st:=by
 obtain ⟨O,fs,m,J,hC,h2,h3,h4⟩:=h
 exact ⟨O,fs,m,J,hC.below hb,h2,h3,fun k hk=>by have:=h4 k hk;have:=hb.size;omega⟩
theorem mulb {d e J:Int}(h:d≤e) (hJ:0≤J):(1+4*d)*J≤(1+4*e)*J:=Int.mul_le_mul_of_nonneg_right (by omega) hJ
theorem mulj (d J:Int):(1+4*d)*J=J+4*d*J:=by rw [Int.add_mul,Int.one_mul]
theorem muls (d J j:Int):(1+4*d)*(J+j)=(1+4*d)*J+(j+4*d*j):=by rw [Int.mul_add,mulj d j]
theorem mulk {d J K:Int}(hd:0≤d) (h:J≤K):(1+4*d)*J≤(1+4*d)*K:=Int.mul_le_mul_of_nonneg_left h (by omega)
theorem dg_mono {a b:Nat}(h:a≤b):dg a≤dg b:=by
 unfold dg
 rcases Nat.eq_zero_or_pos a with rfl|ha
 ·simp
 ·have:=(Nat.le_log2 (by omega)).2 (Nat.le_trans (Nat.log2_self_le (n:=a) (by omega)) h)
  omega
theorem steps_ok {n q e:Nat}{st:Int}(h:st≤(1+4*(dg n:Int))*((9*n+q:Nat):Int)) (hn:n≤e) (hq:2*q≤e):st≤40*((1+e:Nat):Int)*((dgt (1+e):Nat)+2):=by
 have hd:dg n≤dgt (1+e):=by
  unfold dgt
  rw [if_neg (by omega)]
  exact dg_mono (by omega)
 have h1:=mulb (d:=dg n) (e:=dgt (1+e)) (J:=((9*n+q:Nat):Int)) (by omega) (by omega)
 have h2:=mulk (d:=dgt (1+e)) (J:=((9*n+q:Nat):Int)) (K:=((10*(1+e):Nat):Int)) (by omega) (by omega)
 have e2:((10*(1+e):Nat):Int)=10*((1+e:Nat):Int):=by push_cast;rfl
 rw [e2] at h2
 have h5:=Int.le_trans h (Int.le_trans h1 h2)
 have hy:0≤((1+e:Nat):Int):=by omega
 clear h h1 h2 hn hq hd e2
 generalize ((1+e:Nat):Int)=y at *
 generalize ((dgt (1+e):Nat):Int)=d at *
 have h3:(1+4*d)*(10*y)=10*y+40*(d*y):=by
  rw [Int.add_mul,Int.one_mul,Int.mul_assoc,Int.mul_left_comm d 10 y,←Int.mul_assoc 4 10]
  rfl
 have h4:40*y*(d+2)=40*(d*y)+80*y:=by
  rw [Int.mul_add,Int.mul_assoc,Int.mul_comm y d]
  congr 1
  rw [Int.mul_comm,←Int.mul_assoc]
  rfl
 rw [h3] at h5
 rw [h4]
 omega
end UzWs
end Go.Proofs.YtgjlmjlfghodmaaGreatDoor
namespace Go.Proofs.YtgjlmjlfghodmaaGreatDoor
open Go.RowKit
open Un (Else dg cnt own_else wp_world)
attribute [local go_sem] Oper.semAt_some
set_option maxRecDepth 100000
section SvBs
variable {w w':World}{B c q:Nat}{s:Sys}{st:Int}
theorem mul23 {d J:Int}(h0:0≤d) (h:d≤21) (hJ:0≤J) (h1:J≤2000000):(1+4*d)*J≤200000000:=by
 have a:=Int.mul_le_mul_of_nonneg_right (show 1+4*d≤85 by omega) hJ
 omega
theorem OkC.fits2 (h:OkC B w c s q st) (hl:s.1.length≤200000) (hq:q≤2000):0≤st∧st≤200000000:=by
 obtain ⟨O,fs,m,J,hC,⟨g1,g2,g3,g4⟩,h3,h4⟩:=h
 have hd:dg s.1.length≤21:=Un.dg_le (by omega)
 have:=mul23 (d:=dg s.1.length) (J:=(J:Nat)) (by omega) (by omega) (by omega) (by omega)
 omega
theorem ok_eq2 (h:OkC B w c s q st) (hB:B≤w.heap.size) (x:Eqn) (hx:EqT B w x) (hw:TyW x.1∧TyW x.2.1) (hr:rtE x=true) (hs:s.1.length+sz1 x≤200000) (hq:q≤2000):
  Calls Tryz.prog 76 #[.pointer (some ⟨c,0,none⟩),t1V x.1,t1V x.2.1] w fun e w'=>∃(r st':Int),e = .returned (.int .i64 r)∧Below B w w'∧st≤st'∧st'≤(1+4*(dg (stp s x).1.length:Int))*((9*(stp s x).1.length+q+1:Nat):Int)∧
   ((r=7∧Clash (stp s x).1 (stp s x).2∧CxM w' c st')∨(r=0∧¬ Clash (stp s x).1 (stp s x).2∧OkC B w' c (stp s x) (q+1) st')):=by
 have hfit:=h.fits2 (by omega) hq
 obtain ⟨O,fs,m,J,hC,⟨g1,g2,g3,g4⟩,h9,h3⟩:=h
 have hr':rt1 x.1=true∧rt1 x.2.1=true:=by unfold rtE at hr;rwa [Bool.and_eq_true] at hr
 have ht1:TyLat O w x.1.1 x.1.2.1 x.1.2.2.1 x.1.2.2.2:=TyLat.low hx.1 (fun k hk=>(h3 k hk).1) hB ⟨hw.1.1,hw.1.2,trivial⟩ (rt1_right hr'.1 (TyV.len hx.1))
 have ht2:TyLat O w x.2.1.1 x.2.1.2.1 x.2.1.2.2.1 x.2.1.2.2.2:=TyLat.low hx.2 (fun k hk=>(h3 k hk).1) hB ⟨hw.2.1,hw.2.2,trivial⟩ (rt1_right hr'.2 (TyV.len hx.2))
 have hd0:dg s.1.length≤21:=Un.dg_le (by omega)
 have hj0:=mul23 (d:=dg s.1.length) (J:=(J:Nat)) (by omega) (by omega) (by omega) (by omega)
 refine (equate_ok hC x.1.1 x.1.2.1 x.2.1.1 x.2.1.2.1 x.1.2.2.1 x.2.1.2.2.1 x.1.2.2.2 x.2.1.2.2.2 ht1 ht2 (by unfold sz1 at hs;omega) (by omega) (by omega)).mono ?_
 rintro e w' ⟨hE,st',j,q1,q2,q3⟩
 obtain ⟨X,hX,hXl⟩:=(stp_pre s x).1
 have hl2:s.1.length≤(stp s x).1.length:=by rw [hX,List.length_append];omega
 have hdm:=dg_mono hl2
 have hB':Below B w w':=hE.below (fun k hk=>(h3 k hk).1) hB
 have e1:(eqG s.1 x.1.1 x.1.2.1 x.1.2.2.2 x.2.1.1 x.2.1.2.1 x.2.1.2.2.2).length=(stp s x).1.length:=rfl
 rw [e1] at q2 q3
 have k1:=mulb (d:=dg s.1.length) (e:=dg (stp s x).1.length) (J:=(J:Nat)) (by omega) (by omega)
 have k2:=muls (dg (stp s x).1.length) (J:Nat) (j:Nat)
 rcases q3 with ⟨rfl,hc,hx,hj⟩|⟨rfl,hc,fs',m',hC',f1,f2,hj⟩
 ·have k3:=mulk (d:=dg (stp s x).1.length) (J:=((J:Nat):Int)+(j:Nat)) (K:=((9*(stp s x).1.length+q+1:Nat):Int)) (by omega) (by omega)
  exact ⟨7,st',rfl,hB',q1,by omega,.inl ⟨rfl,hc,hx⟩⟩
 ·have k3:=mulk (d:=dg (stp s x).1.length) (J:=((J:Nat):Int)+(j:Nat)) (K:=((9*(stp s x).1.length+q+1:Nat):Int)) (by omega) (by omega)
  have k4:=mulj (dg (stp s x).1.length) (j:Nat)
  obtain ⟨O',a1,a2⟩:=hC'.tight
  have e2:((J+j:Nat):Int)=(J:Nat)+(j:Nat):=by push_cast;rfl
  refine ⟨0,st',rfl,hB',q1,by omega,.inr ⟨rfl,hc,O',fs',m',J+j,a2,⟨by omega,by rw [e2];omega,by omega,by rw [e2];omega⟩,by omega,fun k hk=>?_⟩⟩
  obtain ⟨b1,b2⟩:=a1 k hk
  refine ⟨?_,b2⟩
  rcases b1 with b1|b1
  ·exact (h3 k b1).1
  ·omega
theorem rt1_eq {t:Ty1}(hu:t.2.2.1.2.1=t.2.2.2.len):allAlone (Fo.cons t.1 t.2.1 t.2.2.1 t.2.2.2 .nil).pre=rt1 t:=by
 unfold rt1 allAlone
 simp [Fo.pre,hu]
theorem types_right {t:Ty1}(hB:B≤w.heap.size) (ht:TyV B w t.2.2.2 (slv t.2.2.1)) (hs:t.2.2.2.size<1000000):
  Calls Tryz.prog 53 #[t1V t] w fun e w'=>e = .returned (.bool (rt1 t))∧Below w.heap.size w w':=by
 have h:=right_any w B t.1 t.2.1 t.2.2.1 t.2.2.2 hB ht hs
 rw [rt1_eq (TyV.len ht)] at h
 exact h
end SvBs
end Go.Proofs.YtgjlmjlfghodmaaGreatDoor
namespace Go.Proofs.YtgjlmjlfghodmaaGreatDoor
open Go.RowKit
open Un (Else dg cnt own_else wp_world)
attribute [local go_sem] Oper.semAt_some
set_option maxRecDepth 100000
def ClsPost (w:World) (l:List Eqn) (x:Go.Ending) (w':World):Prop:=
 ∃(p:Option Addr) (r:Int) (q:Nat),x = .returned (.tuple #[.pointer p,.int .i64 r,.int .i64 (q:Nat)])∧Below w.heap.size w w'∧
 ((∃y∈l,rtE y=false)∧p=none∧r=1∧q=0∨
  (∀y∈l,rtE y=true)∧q≤300000000∧((q:Int)≤40*((1+esz l:Nat):Int)*((dgt (1+esz l):Nat)+2)+35*(esz l:Nat)+1)∧
   ((p=none∧r=7∧Clash (cls l).1 (cls l).2)∨(p=none∧r=8∧¬ Clash (cls l).1 (cls l).2∧¬ FinC (cls l).1 (cls l).2)∨
   (r=0∧¬ Clash (cls l).1 (cls l).2∧FinC (cls l).1 (cls l).2∧∃cb O st fs m,p=some ⟨cb,0,none⟩∧CsM O w' cb (cls l).1 (cls l).2 st fs m∧0≤fs∧fs≤300000000∧∀k,O k→w.heap.size≤k∧k<w'.heap.size)))
theorem esz_two {l:List Eqn}(j:Nat):2*(l.take j).length≤esz (l.take j):=by
 have:∀m:List Eqn,2*m.length≤esz m:=fun m=>by
  induction m with
  | nil=>simp [esz]
  | cons x m ih=>
   have e:esz (x :: m)=sz1 x+esz m:=by simp [esz]
   rw [e,List.length_cons]
   unfold sz1
   omega
 exact this _
theorem steps_all {l:List Eqn}{st:Int}{j n:Nat}(hj:j≤l.length) (hn:n≤esz l) (h:st≤(1+4*(dg n:Int))*((9*n+j:Nat):Int)):st≤40*((1+esz l:Nat):Int)*((dgt (1+esz l):Nat)+2):=
 steps_ok h hn (by have:=esz_two (l:=l) l.length;rw [List.take_length] at this;omega)
theorem steps_most {st:Int}{j n:Nat}(hj:j≤2000) (hn:n≤200000) (h:st≤(1+4*(dg n:Int))*((9*n+j:Nat):Int)):st≤200000000:=by
 have hd:dg n≤21:=Un.dg_le (by omega)
 have:=mul23 (d:=dg n) (J:=((9*n+j:Nat):Int)) (by omega) (by omega) (by omega) (by omega)
 omega
theorem results_tmp3 {fn:Func}{p q r:Tmp}(h:fn.results=#[.tmp p,.tmp q,.tmp r]) (tmps:Array Value) (P:Program) (w:World):(results fn tmps).run P w = .ok (.tuple #[tmps.getD p undef,tmps.getD q undef,tmps.getD r undef]) w:=by
 simp [results,h]
set_option maxHeartbeats 8000000 in
theorem classes_any (w:World) (l:List Eqn) (v:Value) (h:EqV w.heap.size w l v) (hw:EqW l) (hl:l.length≤2000) (hs:esz l≤190000) (hgl:GL (cls l).1):
  Calls Tryz.prog 41 #[v] w (ClsPost w l):=by
 obtain ⟨A,cA,rfl⟩:=h.form
 have H:=kI (aI h (aI hw hgl))
 clear h hw hgl
 go_enter Tryz.func41,Tryz.ntmps41
 go_wp2_with fail
 refine (new_cs w).mono ?_
 rintro e w1 ⟨c,rfl,hC1,hb1⟩
 have H1:Hid (OkC w.heap.size w1 c ([],[]) 0 0∧Below w.heap.size w w1):=kI (by
  obtain ⟨O',a1,a2⟩:=hC1.tight
  exact ⟨⟨O',0,0,0,a2,by simp,by simp,fun k hk=>a1 k hk⟩,hb1⟩)
 clear hC1 hb1
 go_wp2_with fail
 go_loopw [16] (fun s wr=>∃j:Nat,s = .int .i64 (j:Nat)∧j≤l.length∧(∀y∈l.take j,rtE y=true)∧Below w1.heap.size w1 wr) (fun s _=>l.length-(intOf s).toNat)
 case atStart=>exact ⟨0,rfl,Nat.zero_le _,fun y hy=>by simp at hy,Below.refl _ _⟩
 case round=>
  obtain ⟨j,rfl,hj,hrt,hb⟩:=hrel
  have HT:=kI (aI hrt hb)
  clear hrt hb
  by_cases hjl:j<l.length
  ·have f1:decide ((j:Int)<(l.length:Int))=true:=decide_eq_true (by omega)
   have hbw:=H1.out.2.trans (HT.out.2.mono H1.out.2.size)
   obtain ⟨b,off,hA3,_,hat⟩:=(H.out.1.below hbw).at j hjl
   cases hA3
   have hty:=(H.out.1.below hbw).ty j hjl
   have hxs:=sz1_le_esz (List.getElem_mem hjl)
   obtain ⟨x,hx⟩:∃x,l[j]=x:=⟨_,rfl⟩
   rw [hx] at hat hty hxs
   obtain ⟨⟨k0,n0,⟨u1,u2,u3⟩,F⟩,⟨k1,n1,⟨v1,v2,v3⟩,F'⟩,a0,a1⟩:=x
   obtain ⟨x0,x1,x2,x3,x4,x5,x6,x7⟩:=hat
   dsimp only [slv] at x0 x1 x2 x3 x4 x5 x6 x7
   have HX:=kI (aI hx (aI hty (aI hxs hbw)))
   clear hx hty hxs hbw
   go_upto_region 5 with fail
   refine wp_world (fun Z=>Z.heap[wr.heap.size]? = some (Obj.cells #[.int .i64 k0,.int .i64 n0,.slice u1 u2 u3,.int .i64 k1,.int .i64 n1,.slice v1 v2 v3,.int .i64 a0,.int .i64 a1] 32)∧Below wr.heap.size wr Z) ⟨heap_alloc_new wr _,(Below.refl _ wr).alloc (Nat.le_refl _) _⟩ ?_
   rintro Z ⟨hz,hbZ⟩
   have z0:Z.cell? ⟨wr.heap.size,0,none⟩=some _:=cell_of_row Z _ 0 _ _ (0,0) hz
   have z1:Z.cell? ⟨wr.heap.size,1,none⟩=some _:=cell_of_row Z _ 1 _ _ (0,0) hz
   have z2:Z.cell? ⟨wr.heap.size,2,none⟩=some _:=cell_of_row Z _ 2 _ _ (0,0) hz
   have hbWZ:=HX.out.2.2.2.trans (hbZ.mono HX.out.2.2.2.size)
   have htyZ:EqT w.heap.size Z ((k0,n0,(u1,u2,u3),F),(k1,n1,(v1,v2,v3),F'),a0,a1):=HX.out.2.1.keep (Nat.le_refl _) fun b off hlt=>(hbZ.mono HX.out.2.2.2.size).cell (p:=⟨b,off,none⟩) hlt
   obtain ⟨r0,hr0⟩:∃b,rt1 (k0,n0,(u1,u2,u3),F)=b:=⟨_,rfl⟩
   obtain ⟨r1,hr1⟩:∃b,rt1 (k1,n1,(v1,v2,v3),F')=b:=⟨_,rfl⟩
   have HL:=kI (types_right (t:=(k0,n0,(u1,u2,u3),F)) hbWZ.size htyZ.1 (by have:=HX.out.2.2.1;unfold sz1 at this;simp at this ⊢;omega))
   rw [hr0] at HL
   have HRr:Hid (∀W,Below Z.heap.size Z W→Calls Tryz.prog 53 #[.agg #[.int .i64 k1,.int .i64 n1,.slice v1 v2 v3]] W fun e w'=>e = .returned (.bool r1)∧Below W.heap.size W w'):=kI fun W hW=>by
    have h:=types_right (w:=W) (B:=Z.heap.size) (t:=(k1,n1,(v1,v2,v3),F')) hW.size ((htyZ.2.keep hbWZ.size fun b off hlt=>rfl).below hW) (by have:=HX.out.2.2.1;unfold sz1 at this;simp at this ⊢;omega)
    rw [hr1] at h
    exact h
   dsimp only [t1V,tyVal,slv] at HL
   have HZ:=kI (aI hz (aI hbZ (aI hr0 hr1)))
   clear hz hbZ hbWZ htyZ hr0 hr1 x0 x1 x2 x3 x4 x5 x6 x7
   go_wp2_with fail
   refine HL.out.mono ?_
   rintro e w3 ⟨rfl,hb3⟩
   have y3:w3.cell? ⟨wr.heap.size,3,none⟩=some (.int .i64 k1):=cell_of_row w3 _ 3 _ _ (0,0) ((hb3.block _ (gL HZ.out.1).1).trans HZ.out.1)
   have y4:w3.cell? ⟨wr.heap.size,4,none⟩=some (.int .i64 n1):=cell_of_row w3 _ 4 _ _ (0,0) ((hb3.block _ (gL HZ.out.1).1).trans HZ.out.1)
   have y5:w3.cell? ⟨wr.heap.size,5,none⟩=some (.slice v1 v2 v3):=cell_of_row w3 _ 5 _ _ (0,0) ((hb3.block _ (gL HZ.out.1).1).trans HZ.out.1)
   have HB3:=kI hb3
   clear hb3 HL z0 z1 z2
   cases r0 with
   | false=>
    go_wp2_with fail
    refine bodyPost_ret (results_tmp3 rfl _ _ _) rfl ⟨none,1,0,rfl,HX.out.2.2.2.trans ((HZ.out.2.1.trans (HB3.out.mono HZ.out.2.1.size)).mono HX.out.2.2.2.size),.inl ⟨⟨_,List.getElem_mem hjl,?_⟩,rfl,rfl,rfl⟩⟩
    rw [HX.out.1]
    unfold rtE
    rw [HZ.out.2.2.1]
    rfl
   | true=>
    have HRw:=kI (HRr.out w3 HB3.out)
    clear HRr
    go_wp2_with fail
    refine HRw.out.mono ?_
    rintro e w4 ⟨rfl,hb4⟩
    have HB4:=kI ((HZ.out.2.1.trans (HB3.out.mono HZ.out.2.1.size)).trans (hb4.mono (by have:=HZ.out.2.1.size;have:=HB3.out.size;omega)))
    clear hb4 HRw y3 y4 y5
    cases r1 with
    | false=>
     go_wp2_with fail
     refine bodyPost_ret (results_tmp3 rfl _ _ _) rfl ⟨none,1,0,rfl,HX.out.2.2.2.trans (HB4.out.mono HX.out.2.2.2.size),.inl ⟨⟨_,List.getElem_mem hjl,?_⟩,rfl,rfl,rfl⟩⟩
     rw [HX.out.1]
     unfold rtE
     rw [HZ.out.2.2.1,HZ.out.2.2.2]
     rfl
    | true=>
     go_wp2_with fail
     go_roundw
     case rel=>
      refine ⟨j+1,by go_num,hjl,fun y hy=>?_,HT.out.2.trans (HB4.out.mono HT.out.2.size)⟩
      rw [List.take_add_one,List.getElem?_eq_getElem hjl] at hy
      rcases List.mem_append.1 hy with hy|hy
      ·exact HT.out.1 y hy
      ·simp only [Option.toList_some,List.mem_singleton] at hy
       rw [hy,HX.out.1]
       unfold rtE
       rw [HZ.out.2.2.1,HZ.out.2.2.2]
       rfl
     case measure=>simp [intOf];omega
  ·have f1:decide ((j:Int)<(l.length:Int))=false:=decide_eq_false (by omega)
   have hjj:j=l.length:=by omega
   have HA:Hid ((∀y∈l,rtE y=true)∧OkC w.heap.size wr c ([],[]) 0 0∧Below w.heap.size w wr):=kI ⟨by have h1:=HT.out.1;rw [hjj,List.take_length] at h1;exact h1,H1.out.1.below HT.out.2,H1.out.2.trans (HT.out.2.mono H1.out.2.size)⟩
   clear HT H1 hjj
   go_wp2_with fail
   go_loopw [10,33] (fun _ s wr=>∃(j:Nat) (st:Int),s = .int .i64 (j:Nat)∧j≤l.length∧OkC w.heap.size wr c (cls (l.take j)) j st∧Below w.heap.size w wr) (fun _ s _=>l.length-(intOf s).toNat)
   case atStart=>exact ⟨0,0,rfl,Nat.zero_le _,HA.out.2.1,HA.out.2.2⟩
   case round=>
    obtain ⟨j,st,rfl,hj,hO,hb⟩:=hrel
    have HT:=kI (aI hO hb)
    clear hO hb
    by_cases hjl:j<l.length
    ·have f1:decide ((j:Int)<(l.length:Int))=true:=decide_eq_true (by omega)
     obtain ⟨b,off,hA3,_,hat⟩:=(H.out.1.below HT.out.2).at j hjl
     cases hA3
     have hty:=(H.out.1.below HT.out.2).ty j hjl
     have hrx:=HA.out.1 _ (List.getElem_mem hjl)
     have hxw:=H.out.2.1 _ (List.getElem_mem hjl)
     have hst:=cls_step l j hjl
     have hsz:(cls (l.take j)).1.length+sz1 l[j]≤200000:=by
      have h1:=cls_len (l.take j)
      have h2:=esz_take l j
      have h3:=sz1_le_esz (List.getElem_mem hjl)
      have h4:=esz_take l (j+1)
      have h5:=esz_step l j hjl
      omega
     obtain ⟨x,hx⟩:∃x,l[j]=x:=⟨_,rfl⟩
     rw [hx] at hat hty hrx hxw hst hsz
     obtain ⟨⟨k0,n0,⟨u1,u2,u3⟩,F⟩,⟨k1,n1,⟨v1,v2,v3⟩,F'⟩,a0,a1⟩:=x
     obtain ⟨x0,x1,x2,x3,x4,x5,x6,x7⟩:=hat
     dsimp only [slv] at x0 x1 x2 x3 x4 x5 x6 x7
     have HX:=kI (aI hty (aI hrx (aI hxw (aI hst hsz))))
     clear hty hrx hxw hst hsz hx
     go_upto_region 11 with fail
     refine wp_world (fun Z=>Z.heap[wr.heap.size]? = some (Obj.cells #[.int .i64 k0,.int .i64 n0,.slice u1 u2 u3,.int .i64 k1,.int .i64 n1,.slice v1 v2 v3,.int .i64 a0,.int .i64 a1] 32)∧Below wr.heap.size wr Z) ⟨heap_alloc_new wr _,(Below.refl _ wr).alloc (Nat.le_refl _) _⟩ ?_
     rintro Z ⟨hz,hbZ⟩
     have z0:Z.cell? ⟨wr.heap.size,0,none⟩=some _:=cell_of_row Z _ 0 _ _ (0,0) hz
     have z1:Z.cell? ⟨wr.heap.size,1,none⟩=some _:=cell_of_row Z _ 1 _ _ (0,0) hz
     have z2:Z.cell? ⟨wr.heap.size,2,none⟩=some _:=cell_of_row Z _ 2 _ _ (0,0) hz
     have z3:Z.cell? ⟨wr.heap.size,3,none⟩=some _:=cell_of_row Z _ 3 _ _ (0,0) hz
     have z4:Z.cell? ⟨wr.heap.size,4,none⟩=some _:=cell_of_row Z _ 4 _ _ (0,0) hz
     have z5:Z.cell? ⟨wr.heap.size,5,none⟩=some _:=cell_of_row Z _ 5 _ _ (0,0) hz
     have hbWZ:=HT.out.2.trans (hbZ.mono HT.out.2.size)
     have htyZ:EqT w.heap.size Z ((k0,n0,(u1,u2,u3),F),(k1,n1,(v1,v2,v3),F'),a0,a1):=HX.out.1.keep (Nat.le_refl _) fun b off hlt=>(hbZ.mono HT.out.2.size).cell (p:=⟨b,off,none⟩) hlt
     have HEQ:=kI (ok_eq2 (HT.out.1.below hbZ) hbWZ.size _ htyZ HX.out.2.2.1 HX.out.2.1 HX.out.2.2.2.2 (by omega))
     dsimp only [t1V,tyVal,slv] at HEQ
     have HZ:=kI hbWZ
     clear hz hbZ hbWZ htyZ x0 x1 x2 x3 x4 x5 x6 x7
     go_wp2_with fail
     refine HEQ.out.mono ?_
     rintro e w3 ⟨r,st',rfl,hb3,hst1,hst2,hr⟩
     have HB3:=kI (HZ.out.trans hb3)
     rw [←HX.out.2.2.2.1] at hst2 hr
     have hlc:(cls (l.take (j+1))).1.length≤esz l:=Nat.le_trans (cls_len _) (esz_take l _)
     have hs0:=(HT.out.1.fits2 (Nat.le_trans (cls_len _) (Nat.le_trans (esz_take l _) (by omega))) (by omega)).1
     obtain ⟨qn,rfl⟩:∃qn:Nat,st'=(qn:Int):=⟨st'.toNat,by omega⟩
     have HS:=kI (aI (steps_all (l:=l) (j:=j+1) (by omega) hlc hst2) (steps_most (j:=j+1) (by omega) (by omega) hst2))
     clear hb3 HEQ z0 z1 z2 z3 z4 z5 hst1 hst2 hs0 hlc
     rcases hr with ⟨rfl,hc,hx⟩|⟨rfl,hc,hO⟩
     ·have HC:=kI hc
      have HST:=kI (steps_cx hx)
      clear hc hx
      go_wp2_with fail
      refine HST.out.mono ?_
      rintro e w4 ⟨rfl,rfl⟩
      go_wp2_with fail
      refine bodyPost_ret (results_tmp3 rfl _ _ _) rfl ⟨none,7,qn,rfl,HB3.out,.inr ⟨HA.out.1,by have:=HS.out.2;omega,by have:=HS.out.1;omega,.inl ⟨rfl,rfl,?_⟩⟩⟩
      have e1:=cls_app (l.take (j+1)) (l.drop (j+1))
      rw [List.take_append_drop] at e1
      rw [e1]
      exact HC.out.later (s:=cls (l.take (j+1))) (by obtain ⟨X,h,_⟩:=(fold_pre (l.drop (j+1)) (cls (l.take (j+1)))).1;exact ⟨X,h⟩) (fold_pre (l.drop (j+1)) (cls (l.take (j+1)))).2
     ·have HC:=kI hO
      clear hO hc
      go_wp2_with fail
      go_roundw
      case rel=>exact ⟨j+1,qn,by go_num,hjl,HC.out,HB3.out⟩
      case measure=>simp [intOf];omega
    ·have f1:decide ((j:Int)<(l.length:Int))=false:=decide_eq_false (by omega)
     have hjj:j=l.length:=by omega
     obtain ⟨hO,hb⟩:=HT.out
     rw [hjj,List.take_length] at hO
     have hlc:(cls l).1.length≤esz l:=cls_len l
     have hfit:=hO.fits2 (by omega) (by omega)
     obtain ⟨qn,rfl⟩:∃qn:Nat,st=(qn:Int):=⟨st.toNat,by omega⟩
     have hst2:(qn:Int)≤(1+4*(dg (cls l).1.length:Int))*((9*(cls l).1.length+l.length:Nat):Int):=by
      obtain ⟨O,fs,m,J,hC,⟨g1,g2,g3,g4⟩,h9,h3⟩:=hO
      exact Int.le_trans g2 (mulk (by omega) (by omega))
     have HS:=kI (aI (steps_all (l:=l) (j:=l.length) (by omega) hlc hst2) (steps_most (j:=l.length) (by omega) (by omega) hst2))
     obtain ⟨O,fs,m,J,hC,⟨g1,g2,g3,g4⟩,h9,h3⟩:=hO
     have hfs:fs≤200000000:=steps_most (j:=l.length) (n:=(cls l).1.length) (by omega) (by omega) (Int.le_trans g4 (mulk (by omega) (by omega)))
     have HCT:=kI (count_cs hC ⟨g3,by omega⟩ (by omega) (cls_GN l H.out.2.1) H.out.2.2)
     have HO:=kI (aI hb (aI h3 (aI g3 (aI hfs (aI hC hlc)))))
     clear hb h3 g1 g2 g3 g4 h9 hfs hC hst2 hfit HT
     go_wp2_with fail
     refine HCT.out.mono ?_
     rintro e w3 ⟨b,q,k,rfl,hfin,hq,hk,hC3,hE3⟩
     have HST:=kI (show Calls Tryz.prog 77 #[.pointer (some ⟨c,0,none⟩)] w3 fun e w'=>e = .returned (.int .i64 (qn:Nat))∧w'=w3 by
      obtain ⟨⟨A,kn,nx,col,ro,hC,_⟩,_⟩:=hC3
      exact steps_cl hC)
     have hB3:=HO.out.1.trans (hE3.below (fun k hk=>(HO.out.2.1 k hk).1) HO.out.1.size)
     obtain ⟨O',a1,a2⟩:=hC3.tight
     have H3:=kI (aI hfin (aI hB3 (aI a1 (aI a2 hk))))
     have HQ:=kI (show q≤35*esz l+1∧qn≤200000000 by have:=HO.out.2.2.2.2.2;have:=HS.out.2;omega)
     have f5:IntKind.i64.wrap ((q:Int)+(qn:Int))=((q+qn:Nat):Int):=by
      rw [IntWalk.i64_in _ (by have:=HQ.out;omega)]
      push_cast
      rfl
     clear hfin hB3 a1 a2 hk hC3 hE3 hq HCT
     go_wp2_with fail
     refine HST.out.mono ?_
     rintro e w4 ⟨rfl,rfl⟩
     clear HST
     cases b with
     | false=>
      go_wp2_with fail
      refine bodyPost_ret (results_tmp3 rfl _ _ _) rfl ⟨none,8,q+qn,rfl,H3.out.2.1,.inr ⟨HA.out.1,by have:=HQ.out;omega,by have:=HS.out.1;have:=HQ.out;omega,.inr (.inl ⟨rfl,rfl,HO.out.2.2.2.2.1.noClash,fun hf=>?_⟩)⟩⟩
      have:=H3.out.1.2 hf
      cases this
     | true=>
      go_wp2_with fail
      refine bodyPost_ret (results_tmp3 rfl _ _ _) rfl ⟨some ⟨c,0,none⟩,0,q+qn,rfl,H3.out.2.1,.inr ⟨HA.out.1,by have:=HQ.out;omega,by have:=HS.out.1;have:=HQ.out;omega,.inr (.inr ⟨rfl,HO.out.2.2.2.2.1.noClash,H3.out.1.1 (by trivial),c,_,_,fs+k,m,rfl,H3.out.2.2.2.1,by have:=HO.out.2.2.1;omega,?_,fun k hk=>?_⟩)⟩⟩
      ·have h1:=H3.out.2.2.2.2;have h2:=HO.out.2.2.2.1;have h3:=HO.out.2.2.2.2.2;omega
      ·obtain ⟨b1,b2⟩:=H3.out.2.2.1 k hk
       exact ⟨(HO.out.2.1 k b1).1,b2⟩
end Go.Proofs.YtgjlmjlfghodmaaGreatDoor
