/- Texts of one proof, one behind the other. -/
import Derived.Test.YtmamdiggjghjkaaGreatDoorMgSolveOrder23
import Derived.Test.YtmamdiggjghjkaaGreatDoorMgSolveOrder20
import Derived.Test.YtmamdiggjghjkaaGreatDoorMgSolveOrder21
import Derived.Test.YtmamdiggjghjkaaGreatDoorMgSolveOrder1
import Derived.Test.YtmamdiggjghjkaaGreatDoorMgSolveOrder10
import Derived.Test.YtmamdiggjghjkaaGreatDoorShKs
import Derived.Test.YtmamdiggjghjkaaGreatDoorMgSolveOrder19
import Derived.Test.YtmamdiggjghjkaaGreatDoorMgSolveOrder15
import Derived.Sort.Row
import Derived.Sort.Grow
import Derived.Test.YtmamdiggjghjkaaGreatDoorMgSolveOrder6
import Derived.Deep.LoopGhost
import Derived.Test.YtmamdiggjghjkaaGreatDoorMgSolveOrder13
import Derived.ProofKit
import Derived.OpenShut
import Derived.Deep.Slices
import Derived.Deep.CutBlock
import Derived.Deep.DeepCutAuto
import Derived.Deep.RegionHeld3
set_option linter.unusedVariables false
namespace Go.Proofs.YtmamdiggjghjkaaGreatDoor
section
open Go.RowKit
open Un (Else dg cnt)
set_option maxRecDepth 100000
abbrev Sys:=List Gn×List (Nat×Nat)
def stp (s:Sys) (x:Eqn):Sys:=(eqG s.1 x.1.1 x.1.2.1 x.1.2.2.2 x.2.1.1 x.2.1.2.1 x.2.1.2.2.2,eqE s.1 s.2 x.1.1 x.1.2.1 x.1.2.2.2 x.2.1.1 x.2.1.2.1 x.2.1.2.2.2)
def cls (l:List Eqn):Sys:=l.foldl stp ([],[])
theorem cls_app (l m:List Eqn):cls (l++m)=m.foldl stp (cls l):=by simp [cls]
theorem cls_step (l:List Eqn) (j:Nat) (hj:j<l.length):cls (l.take (j+1))=stp (cls (l.take j)) l[j]:=by
 rw [List.take_add_one,List.getElem?_eq_getElem hj,cls_app]
 rfl
theorem gnode_pre (G:List Gn) (k n:Int) (P:List Nat):∃X,(gnode G k n P).1=G++X∧X.length≤1:=by
 unfold gnode
 split
 ·exact ⟨[],by simp,by simp⟩
 ·exact ⟨_,rfl,by simp⟩
theorem gadd_pre (F:Fo):∀G,∃X,(gadd G F).1=G++X∧X.length≤F.size:=by
 induction F with
 | nil=>intro G;exact ⟨[],by simp [gadd_nil],by simp⟩
 | cons k n u ps r i1 i2=>
  intro G
  obtain ⟨X1,h1,l1⟩:=i1 G
  obtain ⟨X2,h2,l2⟩:=gnode_pre (gadd G ps).1 k n (gadd G ps).2
  rw [←gadd1_eq] at h2
  obtain ⟨X3,h3,l3⟩:=i2 (gadd1 G k n ps).1
  refine ⟨X1++(X2++X3),?_,?_⟩
  ·rw [gadd_cons]
   show (gadd (gadd1 G k n ps).1 r).1=_
   rw [h3,h2,h1]
   simp only [List.append_assoc]
  ·simp only [List.length_append,Fo.size]
   omega
theorem gadd1_pre (G:List Gn) (k n:Int) (ps:Fo):∃X,(gadd1 G k n ps).1=G++X∧X.length≤1+ps.size:=by
 obtain ⟨X,h,l⟩:=gadd_pre (.cons k n (none,0,0) ps .nil) G
 rw [gadd_cons,gadd_nil] at h
 exact ⟨X,h,by simpa [Fo.size] using l⟩
theorem stp_pre (s:Sys) (x:Eqn):(∃X,(stp s x).1=s.1++X∧X.length≤sz1 x)∧∃Y,(stp s x).2=s.2++Y:=by
 obtain ⟨X1,h1,l1⟩:=gadd1_pre s.1 x.1.1 x.1.2.1 x.1.2.2.2
 obtain ⟨X2,h2,l2⟩:=gadd1_pre (gadd1 s.1 x.1.1 x.1.2.1 x.1.2.2.2).1 x.2.1.1 x.2.1.2.1 x.2.1.2.2.2
 refine ⟨⟨X1++X2,?_,?_⟩,_,rfl⟩
 ·show (gadd1 (gadd1 s.1 x.1.1 x.1.2.1 x.1.2.2.2).1 x.2.1.1 x.2.1.2.1 x.2.1.2.2.2).1=_
  rw [h2,h1,List.append_assoc]
 ·rw [List.length_append]
  unfold sz1
  omega
theorem fold_pre (m:List Eqn):∀s:Sys,(∃X,(m.foldl stp s).1=s.1++X∧X.length≤esz m)∧∃Y,(m.foldl stp s).2=s.2++Y:=by
 induction m with
 | nil=>intro s;exact ⟨⟨[],by simp,by simp [esz]⟩,[],by simp⟩
 | cons x m ih=>
  intro s
  obtain ⟨⟨X1,h1,l1⟩,Y1,g1⟩:=stp_pre s x
  obtain ⟨⟨X2,h2,l2⟩,Y2,g2⟩:=ih (stp s x)
  refine ⟨⟨X1++X2,?_,?_⟩,Y1++Y2,?_⟩
  ·rw [List.foldl_cons,h2,h1,List.append_assoc]
  ·have e:esz (x :: m)=sz1 x+esz m:=by simp [esz]
   rw [List.length_append,e]
   omega
  ·rw [List.foldl_cons,g2,g1,List.append_assoc]
theorem cls_len (l:List Eqn):(cls l).1.length≤esz l:=by
 obtain ⟨⟨X,h,hl⟩,_⟩:=fold_pre l ([],[])
 show ((l.foldl stp ([],[])).1).length≤_
 rw [h]
 simpa using hl
theorem esz_take (l:List Eqn) (j:Nat):esz (l.take j)≤esz l:=by
 have h:esz l=esz (l.take j)+esz (l.drop j):=by
  unfold esz
  rw [←List.sum_append,←List.map_append,List.take_append_drop]
 omega
theorem esz_rights (l:List Eqn):esz (rights l)≤esz l:=by
 induction l with
 | nil=>simp [rights,esz]
 | cons x l ih=>
  unfold rights at ih ⊢
  have e:esz (x :: l)=sz1 x+esz l:=by simp [esz]
  rw [List.filter_cons,e]
  split
  ·have e2:esz (x :: l.filter rtE)=sz1 x+esz (l.filter rtE):=by simp [esz]
   omega
  ·omega
theorem Cl.later {s t:Sys}(hX:∃X,t.1=s.1++X) (hY:∃Y,t.2=s.2++Y) {a b:Nat}(h:Cl s.1 s.2 a b):Cl t.1 t.2 a b:=by
 obtain ⟨X,hX⟩:=hX
 obtain ⟨Y,hY⟩:=hY
 refine h.more (fun i p hp=>?_) fun e he=>?_
 ·rw [hX];exact app_get hp
 ·rw [hY];exact List.mem_append_left _ he
theorem Clash.later {s t:Sys}(hX:∃X,t.1=s.1++X) (hY:∃Y,t.2=s.2++Y) (h:Clash s.1 s.2):Clash t.1 t.2:=by
 obtain ⟨X,hX⟩:=hX
 obtain ⟨Y,hY⟩:=hY
 refine h.more (fun i p hp=>?_) fun e he=>?_
 ·rw [hX];exact app_get hp
 ·rw [hY];exact List.mem_append_left _ he
def GN (G:List Gn):Prop:=(names G).Nodup∧∀n∈names G,(Lit.int .i64 n).wf=true
theorem gnode_GN {G:List Gn}{k n:Int}{P:List Nat}(h:GN G) (hn:(Lit.int .i64 n).wf=true):GN (gnode G k n P).1:=by
 unfold gnode
 split
 ·exact h
 ·rename_i hg
  unfold GN
  rw [names_snoc]
  by_cases hk:k=1
  ·rw [if_pos hk] at hg
   have:n ∉ names G:=fun hm=>by
    have:=(gvar_names _ n).2 hm
    rw [hg] at this
    cases this
   simp only [hk,if_true]
   refine ⟨List.nodup_append.2 ⟨h.1,by simp,fun a ha b hb e=>by simp at hb;subst hb;subst e;exact this ha⟩,fun m hm=>?_⟩
   rcases List.mem_append.1 hm with hm|hm
   ·exact h.2 m hm
   ·simp only [List.mem_singleton] at hm
    subst hm
    exact hn
  ·simp only [hk,if_false,List.append_nil]
   exact h
theorem gadd_GN (F:Fo):∀G,GN G→F.wf→GN (gadd G F).1:=by
 induction F with
 | nil=>intro G h _;rw [gadd_nil];exact h
 | cons k n u ps r i1 i2=>
  intro G h hw
  rw [gadd_cons]
  refine i2 _ ?_ hw.2.2
  rw [gadd1_eq]
  exact gnode_GN (i1 G h hw.2.1) hw.1
theorem gadd1_GN {G:List Gn}{t:Ty1}(h:GN G) (hw:TyW t):GN (gadd1 G t.1 t.2.1 t.2.2.2).1:=by
 have:=gadd_GN (.cons t.1 t.2.1 (none,0,0) t.2.2.2 .nil) G h ⟨hw.1,hw.2,trivial⟩
 rw [gadd_cons,gadd_nil] at this
 exact this
theorem fold_GN (m:List Eqn):∀s:Sys,GN s.1→EqW m→GN (m.foldl stp s).1:=by
 induction m with
 | nil=>intro s h _;exact h
 | cons x m ih=>
  intro s h hw
  refine ih _ ?_ fun y hy=>hw y (List.mem_cons_of_mem _ hy)
  have hx:=hw x List.mem_cons_self
  exact gadd1_GN (t:=x.2.1) (gadd1_GN (t:=x.1) h hx.1) hx.2
theorem cls_GN (l:List Eqn) (h:EqW l):GN (cls l).1:=fold_GN l _ ⟨by simp [names],fun n hn=>by simp [names] at hn⟩ h
theorem EqW.rights {l:List Eqn}(h:EqW l):EqW (rights l):=fun x hx=>h x (List.mem_filter.1 hx).1
section
variable {O T:Nat→Prop}{w w':World}{cb:Nat}{s:Sys}{b:Nat}
end
section
variable {w w':World}{B b c d:Nat}{s t:Sys}
theorem rt1_right {t:Ty1}(h:rt1 t=true) (hu:t.2.2.1.2.1=t.2.2.2.len):allAlone (Fo.cons t.1 t.2.1 t.2.2.1 t.2.2.2 .nil).pre=true:=by
 unfold rt1 at h
 rw [Bool.and_eq_true] at h
 unfold allAlone at h ⊢
 simp only [Fo.pre,List.append_nil,List.all_cons,Bool.and_eq_true]
 exact ⟨by rw [hu];exact h.1,h.2⟩
end
end
section
open Go.RowKit Go.Maps Go.Sort Go.Shelf
set_option maxRecDepth 100000
theorem sortsV (m:Nat):AnyZI.SortsIn Tryz.prog Tryz.sortedV_ren Fence.wide m:=
 ⟨fun blk off cap ss W hH hblk hsz=>callsIn_wide.2 (AnyM.slices_Sort_int Tryz.sortV blk off cap ss W hH hblk hsz),
  fun p cap W=>callsIn_wide.2 (AnyM.slices_Sort_int_none Tryz.sortV p cap W)⟩
theorem keys_names {G:List Gn}{b:Nat}{W:World}{k:Nat}{D:DataW Value}(hown:W.ownsMap Tryz.prog 3 heldE b k D) (hnd:(names G).Nodup) (hwf:∀n∈names G,(Lit.int .i64 n).wf=true)
  (hh:∀n:Int,(Lit.int .i64 n).wf=true→has D (.int .i64 n)=(gvf G n).isSome):(names G).Perm (intKeys D):=by
 obtain ⟨es,hD,hpw,-⟩:=hown.entries lawI
 obtain ⟨es',hD',hko⟩:=hown.keysOf
 obtain rfl:es=es':=by rw [hD] at hD';simpa using hD'
 subst hD
 have hw:=intKeys_wf hown Tryz.underlying3
 refine perm_intKeys hpw (fun p hp=>by obtain ⟨v,hv⟩:=hko p hp;obtain ⟨x,_,hx,_⟩:=Maps.keyOf_i64 Tryz.underlying3 hv;exact ⟨x,hx⟩) hnd (fun x=>?_)
 rw [←gvar_names]
 have e2:(gvf G x).isSome=(gvar G x).isSome:=by unfold gvf;cases gvar G x<;>rfl
 constructor
 ·intro h
  rw [hh x (hwf x ((gvar_names G x).1 h)),e2]
  exact h
 ·intro h
  have hx:x∈intKeys (.map es):=by
   rw [has_eq,List.any_eq_true] at h
   obtain ⟨p,hp,hs⟩:=h
   obtain ⟨v,hv⟩:=hko p hp
   obtain ⟨a,_,ha,_⟩:=Maps.keyOf_i64 Tryz.underlying3 hv
   rw [ha] at hs
   exact List.mem_map.2 ⟨p,hp,by rw [ha];simpa [Lit.sameKey,Go.intOf] using hs⟩
  rw [hh x (hw x hx),e2] at h
  exact h
set_option maxHeartbeats 4000000 in
theorem vars_graph (w:World) (B g mb:Nat) (v:Value) (L:List Nd) (G:List Gn) (hG:GrM B w g v mb L G) (hl:G.length≤1000000) (hnd:(names G).Nodup) (hwf:∀n∈names G,(Lit.int .i64 n).wf=true):
  Calls Tryz.prog 85 #[.pointer (some ⟨g,0,none⟩)] w fun e w'=>∃v',e = .returned v'∧w'.ownsRow w.heap.size 3 1 v' (vsort G).length (ints (vsort G))∧Below w.heap.size w w':=by
 obtain ⟨S,kk,D0,hown,hkk,hT,hS,hh⟩:=hG.vars
 have hperm:=keys_names hown hnd hwf (fun n hn=>(hh n hn).1)
 have hsz:Maps.size D0≤1000000:=by
  obtain ⟨es,hD,-⟩:=hown.keysOf
  subst hD
  have h1:=hperm.length_eq
  have h2:(names G).length≤G.length:=List.length_filterMap_le _ _
  simp only [intKeys,List.length_map] at h1
  simp only [Maps.size]
  omega
 refine (callsIn_wide (n:=6)).1 ?_
 have hbl:=hown.lt
 have hseq:SeqGives Fence.wide 2 Tryz.prog 143 #[.pointer (some ⟨w.heap.size,0,none⟩)] encZ (fun ss=>ss.Perm (intKeys D0)) (Maps.size D0) (w.alloc (.cells #[.map (some mb)] 145)):=
  AnyZI.keys_gives (ρ:=Tryz.keysV_ren) { Tryz.keysV with } Fence.wide _ trivial rfl (by omega) w.heap.size mb kk D0 _ (by simp) (by simp) (by
   obtain ⟨es,clock,hb,Ft,hs,hD⟩:=hown
   exact ⟨es,clock,(Below.heap_alloc _ _ mb hbl).trans hb,Ft,hs,hD⟩)
 have cK:∀m W,CallsIn Fence.wide 5 Tryz.prog 120 #[.map m] W fun e w'=>e = .returned (.func (.func 143) #[] #[.pointer (some ⟨W.heap.size,0,none⟩)])∧w'=W.alloc (.cells #[.map m] 145):=fun m W=>AnyZI.keys_in Tryz.keysV Fence.wide 5 trivial rfl m W
 have cS:=AnyZI.sorted_in Tryz.sortedV Fence.wide 5 trivial trivial trivial trivial rfl (by omega) (sortsV _) (enters_of Tryz.func142 (by kernel_rfl) rfl) 143 #[.pointer (some ⟨w.heap.size,0,none⟩)] trivial (enters_of Tryz.func143 (by kernel_rfl) rfl) _ _ (by unfold maxLen;omega) (by omega) _ hseq
 change CallsIn _ _ Tryz.prog 119 _ _ _ at cS
 have hfK:Fence.wide.fn 120:=trivial
 have hfS:Fence.wide.fn 119:=trivial
 have g1:w.cell? ⟨g,1,none⟩=some (.map (some mb)):=cell_of_row w _ 1 _ _ (0,0) hG.cell
 have HP:=kI hperm
 clear hG hown hT hh hperm hseq
 refine callsIn_of_wp Tryz.func85 rfl trivial ?_ rfl
 simp only [Tryz.ntmps85,List.size_toArray,List.length_cons,List.length_nil,Nat.reduceAdd,Nat.reduceSub,Array.replicate_succ,Array.replicate_zero,List.push_toArray,List.append_toArray,List.nil_append,List.cons_append]
 gi_wp2_with (first
  | (gi_at_call 120;refine (cK _ _).mono ?_;rintro e w' ⟨rfl,rfl⟩)
  | (gi_at_call 119;refine cS.mono ?_;rintro e w' ⟨v,ss,rfl,hS,hrow,hnil,hb⟩))
 go_ret
 refine ⟨v,rfl,?_,((Below.refl _ w).alloc (Nat.le_refl _) _).trans (hb.mono (by simp))⟩
 have h1:=ownsRow_base_a hrow (show w.heap.size≤_ by simp)
 have h2:=vsort_eq G ss (hS.trans HP.out.symm)
 have h3:ss.length=(vsort G).length:=by rw [←h2];exact (List.mergeSort_perm _ _).length_eq.symm
 rw [h2,h3] at h1
 exact h1
end
section
open Go.RowKit
open Un (Else StM rowI UFo own_else dg swp wp_world paint)
attribute [local go_sem] Oper.semAt_some
set_option maxRecDepth 100000
theorem vsort_var {G:List Gn}{a:Int}(h:a∈vsort G):a∈names G∧∃j,gvar G a=some j∧j<G.length:=by
 have hp:=(vfold G [] List.Pairwise.nil).2
 have hm:a∈names G:=by have:=hp.mem_iff.1 h;simpa using this
 obtain ⟨j,hj⟩:=Option.isSome_iff_exists.1 ((gvar_names G a).2 hm)
 exact ⟨hm,j,hj,gvar_lt hj⟩
theorem var_vsort {G:List Gn}{a:Int}{j:Nat}(h:gvar G a=some j):a∈vsort G:=by
 have hp:=(vfold G [] List.Pairwise.nil).2
 have hm:a∈names G:=(gvar_names G a).1 (by rw [h];rfl)
 exact hp.mem_iff.2 (by simpa using hm)
theorem vsort_le_ (G:List Gn):(vsort G).length≤G.length:=by
 have hp:=(vfold G [] List.Pairwise.nil).2.length_eq
 have h2:(names G).length≤G.length:=List.length_filterMap_le _ _
 have h3:(vsort G).length=(names G).length:=by simpa [vsort] using hp
 omega
section CyFs
variable {O:Nat→Prop}{w:World}{cb:Nat}{A:Adr}{st:Int}{G:List Gn}{kn:Kn}{nx col ro:Nat→Nat}{fs:Int}{gf:FuncId}{lb:Array Value}{T:Nat→Prop}{J:List (Nat×Bool)→Bool→World→Prop}
theorem vars_cl (hC:ClM O w cb A st false G.length G kn nx col ro fs) (hl:G.length≤1000000) (hg:GN G):
  Calls Tryz.prog 43 #[.pointer (some ⟨cb,0,none⟩)] w fun e w'=>∃v',e = .returned v'∧w'.ownsRow w.heap.size 3 1 v' (vsort G).length (ints (vsort G))∧Below w.heap.size w w':=by
 obtain ⟨hl0,_,_,_,c2,_,_⟩:=hC.cells
 have HV:=kI (vars_graph w 0 A.g A.mb A.V A.L G hC.gr hl hg.1 hg.2)
 clear hC
 go_enter Tryz.func43,Tryz.ntmps43
 go_wp2_with fail
 refine HV.out.mono ?_
 rintro e w2 ⟨v',rfl,hr,hb⟩
 obtain ⟨Av,cv,rfl,_,_⟩:=Un.own_form hr
 have HR:=kI (aI hr hb)
 clear hr hb HV
 go_wp2_with fail
 exact bodyPost_ret (results_tmp rfl _ _ _) rfl ⟨.slice Av (vsort G).length cv,rfl,HR.out.1,HR.out.2⟩
def WkPost (O:Nat→Prop) (cb:Nat) (A:Adr) (st:Int) (G:List Gn) (kn:Kn) (nx col ro:Nat→Nat) (T:Nat→Prop) (J:List (Nat×Bool)→Bool→World→Prop) (fs:Int) (w:World) (x:Ending) (w':World):Prop:=
 ∃(g:Bool) (e:Nat→Option Bool) (S:List (Nat×Nat)) (D:List (Nat×Bool)) (f q:Nat),x = .returned (.int .i64 (q:Nat))∧ClM O w' cb A st false G.length G kn nx col ro (fs+f)∧f≤400*G.length∧q≤35*G.length+1∧J D g w'∧Else (fun k=>A.S k∨T k) w w'∧Dfs (chR G kn ro) e S∧Told e S D∧(D.map (·.1)).Nodup∧(∀x b,(x,b)∈D→x<G.length)∧(g=true→S=[]∧∀v i,gvar G v=some i→∃b,(ro i,b)∈D)
def WkI (O:Nat→Prop) (cb:Nat) (A:Adr) (st:Int) (G:List Gn) (kn:Kn) (nx col ro:Nat→Nat) (wb mb:Nat) (T:Nat→Prop) (J:List (Nat×Bool)→Bool→World→Prop) (fs:Int) (w2:World) (j:Nat) (wr:World):Prop:=
 ∃(e:Nat→Option Bool) (D:List (Nat×Bool)) (f q m:Nat),ClM O wr cb A st false G.length G kn nx col ro (fs+f)∧f≤168*D.length+21*j∧WkM wr wb mb e (q:Nat) m∧q≤j+payD (chR G kn ro) D∧m≤2*D.length∧Dfs (chR G kn ro) e []∧Told e [] D∧(D.map (·.1)).Nodup∧(∀x b,(x,b)∈D→x<G.length)∧J D true wr∧Else (fun k=>(A.S k∨k=wb∨k=mb)∨T k) w2 wr∧(∀t v i,t<j→(vsort G)[t]? = some v→gvar G v=some i→∃b,(ro i,b)∈D)
set_option maxHeartbeats 8000000 in
theorem walk_any (eg:∀args w,(callFunc gf args).run Tryz.prog w = .ok (.enter gf args) w) (hC:ClM O w cb A st false G.length G kn nx col ro fs) (hst:0≤fs∧fs≤20000000000) (hG:G.length≤500000) (hGN:GN G) (hP:Gp G) (hro:∀i,i<G.length→ro i<G.length)
  (hT:TellOk gf lb cb G.length (chR G kn ro) T J fun W=>∃f,ClM O W cb A st false G.length G kn nx col ro f) (hTd:∀k,T k→k<w.heap.size∧¬ (A.D k∨A.F cb k)) (hJs:∀D g (S:Nat→Prop) W W',J D g W→Else S W W'→(∀k,S k→¬ T k)→J D g W') (hJ:J [] true w):
  Calls Tryz.prog 113 #[.pointer (some ⟨cb,0,none⟩),.func (.func gf) #[] lb] w (WkPost O cb A st G kn nx col ro T J fs w):=by
 have hdg:dg G.length≤21:=Un.dg_le (by omega)
 have hmm:=@run_makeMap Tryz.prog
 have H:=kI (aI hC (aI hst (aI hG (aI hGN (aI hP (aI hro hdg))))))
 have HD:=kI (aI hT (aI hTd (aI hJs hJ)))
 clear hC hst hG hGN hP hro hdg hT hTd hJs hJ
 go_enter Tryz.func113,Tryz.ntmps113
 obtain ⟨w1,hw1⟩:∃w1,(w.alloc (Obj.map #[] 0)).alloc (.cells #[.map (some w.heap.size),.int .i64 0] 207)=w1:=⟨_,rfl⟩
 have hb1:Below w.heap.size w w1:=by rw [←hw1];exact ((Below.refl _ _).alloc (Nat.le_refl _) _).alloc (by simp) _
 have hs1:w1.heap.size=w.heap.size+2:=by rw [←hw1];simp
 have hwk:WkM w1 (w.heap.size+1) w.heap.size (fun _=>none) ((0:Nat):Int) 0:=by
  rw [←hw1]
  refine ⟨?_,0,?_⟩
  ·have h:=heap_alloc_new (w.alloc (Obj.map #[] 0)) (.cells #[.map (some w.heap.size),.int .i64 0] 207)
   rw [World.size_alloc] at h
   exact h
  ·have h:=(MapF.made w).kept (World.grownBy_alloc _ (.cells #[.map (some w.heap.size),.int .i64 0] 207) none) (by simp)
   refine h.ext fun n _=>?_
   unfold endF
   split<;>rfl
 have HV:=kI (vars_cl (H.out.1.below hb1) (by have:=H.out.2.2.1;omega) H.out.2.2.2.1)
 have H1:=kI (aI hb1 (aI hs1 hwk))
 have HW1:=kI hw1
 clear hb1 hs1 hwk hw1
 go_wp2_with fail
 rw [HW1.out]
 refine HV.out.mono ?_
 clear HV
 rintro x w2 ⟨v',rfl,hr,hb2⟩
 obtain ⟨Av,cv,rfl,_,_⟩:=Un.own_form hr
 obtain ⟨vs,hvs⟩:∃l,vsort G=l:=⟨_,rfl⟩
 rw [hvs] at hr ⊢
 have hvl:vs.length≤G.length:=by rw [←hvs];exact vsort_le_ G
 have HI0:WkI O cb A st G kn nx col ro (w.heap.size+1) w.heap.size T J fs w2 0 w2:=by
  refine ⟨fun _=>none,[],0,0,0,by simpa using (H.out.1.below H1.out.1).below hb2,Nat.zero_le _,H1.out.2.2.keep (S:=fun _=>False) (Else.of_below hb2) id id,Nat.zero_le _,Nat.zero_le _,Dfs.none,⟨fun x b h=>by simp at h,fun x b h=>by simp at h⟩,by simp,fun x b h=>by simp at h,?_,Else.refl _ _,fun t v i h=>by omega⟩
  exact HD.out.2.2.1 [] true (fun _=>False) _ _ HD.out.2.2.2 ((Else.of_below H1.out.1).trans (Else.of_below (hb2.mono (by have:=H1.out.2.1;omega)))) fun _ h=>h.elim
 have H2:=kI (aI hr (aI hb2 (aI hvs (aI hvl HI0))))
 clear hr hb2 hvs hvl HI0
 go_wp2_with fail
 go_loopw [7,8,9,15] (fun _ _ _ s15 wr=>∃j:Nat,s15 = .int .i64 (j:Nat)∧j≤vs.length∧WkI O cb A st G kn nx col ro (w.heap.size+1) w.heap.size T J fs w2 j wr) (fun _ _ _ s _=>vs.length-(intOf s).toNat)
 case atStart=>exact ⟨0,rfl,Nat.zero_le _,H2.out.2.2.2.2⟩
 case round=>
  obtain ⟨j,rfl,hj,hI⟩:=hrel
  obtain ⟨e,D,f,q,m,hCr,hf,hWr,hq,hm,hdf,htd,hnd,hdl,hJr,hEr,hkn⟩:=id hI
  have hdn:D.length≤G.length:=by
   have:=nodup_len hnd (fun x hx=>by
    obtain ⟨s,hs,rfl⟩:=List.mem_map.1 hx
    exact hdl s.1 s.2 hs)
   simpa using this
  have hvn:=H2.out.2.2.2.1
  have hpay:=payD_le (chR_le (kn:=kn) (ro:=ro) (n:=G.length) H.out.2.2.2.2.1) D
  have hG5:=H.out.2.2.1
  have HB:=kI (show f≤400*G.length∧q≤35*G.length∧0≤fs+(f:Int)∧fs+(f:Int)≤40000000000∧q≤9000000000∧m≤9000000∧D.length≤G.length by have:=H.out.2.1;omega)
  have HI:=kI (aI hCr (aI hf (aI hWr (aI hq (aI hm (aI hdf (aI htd (aI hnd (aI hdl (aI hJr (aI hEr hkn)))))))))))
  clear hCr hf hWr hq hm hdf htd hnd hdl hJr hEr hkn hdn hpay hI
  have hjb:j≤500000:=by omega
  clear hvn hG5
  by_cases hjl:j<vs.length
  ·obtain ⟨v,hv⟩:∃v,vs[j]? = some v:=⟨_,List.getElem?_eq_getElem hjl⟩
   obtain ⟨hvm,i,hvi,hil⟩:=vsort_var (G:=G) (a:=v) (by rw [H2.out.2.2.1];exact List.mem_of_getElem? hv)
   have hwv:=H.out.2.2.2.1.2 v hvm
   have f1:decide ((j:Int)<(vs.length:Int))=true:=decide_eq_true (by omega)
   have f2:decide (j<vs.length)=true:=decide_eq_true hjl
   have hp0:=H2.out.1
   obtain ⟨bv,cvv,hsh,hbw,hbl⟩:=Un.own_shape hp0 (by omega)
   injection hsh with hA1 _ hcc1
   subst hA1;subst hcc1
   have hvb:w1.heap.size≤bv:=(hp0.lt bv rfl).1
   have hrowr:=own_else hp0 HI.out.2.2.2.2.2.2.2.2.2.2.1 (fun k hk he=>by
    have hk:some bv=some k:=hk
    injection hk with hk
    have h2:=H1.out.2.1
    rcases he with (he|he|he)|he
    ·have:=H.out.1.lt (k:=k) (.inr (.inl he));omega
    ·omega
    ·omega
    ·have:=(HD.out.2.1 k he).1;omega)
   have z1:wr.cell? ⟨bv,j,none⟩=some (.int .i64 v):=(hrowr.cellAt j (by omega)).trans (by simp [ints,hv])
   have HPT:=cpart_cl HI.out.1 (by have:=HB.out;omega) v hwv (fun z hz=>by rw [hvi] at hz;cases hz;exact hil)
   rw [hvi] at HPT
   have HPT:=kI HPT
   have HJL:=kI (aI hjl (aI hv (aI hvi hil)))
   clear hp0 hrowr hvb hbl hbw hv hvi hil hvm hwv
   go_wp2_with fail
   refine HPT.out.mono ?_
   clear HPT
   rintro x w3 ⟨k3,rfl,hk3,hC3,hE3⟩
   obtain ⟨r,hr⟩:∃r,ro i=r:=⟨_,rfl⟩
   rw [hr]
   have hrn:r<G.length:=by rw [←hr];exact H.out.2.2.2.2.2.1 i HJL.out.2.2.2
   unfold ptV
   dsimp only [Option.map_some]
   obtain ⟨w4,hw4⟩:∃w4,w3.alloc (.cells #[.pointer (some ⟨cb,0,none⟩),.int .i64 (r:Nat)] 136)=w4:=⟨_,rfl⟩
   have hb4:Below w3.heap.size w3 w4:=by rw [←hw4];exact (Below.refl _ _).alloc (Nat.le_refl _) _
   have hE4:Else A.S wr w4:=hE3.trans (Else.of_below hb4)
   have hC4:=hC3.below hb4
   have hlow:∀k,A.D k∨A.F cb k→k<w.heap.size:=fun k hk=>H.out.1.lt hk
   have hW4:=HI.out.2.2.1.keep hE4 (fun h=>by have:=hlow _ (.inr (.inl h));omega) (fun h=>by have:=hlow _ (.inr (.inl h));omega)
   have hJ4:=HD.out.2.2.1 D true _ _ _ HI.out.2.2.2.2.2.2.2.2.2.1 hE4 (fun k hk hT=>(HD.out.2.1 k hT).2 (.inr (.inl hk)))
   have hsz4:w.heap.size+2≤w4.heap.size:=by have h1:=HI.out.2.2.2.2.2.2.2.2.2.2.1.size;have h2:=hE4.size;have h3:=H2.out.2.1.size;have h4:=H1.out.2.1;omega
   have HFR:=from_any eg hC4 hW4 (fun k hk=>by have:=hlow k hk;exact ⟨by omega,by omega⟩) (by omega) (by have:=HB.out;have:=H.out.2.2.2.2.2.2;omega) (by have:=HB.out;omega) (by have:=HB.out;omega) H.out.2.2.2.2.2.2 H.out.2.2.1 r hrn H.out.2.2.2.2.1 H.out.2.2.2.2.2.1 HI.out.2.2.2.2.2.1 HI.out.2.2.2.2.2.2.1 hJ4 HD.out.1 (fun k hk=>by have h1:=HD.out.2.1 k hk;exact ⟨by omega,by omega,by omega,h1.2⟩) HD.out.2.2.1 HI.out.2.2.2.2.2.2.2.2.1 HI.out.2.2.2.2.2.2.2.1
   have hbx:w4.heap[w3.heap.size]? = some (.cells #[.pointer (some ⟨cb,0,none⟩),.int .i64 (r:Nat)] 136):=by rw [←hw4];exact heap_alloc_new _ _
   have HFR:=kI HFR
   have H4:=kI (aI hk3 (aI hE4 (aI hr hbx)))
   have HW4:=kI hw4
   clear hk3 hC3 hE3 hb4 hE4 hC4 hlow hW4 hJ4 hr hbx hrn hw4 hsz4
   go_wp2_with fail
   rw [HW4.out]
   refine HFR.out.mono ?_
   clear HFR
   rintro x w5 ⟨g,e5,S5,D5,f5,q5,m5,rfl,hC5,hW5,⟨X5,hX5⟩,hf5,hq5,hm5,hJ5,hE5,hdf5,htd5,hlt5,hg5,hnd5,hdl5⟩
   have hE5w:Else (fun k=>(A.S k∨k=w.heap.size+1∨k=w.heap.size)∨T k) wr w5:=(H4.out.2.1.mono fun k hk=>.inl (.inl hk)).trans (hE5.mono fun k hk=>by rcases hk with hk|hk|hk|hk;exact .inl (.inl hk);exact .inl (.inr (.inl hk));exact .inl (.inr (.inr hk));exact .inr hk)
   have hE5a:=HI.out.2.2.2.2.2.2.2.2.2.2.1.trans hE5w
   have H5:=kI (aI hC5 (aI hW5 (aI hX5 (aI hf5 (aI hq5 (aI hm5 (aI hJ5 (aI hdf5 (aI htd5 (aI hlt5 (aI hg5 (aI hnd5 (aI hdl5 hE5a)))))))))))))
   have y1:w5.cell? ⟨w.heap.size+1,1,none⟩=some (.int .i64 (((q:Nat):Int)+(q5:Nat))):=cell_of_row w5 _ 1 _ _ (0,0) hW5.1
   clear hC5 hW5 hX5 hf5 hq5 hm5 hJ5 hE5 hdf5 htd5 hlt5 hg5 hnd5 hdl5 hE5w hE5a z1 f1 f2
   cases g with
   | true=>
    have hjs:=HJL.out.1
    go_wp2_with fail
    go_roundw
    case rel=>
     refine ⟨j+1,by go_num,HJL.out.1,?_⟩
     obtain ⟨hC5,hW5,hX5,hf5,hq5,hm5,hJ5,hdf5,htd5,hlt5,hg5,hnd5,hdl5,hE5a⟩:=H5.out
     obtain ⟨rfl,hes⟩:=hg5 (by trivial)
     refine ⟨e5,D5,f+k3+f5,q+q5,m5,?_,?_,?_,?_,?_,hdf5,htd5,hnd5,hdl5,hJ5,hE5a,fun t v2 i2 ht hv2 hi2=>?_⟩
     ·have e1:fs+((f+k3+f5:Nat):Int)=fs+f+k3+f5:=by push_cast;omega
      rw [e1]
      exact hC5
     ·have h1:=HI.out.2.1;have h2:=H4.out.1;have h3:=H.out.2.2.2.2.2.2;simp at hf5;omega
     ·have e1:((q+q5:Nat):Int)=(q:Int)+q5:=by push_cast;rfl
      rw [e1]
      exact hW5
     ·have h1:=HI.out.2.2.2.1;simp [payS] at hq5;omega
     ·have h1:=HI.out.2.2.2.2.1;simp at hm5;omega
     ·rcases Nat.lt_or_ge t j with h1|h1
      ·obtain ⟨b,hb⟩:=HI.out.2.2.2.2.2.2.2.2.2.2.2 t v2 i2 h1 hv2 hi2
       exact ⟨b,by rw [hX5];exact List.mem_append_left _ hb⟩
      ·obtain rfl:t=j:=by omega
       rw [H2.out.2.2.1,HJL.out.2.1] at hv2
       injection hv2 with hv2
       subst hv2
       rw [HJL.out.2.2.1] at hi2
       injection hi2 with hi2
       subst hi2
       obtain ⟨b,hb⟩:=Option.isSome_iff_exists.1 hes
       exact ⟨b,htd5.all _ b (by rw [H4.out.2.2.1];exact hb) (fun s hs=>by simp at hs)⟩
    case measure=>simp [intOf];omega
   | false=>
    go_wp2_with fail
    refine bodyPost_ret (results_tmp rfl _ _ _) rfl ?_
    obtain ⟨hC5,hW5,hX5,hf5,hq5,hm5,hJ5,hdf5,htd5,hlt5,hg5,hnd5,hdl5,hE5a⟩:=H5.out
    have hdn:D5.length≤G.length:=by
     have:=nodup_len hnd5 (fun x hx=>by
      obtain ⟨s,hs,rfl⟩:=List.mem_map.1 hx
      exact hdl5 s.1 s.2 hs)
     simpa using this
    have hsn:S5.length≤G.length:=by
     have:=nodup_len hdf5.nd (fun x hx=>by
      obtain ⟨s,hs,rfl⟩:=List.mem_map.1 hx
      exact hlt5 s hs)
     simpa using this
    have h8:=chR_le (kn:=kn) (ro:=ro) (n:=G.length) H.out.2.2.2.2.1
    have p1:=payD_le h8 D5
    have p2:=payS_le h8 S5 hdf5.le
    refine ⟨false,e5,S5,D5,f+k3+f5,q+q5,by push_cast;rfl,?_,?_,?_,hJ5,?_,hdf5,htd5,hnd5,hdl5,fun h=>by cases h⟩
    ·have e1:fs+((f+k3+f5:Nat):Int)=fs+f+k3+f5:=by push_cast;omega
     rw [e1]
     exact hC5
    ·have h1:=HI.out.2.1;have h2:=H4.out.1;have h3:=H.out.2.2.2.2.2.2;have h4:=HJL.out.1;have h5:=H2.out.2.2.2.1;omega
    ·have h1:=HI.out.2.2.2.1;have h4:=HJL.out.1;have h5:=H2.out.2.2.2.1;omega
    ·exact ((((Else.of_below H1.out.1).trans (Else.of_below (H2.out.2.1.mono (by have:=H1.out.2.1;omega)))).trans hE5a)).old fun k hk=>by rcases hk with (hk|hk|hk)|hk;exact .inl (.inl hk);exact .inr (by omega);exact .inr (by omega);exact .inl (.inr hk)
  ·have f1:decide ((j:Int)<(vs.length:Int))=false:=decide_eq_false (by omega)
   have f2:decide (j<vs.length)=false:=decide_eq_false hjl
   have hje:j=vs.length:=by omega
   have y1:wr.cell? ⟨w.heap.size+1,1,none⟩=some (.int .i64 ((q:Nat):Int)):=cell_of_row wr _ 1 _ _ (0,0) HI.out.2.2.1.1
   have HJE:=kI hje
   clear hje
   go_wp2_with fail
   refine bodyPost_ret (results_tmp rfl _ _ _) rfl ?_
   refine ⟨true,e,[],D,f,q,rfl,HI.out.1,by have:=HB.out;omega,by have:=HB.out;omega,HI.out.2.2.2.2.2.2.2.2.2.1,?_,HI.out.2.2.2.2.2.1,HI.out.2.2.2.2.2.2.1,HI.out.2.2.2.2.2.2.2.1,HI.out.2.2.2.2.2.2.2.2.1,fun _=>⟨rfl,fun v i hv=>?_⟩⟩
   ·exact ((((Else.of_below H1.out.1).trans (Else.of_below (H2.out.2.1.mono (by have:=H1.out.2.1;omega)))).trans HI.out.2.2.2.2.2.2.2.2.2.2.1)).old fun k hk=>by rcases hk with (hk|hk|hk)|hk;exact .inl (.inl hk);exact .inr (by omega);exact .inr (by omega);exact .inl (.inr hk)
   ·obtain ⟨t,ht,hte⟩:=List.getElem_of_mem (var_vsort hv)
    have hte2:(vsort G)[t]? = some v:=by rw [List.getElem?_eq_getElem ht,hte]
    exact HI.out.2.2.2.2.2.2.2.2.2.2.2 t v i (by rw [HJE.out,←H2.out.2.2.1];exact ht) hte2 hv
end CyFs
end
section
open Go.RowKit
open Un (Else dg cnt own_else)
set_option maxRecDepth 100000
section
variable {O T:Nat→Prop}{w w':World}{cb m:Nat}{G:List Gn}{E:List (Nat×Nat)}{st fs f:Int}{s:Sys}{b:Nat}
end
end
section
open Go.RowKit
open Un (Else dg cnt own_else)
set_option maxRecDepth 100000
theorem EqV.len_le {B:Nat}{w:World}{l:List Eqn}{v:Value}(h:EqV B w l v):l.length≤9223372036854775807:=by
 obtain ⟨A,c,_,h1,_⟩:=h
 by_cases h0:0<l.length
 ·obtain ⟨_,_,_,_,h2,h3,_⟩:=h1 h0
  unfold maxLen at h3
  omega
 ·omega
end
section
open Go.RowKit Go.Sort
open Un (Else dg cnt own_else Rings Ring Pth)
set_option maxRecDepth 100000
attribute [local go_sem] Oper.semAt_some
attribute [local go_sem ↓] builtin_app
theorem names_at {G:List Gn}{a:Int}(h:a∈names G):∃i p,G[i]? = some p∧p.1=1∧p.2.1=a∧gvar G a=some i:=by
 have h2:=(gvar_names G a).2 h
 obtain ⟨i,hi⟩:=Option.isSome_iff_exists.1 h2
 obtain ⟨p,hp,p1,p2⟩:=gvar_at hi
 exact ⟨i,p,hp,p1,p2,hi⟩
theorem gvar_node {G:List Gn}(hg:GN G) {i:Nat}{p:Gn}(hp:G[i]? = some p) (p1:p.1=1):gvar G p.2.1=some i:=by
 induction G generalizing i with
 | nil=>simp at hp
 | cons x G ih=>
  have hn:names (x :: G)=(if x.1=1 then [x.2.1] else [])++names G:=by
   unfold names
   by_cases h:x.1=1<;>simp [h]
  have hg':GN G:=by
   refine ⟨?_,fun n hn'=>hg.2 n (by rw [hn];exact List.mem_append_right _ hn')⟩
   have:=hg.1
   rw [hn] at this
   exact (List.nodup_append.1 this).2.1
  cases i with
  | zero=>
   simp only [List.getElem?_cons_zero,Option.some.injEq] at hp
   subst hp
   simp [gvar,p1]
  | succ i=>
   simp only [List.getElem?_cons_succ] at hp
   have hm:=ih hg' hp
   simp only [gvar]
   split
   ·rename_i hx
    exfalso
    have hmem:p.2.1∈names G:=(gvar_names G _).1 (by rw [hm];rfl)
    have:=hg.1
    rw [hn,if_pos hx.1] at this
    exact (List.nodup_append.1 this).2.2 x.2.1 (by simp) p.2.1 hmem hx.2
   ·rw [hm]
    rfl
section UzJs
variable {O:Nat→Prop}{w:World}{cb m:Nat}{G:List Gn}{E:List (Nat×Nat)}{st fs:Int}
end UzJs
end
section
open Un (cnt)
def Nx (G:List Gn) (E:List (Nat×Nat)) (j i:Nat):Prop:=∃(z:Nat) (p:Gn),Cl G E i z∧G[z]? = some p∧p.1≠1∧j∈p.2.2.2
def FinC (G:List Gn) (E:List (Nat×Nat)):Prop:=∀v i,gvar G v=some i→Acc (Nx G E) i
def GL (G:List Gn):Prop:=∀(i:Nat) (p:Gn),G[i]? = some p→∀u∈p.2.2.2,u<i
theorem gnode_GL {G:List Gn}{k n:Int}{P:List Nat}(h:GL G) (hlt:∀u∈P,u<G.length):GL (gnode G k n P).1:=by
 unfold gnode
 split
 ·exact h
 ·intro i p hp u hu
  rcases Nat.lt_or_ge i G.length with hi|hi
  ·rw [List.getElem?_append_left hi] at hp
   exact h i p hp u hu
  ·rw [List.getElem?_append_right hi] at hp
   cases hj:i-G.length with
   | zero=>
    rw [hj] at hp
    simp only [List.getElem?_cons_zero,Option.some.injEq] at hp
    subst hp
    have:=hlt u hu
    omega
   | succ j=>rw [hj] at hp;simp at hp
theorem chR_ro {n:Nat}{G:List Gn}{kn:Kn}{ro:Nat→Nat}(hP:∀p∈G,p.2.2.2.length≤8∧∀u∈p.2.2.2,u<n) (x y:Nat) (hy:y∈chR G kn ro x):∃u,u<n∧y=ro u:=by
 unfold chR at hy
 obtain ⟨u,hu,rfl⟩:=List.mem_map.1 hy
 refine ⟨u,?_,rfl⟩
 unfold partsO at hu
 cases h:(kn x).1 with
 | none=>rw [h] at hu;simp at hu
 | some k=>
  rw [h] at hu
  cases hg:G[k]? with
  | none=>simp [hg] at hu
  | some p=>simp [hg] at hu;exact (hP p (List.mem_of_getElem? hg)).2 u hu
section CyQs
variable {G H:List Gn}{E F:List (Nat×Nat)}{n:Nat}{col ro:Nat→Nat}{kn:Kn}{i j:Nat}
theorem Nx.cl (h:Cl G E i j) {k:Nat}(hx:Nx G E k j):Nx G E k i:=by
 obtain ⟨z,p,h1,h2⟩:=hx
 exact ⟨z,p,h.trans h1,h2⟩
theorem acc_cl (h:Cl G E i j) (ha:Acc (Nx G E) i):Acc (Nx G E) j:=⟨j,fun _ hk=>ha.inv (hk.cl h)⟩
theorem nx_roots (h:Js G n col ro kn E []) (hP:Gp G) (hi:i<n):Acc (Nx G E) i↔Acc (Chl (chR G kn ro)) (ro i):=by
 have hlen:=h.len
 constructor
 ·intro ha
  induction ha with
  | intro i _ ih=>
   refine ⟨_,fun y hy=>?_⟩
   have hy:y∈chR G kn ro (ro i):=hy
   unfold chR at hy
   obtain ⟨u,hu,rfl⟩:=List.mem_map.1 hy
   cases hk:(kn (ro i)).1 with
   | none=>rw [hk] at hu;cases hu
   | some z=>
    obtain ⟨p,hp,p1,hc⟩:=h.md.some i z (by omega) hk
    rw [hk] at hu
    have hu:u∈p.2.2.2:=by simpa [partsO,hp] using hu
    have hul:=(hP p (List.mem_of_getElem? hp)).2 u hu
    exact ih u ⟨z,p,h.jn.done.2 (.inr ⟨by omega,lt_of_get hp,hc.symm⟩),hp,p1,hu⟩ (by omega)
 ·intro ha
  obtain ⟨a,hae⟩:∃a,ro i=a:=⟨_,rfl⟩
  rw [hae] at ha
  induction ha generalizing i with
  | intro a _ ih=>
   subst hae
   refine ⟨_,fun j hj=>?_⟩
   obtain ⟨z,p,hc,hp,p1,hjp⟩:=hj
   obtain ⟨k,q,hk,hq,q1,hf,hck⟩:=h.known hi hc hp p1
   obtain ⟨t,ht,rfl⟩:=List.getElem_of_mem hjp
   have htq:t<q.2.2.2.length:=by have:=hf.2;omega
   have hjl:=(hP p (List.mem_of_getElem? hp)).2 _ (List.getElem_mem ht)
   have hul:=(hP q (List.mem_of_getElem? hq)).2 _ (List.getElem_mem htq)
   have hcu:Cl G E q.2.2.2[t] p.2.2.2[t]:=.part (hck.symm.trans hc) hq hp q1 p1 hf.1 hf.2 (List.getElem?_eq_getElem htq) (List.getElem?_eq_getElem ht)
   refine ih (ro p.2.2.2[t]) ?_ (by omega) rfl
   show ro p.2.2.2[t]∈chR G kn ro (ro i)
   rw [←(h.same (by omega) (by omega)).2 hcu]
   unfold chR
   refine List.mem_map_of_mem ?_
   rw [hk]
   simp [partsO,hq]
theorem acc_all (hnc:¬ Clash G E) (hg:GN G) (hl:GL G) (hf:FinC G E):∀i,i<G.length→Acc (Nx G E) i:=by
 intro i
 induction i using Nat.strongRecOn with
 | ind i ih=>
  intro hi
  obtain ⟨p,hp⟩:∃p,G[i]? = some p:=⟨_,List.getElem?_eq_getElem hi⟩
  by_cases p1:p.1=1
  ·exact hf p.2.1 i (gvar_node hg hp p1)
  ·refine ⟨_,fun j hj=>?_⟩
   obtain ⟨z,q,hc,hq,q1,hjq⟩:=hj
   have hfit:Fit p q:=Classical.byContradiction fun hf=>hnc ⟨i,z,p,q,hc,hp,hq,p1,q1,hf⟩
   obtain ⟨t,ht,rfl⟩:=List.getElem_of_mem hjq
   have htp:t<p.2.2.2.length:=by have:=hfit.2;omega
   have hlt:=hl i p hp _ (List.getElem_mem htp)
   exact acc_cl (.part hc hp hq p1 q1 hfit.1 hfit.2 (List.getElem?_eq_getElem htp) (List.getElem?_eq_getElem ht)) (ih _ hlt (by omega))
end CyQs
end
section
open Go.RowKit
open Un (Else StM rowI UFo own_else dg swp wp_world paint cnt Rings)
attribute [local go_sem] Oper.semAt_some
set_option maxRecDepth 100000
def CtJ (fb:Nat) (D:List (Nat×Bool)) (g:Bool) (W:World):Prop:=W.heap[fb]? = some (Obj.cells #[.bool g] 4)∧(g=true→∀x b,(x,b)∈D→b=true)∧(g=false→∃x,(x,false)∈D)
theorem count1_any (fb:Nat) (cb n:Nat) (ch:Nat→List Nat) (Q:World→Prop):TellOk 114 #[.pointer (some ⟨fb,0,none⟩)] cb n ch (fun k=>k=fb) (CtJ fb) Q:=by
 intro D W r b P k _ hJ _ _ _ _ _
 obtain ⟨P1,P2,P3⟩:=P
 show Calls _ _ #[.agg #[.pointer (some ⟨cb,0,none⟩),.int .i64 (r:Nat),.slice P1 P2 P3,.int .i64 (k:Nat)],.bool b,.pointer (some ⟨fb,0,none⟩)] W _
 have hl:=(gL hJ.1).1
 have c0:W.cell? ⟨fb,0,none⟩=some (.bool true):=cell_of_row W _ 0 _ _ (0,0) hJ.1
 have cz:W.frozen? ⟨fb,0,none⟩=false:=by simp [World.frozen?,hJ.1]
 have HJ:=kI hJ
 clear hJ
 go_enter Tryz.func114,Tryz.ntmps114
 go_wp2_with fail
 refine bodyPost_ret (results_tmp rfl _ _ _) rfl ⟨b,rfl,⟨?_,fun hb x c hm=>?_,fun hb=>⟨r,by rw [hb];simp⟩⟩,?_⟩
 ·first
  | exact (Below.heap_alloc _ _ _ (by simpa using hl)).trans (heap_setCell_same W fb 0 _ _ _ HJ.out.1)
  | exact heap_setCell_same _ fb 0 _ _ _ ((Below.heap_alloc _ _ _ hl).trans HJ.out.1)
 ·rcases List.mem_append.1 hm with hm|hm
  ·exact HJ.out.2.1 rfl x c hm
  ·obtain ⟨rfl,rfl⟩:x=r∧c=b:=by simpa using hm
   exact hb
 ·first
  | exact (Un.Else.set (S:=fun k=>k=fb) W (p:=⟨fb,0,none⟩) rfl _).trans (Un.Else.alloc _ _ _)
  | exact (Un.Else.alloc _ _ _).trans (Un.Else.set (S:=fun k=>k=fb) _ (p:=⟨fb,0,none⟩) rfl _)
section CyGs
variable {O:Nat→Prop}{w:World}{cb m:Nat}{G:List Gn}{E:List (Nat×Nat)}{st fs:Int}
def CtPost (O:Nat→Prop) (w:World) (cb:Nat) (G:List Gn) (E:List (Nat×Nat)) (st fs:Int) (m:Nat) (x:Ending) (w':World):Prop:=
 ∃(b:Bool) (q k:Nat),x = .returned (.tuple #[.bool b,.int .i64 (q:Nat)])∧(b=true↔FinC G E)∧q≤35*G.length+1∧k≤400*G.length∧CsM O w' cb G E st (fs+k) m∧Else O w w'
set_option maxHeartbeats 2000000 in
theorem count_cs (h:CsM O w cb G E st fs m) (hfs:0≤fs∧fs≤20000000000) (hG:G.length≤400000) (hgn:GN G) (hgl:GL G):
  Calls Tryz.prog 79 #[.pointer (some ⟨cb,0,none⟩)] w (CtPost O w cb G E st fs m):=by
 obtain ⟨⟨A,kn,nx,col,ro,hC,hJ,hR,hB,hm⟩,h2,h3⟩:=h
 have HER:Hid (Calls Tryz.prog 109 #[.pointer (some ⟨cb,0,none⟩)] w fun e w'=>e = .returned (.int .i64 0)∧w'=w):=kI (err_cl hC)
 obtain ⟨w1,hw1⟩:∃w1,w.alloc (Obj.cells #[.bool true] 4)=w1:=⟨_,rfl⟩
 have hb1:Below w.heap.size w w1:=by rw [←hw1];exact (Below.refl _ _).alloc (Nat.le_refl _) _
 have hx1:w1.heap[w.heap.size]? = some (Obj.cells #[.bool true] 4):=by rw [←hw1];exact heap_alloc_new _ _
 have HWK:=kI (walk_any (gf:=114) (lb:=#[.pointer (some ⟨w.heap.size,0,none⟩)]) (T:=fun k=>k=w.heap.size) (J:=CtJ w.heap.size) (enters_of Tryz.func114 (by kernel_rfl) rfl) (hC.below hb1) hfs (by omega) hgn h3 (fun i hi=>(hJ.rt i hi).1) (count1_any w.heap.size cb G.length _ _) (fun k hk=>by subst hk;exact ⟨(gL hx1).1,fun hk=>Nat.lt_irrefl _ (hC.lt hk)⟩) (fun D g S W W' hj he hs=>⟨(he.block _ (gL hj.1).1 (fun hS=>hs _ hS rfl)).trans hj.1,hj.2⟩) ⟨hx1,(fun _ x b hm=>by cases hm),(fun h=>by cases h)⟩)
 have H:=kI (aI hC (aI hJ (aI hR (aI hB (aI hm (aI h2 (aI h3 (aI hb1 (aI hgn hgl)))))))))
 have HW1:=kI hw1
 clear hC hJ hR hB hm h2 h3 hb1 hx1 hgn hgl hw1 hfs
 go_enter Tryz.func79,Tryz.ntmps79
 go_wp2_with fail
 refine HER.out.mono ?_
 clear HER
 rintro x w' ⟨rfl,rfl⟩
 go_wp2_with fail
 rw [HW1.out]
 refine HWK.out.mono ?_
 clear HWK
 rintro x w2 ⟨g,e,S,D,f,q,rfl,hC2,hf,hq,hJ2,hE2,hdf,htd,hnd,hdl,hg⟩
 have c0:w2.cell? ⟨w'.heap.size,0,none⟩=some (.bool g):=cell_of_row w2 _ 0 _ _ (0,0) hJ2.1
 have H2:=kI (aI hC2 (aI hf (aI hq (aI hJ2.2 (aI hE2 (aI hdf (aI htd (aI hdl hg))))))))
 clear hC2 hf hq hJ2 hE2 hdf htd hnd hdl hg
 go_wp2_with fail
 obtain ⟨hC2,hf,hq,hJ2,hE2,hdf,htd,hdl,hg⟩:=H2.out
 obtain ⟨hC,hJ,hR,hB,hm,h2,h3,hb1,hgn,hgl⟩:=H.out
 have hE:Else A.S w' w2:=((Else.of_below hb1).trans hE2).old fun k hk=>hk.imp id fun h=>by omega
 refine bodyPost_ret (results_tmp2 rfl _ _ _) rfl ⟨g,q,f,rfl,?_,hq,hf,CsM.turned hC2 hE hJ hR hB hm h2 h3,hE.mono fun k hk=>hC.own k (.inr (.inl hk))⟩
 constructor
 ·intro hgt v i hvi
  obtain ⟨b,hb⟩:=(hg hgt).2 v i hvi
  have hbt:=hJ2.1 hgt _ _ hb
  subst hbt
  exact (nx_roots hJ h3 (gvar_lt hvi)).2 (hdf.tt _ (htd.known _ _ hb).1)
 ·intro hfin
  cases g with
  | true=>rfl
  | false=>
   obtain ⟨x,hx⟩:=hJ2.2 rfl
   exfalso
   obtain ⟨k1,k2⟩:=htd.known _ _ hx
   have hxn:=hdl _ _ hx
   have hnr:¬ Acc (Chl (chR G kn ro)) x:=hdf.ff _ k1 k2
   refine hnr ⟨x,fun y hy=>?_⟩
   obtain ⟨u,hu,rfl⟩:=chR_ro (n:=G.length) h3 x y hy
   exact (nx_roots hJ h3 hu).1 (acc_all hJ.jn.noClash hgn hgl hfin u hu)
end CyGs
end
section
open Go.RowKit
open Un (Else StM rowI UFo own_else dg swp wp_world paint cnt Rings)
attribute [local go_sem] Oper.semAt_some
set_option maxRecDepth 100000
section CyHs
variable {O:Nat→Prop}{w:World}{cb m:Nat}{G:List Gn}{E:List (Nat×Nat)}{st fs:Int}
variable {p:Option Addr}
end CyHs
end
section
open Go.RowKit
open Un (Else StM rowI UFo own_else dg swp wp_world paint cnt Rings)
attribute [local go_sem] Oper.semAt_some
attribute [local go_sem ↓] builtin_app
set_option maxRecDepth 100000
section CyIs
variable {O:Nat→Prop}{w:World}{cb m:Nat}{G:List Gn}{E:List (Nat×Nat)}{st fs:Int}{A:Adr}{kn:Kn}{nx col ro:Nat→Nat}{n:Nat}
end CyIs
end
section
open Go.RowKit Go.Shelf
open Un (Else StM rowI UFo own_else dg swp wp_world paint cnt Rings)
set_option maxRecDepth 100000
theorem nil_gl:GL []:=fun i p hp=>by simp at hp
end
section
open Go.RowKit
open Un (Else)
set_option maxRecDepth 100000
end
section
open Go.RowKit
end
section
open Go.RowKit Go.Shelf
open Un (Else StM rowI UFo own_else dg swp wp_world paint cnt Rings)
set_option maxRecDepth 100000
section CyKs
variable {w:World}{p:Option Addr}{v:Int}
end CyKs
end
section
open Go.RowKit
open Un (Else StM rowI UFo own_else dg swp wp_world paint cnt Rings)
attribute [local go_sem] Oper.semAt_some
set_option maxRecDepth 100000
abbrev mst:Int:=1099511627776
theorem min_run (w:World) (x y:Int):(Builtin.min_ #[3,3] 3 #[.int .i64 x,.int .i64 y]).run Tryz.prog w = .ok (.int .i64 (if y<x then y else x)) w:=by
 have e:(Builtin.min_ #[3,3] 3 #[.int .i64 x,.int .i64 y])=(do pure (←Builtin.min2 (.int .i64 x) (.int .i64 y))):=rfl
 rw [e]
 rfl
def capm (v:Int):Int:=if mst<v+1 then mst else v+1
structure BothF (f:Int→Int→Int) (bf:FuncId):Prop where
 eg:∀args w,(callFunc bf args).run Tryz.prog w = .ok (.enter bf args) w
 is:∀a b W,0≤a∧a≤8*mst→0≤b∧b≤mst→Calls Tryz.prog bf #[.int .i64 a,.int .i64 b] W fun x W'=>x = .returned (.int .i64 (f a b))∧W'=W
 le:∀a b,0≤a→0≤b→0≤f a b∧f a b≤a+b
def msf (f:Int→Int→Int) (l:List Int):Int:=capm (l.foldl f 0)
section CyNs
variable {O:Nat→Prop}{w:World}{cb m:Nat}{G:List Gn}{E:List (Nat×Nat)}{st fs:Int}{A:Adr}{kn:Kn}{nx col ro:Nat→Nat}{n:Nat}{f:Int→Int→Int}{bf:FuncId}
structure MsN (G:List Gn) (E:List (Nat×Nat)) (f:Int→Int→Int) (R:Nat→Prop) (val:Nat→Int):Prop where
 whole:∀i,R i→i<G.length→∀(z:Nat) (p:Gn),Cl G E i z→G[z]? = some p→p.1≠1→val i=msf f (p.2.2.2.map val)∧∀u∈p.2.2.2,R u
 bare:∀i,R i→i<G.length→(∀(z:Nat) (p:Gn),Cl G E i z→G[z]? = some p→p.1=1)→val i=msf f []
 vars:∀v i,gvar G v=some i→R i
end CyNs
end
section
open Go.RowKit Go.Shelf
open Un (Else StM rowI UFo own_else dg swp wp_world paint cnt Rings)
set_option maxRecDepth 100000
theorem gnode_lt (G:List Gn) (k n:Int) (P:List Nat):(gnode G k n P).2<(gnode G k n P).1.length:=by
 unfold gnode
 split
 ·rename_i i h
  split at h
  ·exact gvar_lt h
  ·cases h
 ·simp
theorem gadd_gl (F:Fo):∀G,GL G→GL (gadd G F).1∧∀u∈(gadd G F).2,u<(gadd G F).1.length:=by
 induction F with
 | nil=>intro G h;rw [gadd_nil];exact ⟨h,fun u hu=>by simp at hu⟩
 | cons k n u ps r i1 i2=>
  intro G h
  obtain ⟨a1,a2⟩:=i1 G h
  have b1:=gnode_GL (k:=k) (n:=n) a1 a2
  have b2:=gnode_lt (gadd G ps).1 k n (gadd G ps).2
  rw [←gadd1_eq] at b1 b2
  obtain ⟨c1,c2⟩:=i2 _ b1
  rw [gadd_cons]
  refine ⟨c1,fun x hx=>?_⟩
  rcases List.mem_cons.1 hx with rfl|hx
  ·obtain ⟨X,hX,_⟩:=gadd_pre r (gadd1 G k n ps).1
   rw [hX,List.length_append]
   omega
  ·exact c2 x hx
theorem gadd1_gl {G:List Gn}(h:GL G) (k n:Int) (ps:Fo):GL (gadd1 G k n ps).1:=by
 have:=gadd_gl ps G h
 rw [gadd1_eq]
 exact gnode_GL this.1 this.2
theorem fold_gl (m:List Eqn):∀s:Sys,GL s.1→GL (m.foldl stp s).1:=by
 induction m with
 | nil=>intro s h;exact h
 | cons x m ih=>intro s h;exact ih _ (gadd1_gl (gadd1_gl h _ _ _) _ _ _)
theorem cls_gl (l:List Eqn):GL (cls l).1:=fold_gl l _ nil_gl
section CyLs
variable {O:Nat→Prop}{w:World}{cb b:Nat}{s:Sys}
end CyLs
end
end Go.Proofs.YtmamdiggjghjkaaGreatDoor
namespace Go.Proofs.YtmamdiggjghjkaaGreatDoor.Un
open Go.RowKit Go.ChangeShapes Go.WideShapes Go.ChangeAt Go.Deep
theorem list_of {α:Type}(P:Nat→α→Prop) (n:Nat) (h:∀i,i<n→∃t,P i t):∃ts:List α,ts.length=n∧∀i (hi:i<ts.length),P i ts[i]:=by
 induction n with
 | zero=>exact ⟨[],rfl,by simp⟩
 | succ n ih=>
  obtain ⟨ts,hl,hP⟩:=ih (fun i hi=>h i (by omega))
  obtain ⟨t,ht⟩:=h n (by omega)
  refine ⟨ts ++ [t],by simp [hl],fun i hi=>?_⟩
  rcases Nat.lt_or_ge i ts.length with hlt|hge
  ·rw [List.getElem_append_left hlt];exact hP i hlt
  ·have:i=ts.length:=by simp at hi;omega
   subst this
   have e:(ts ++ [t])[ts.length]=t:=by simp
   rw [e,hl]
   exact ht
def RdB (w:World) (v:Value) (l:List Nat):Prop:=
 (∀p∈l,p<256)∧((l=[]∧∃A c,v = .slice A 0 c)∨∃b off cap,v = .slice (some ⟨b,off,none⟩) l.length cap∧l.length≤cap∧b<w.heap.size∧
  ∀i (hi:i<l.length),w.cell? ⟨b,off+i,none⟩=some (.int .u8 (l[i]:Nat)))
theorem RdB.below {w w':World}{v:Value}{l:List Nat}(h:RdB w v l) (hb:Below w.heap.size w w'):RdB w' v l:=by
 refine ⟨h.1,?_⟩
 rcases h.2 with h2|⟨b,off,cap,hv,hc,hl,hx⟩
 ·exact .inl h2
 ·exact .inr ⟨b,off,cap,hv,hc,Nat.lt_of_lt_of_le hl hb.size,fun i hi=>(hb.cell (p:=⟨b,_,none⟩) hl).trans (hx i hi)⟩
theorem RdB.slice {w:World}{v:Value}{l:List Nat}(h:RdB w v l):∃A c,v = .slice A l.length c:=by
 rcases h.2 with ⟨rfl,A,c,hv⟩|⟨b,off,cap,hv,_⟩
 ·exact ⟨A,c,hv⟩
 ·exact ⟨_,_,hv⟩
theorem RdB.at_ {w:World}{A:Option Addr}{n c:Nat}{l:List Nat}(h:RdB w (.slice A n c) l) {i:Nat}(hi:i<l.length):∃b off,A=some ⟨b,off,none⟩∧b<w.heap.size∧w.cell? ⟨b,off+i,none⟩=some (.int .u8 (l[i]:Nat))∧l[i]<256:=by
 rcases h.2 with ⟨rfl,_⟩|⟨b,off,cap,hv,hc,hl,hx⟩
 ·simp at hi
 ·injection hv with h1 _ _
  exact ⟨b,off,h1,hl,hx i hi,h.1 _ (List.getElem_mem hi)⟩
def ArgB (w:World) (v:Value):Prop:=∃l,RdB w v l
theorem u8_wf {n:Int}(h:(Lit.int .u8 n).wf=true):0≤n∧n<256:=by
 have e1:IntKind.u8.min=0:=by decide
 have e2:IntKind.u8.max=255:=by decide
 simp only [Lit.wf,Bool.and_eq_true,decide_eq_true_eq] at h
 omega
set_option maxRecDepth 100000 in
theorem ArgB_open {H:Type}{enc:TypeId×Value→H}{W:World}{r:Reach}{b0:Nat}{v:Value}{d:DataW H}{p:List MemPlace}(hval:Value.okWide Tryz.prog W r b0 61 v)
  (h:DataW.Trod enc Tryz.prog W 0 (fun _=>true) true 61 v d p):ArgB W v:=by
 obtain ⟨a0,len,cap,rfl⟩:=okWide_slice Tryz.underlying61 hval
 obtain ⟨fuel,hf⟩:=h
 rcases open_slice Tryz.underlying61 hf with ⟨hcs,_⟩|⟨a,len',cap',m,n,D,Pl,hcs,_,hl,hm,hmm,hx,hi⟩
 ·simp [Value.cells] at hcs
  obtain ⟨rfl,rfl,rfl⟩:=hcs
  exact ⟨[],by simp,.inl ⟨rfl,_,_,rfl⟩⟩
 ·simp [Value.cells] at hcs
  obtain ⟨rfl,rfl,rfl⟩:=hcs
  simp only [if_true] at hmm
  have hI:Tryz.prog.cellsOf 5=1:=by kernel_rfl
  rw [hI] at hi
  have key:∀i,i<len→∃t:Nat,t<256∧W.cell? (a.add i)=some (.int .u8 (t:Nat)):=by
   intro i hil
   obtain ⟨cs',hc,ht'⟩:=hi i (by omega)
   obtain ⟨k0,hk0,_,w0⟩:=DataW.trod_int Tryz.underlying5 ht'
   have w0:=u8_wf w0
   obtain ⟨_,hcl,hat⟩:=World.cells?_some hc
   subst hk0
   refine ⟨k0.toNat,by omega,?_⟩
   have:=hat 0 (by simp)
   rw [show ((k0.toNat:Nat):Int)=k0 by omega]
   simpa [Addr.add] using this
  by_cases h0:len=0
  ·subst h0
   exact ⟨[],by simp,.inl ⟨rfl,_,_,rfl⟩⟩
  ·obtain ⟨b,off,spot⟩:=a
   obtain ⟨t0,_,hc0⟩:=key 0 (by omega)
   have hspot:spot=none:=by simpa [Addr.add] using World.cell?_spot hc0
   subst hspot
   obtain ⟨ts,htl,hP⟩:=list_of _ len key
   refine ⟨ts,?_,.inr ⟨b,off,cap,by rw [htl],by omega,?_,?_⟩⟩
   ·intro p hp
    obtain ⟨i,hi',rfl⟩:=List.mem_iff_getElem.1 hp
    exact (hP i hi').1
   ·have:=hc0
    simp [Addr.add] at this
    unfold World.cell? at this
    split at this
    ·rename_i hh
     exact (gL hh).1
    ·cases this
   ·intro i hi'
    have hP2:=hP i hi'
    simp only [Addr.add_lit] at hP2
    exact hP2.2
end Go.Proofs.YtmamdiggjghjkaaGreatDoor.Un
namespace Go.Proofs.YtmamdiggjghjkaaGreatDoor.Un
open Go.RowKit
attribute [local go_sem] Oper.semAt_some
attribute [local go_sem ↓] builtin_app
def rowL (l:List Nat):List Value:=l.map fun (k:Nat)=>Value.int .i64 (k:Int)
structure BoxR (B:Nat) (sb:Nat) (v:Value) (l:List Nat) (w:World):Prop where
 box:w.heap[sb]? = some (Obj.cells #[v] 41)
 row:w.ownsRow B 3 1 v l.length (rowL l)
 sbB:B≤sb
end Go.Proofs.YtmamdiggjghjkaaGreatDoor.Un
namespace Go.Proofs.YtmamdiggjghjkaaGreatDoor.Un
open Go.RowKit Go.Sort
end Go.Proofs.YtmamdiggjghjkaaGreatDoor.Un
namespace Go.Proofs.YtmamdiggjghjkaaGreatDoor.Un
open Go.RowKit
end Go.Proofs.YtmamdiggjghjkaaGreatDoor.Un
