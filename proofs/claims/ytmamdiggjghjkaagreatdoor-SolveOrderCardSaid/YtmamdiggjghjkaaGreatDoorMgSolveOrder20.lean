/- Texts of one proof, one behind the other. -/
import Derived.Test.YtmamdiggjghjkaaGreatDoorMgSolveOrder6
import Derived.Test.YtmamdiggjghjkaaGreatDoorMgSolveOrder1
import Derived.Test.YtmamdiggjghjkaaGreatDoorMgSolveOrder7
import Derived.Test.YtmamdiggjghjkaaGreatDoorMgSolveOrder13
import Derived.Test.YtmamdiggjghjkaaGreatDoorMgSolveOrder3
set_option linter.unusedVariables false
namespace Go.Proofs.YtmamdiggjghjkaaGreatDoor
section
open Go.RowKit Go.ChangeShapes Go.WideShapes Go.ChangeAt Go.Deep
set_option maxRecDepth 100000
theorem TyV.onward {w w':World}{f:Fo}{v:Value}(h:TyV w.heap.size w f v) (hb:Below w.heap.size w w'):TyV w'.heap.size w' f v:=h.keep hb.size fun b off hlt=>hb.cell (p:=⟨b,off,none⟩) hlt
abbrev Ty1:=Int×Int×Sl×Fo
abbrev Eqn:=Ty1×Ty1×(Int×Int)
def t1V (t:Ty1):Value:=tyVal t.1 t.2.1 (slv t.2.2.1)
def eqC (x:Eqn):List Value:=[.int .i64 x.1.1,.int .i64 x.1.2.1,slv x.1.2.2.1,.int .i64 x.2.1.1,.int .i64 x.2.1.2.1,slv x.2.1.2.2.1,.int .i64 x.2.2.1,.int .i64 x.2.2.2]
def EqAt (w:World) (b off:Nat) (x:Eqn):Prop:=
 w.cell? ⟨b,off,none⟩=some (.int .i64 x.1.1)∧w.cell? ⟨b,off+1,none⟩=some (.int .i64 x.1.2.1)∧w.cell? ⟨b,off+2,none⟩=some (slv x.1.2.2.1)∧
 w.cell? ⟨b,off+3,none⟩=some (.int .i64 x.2.1.1)∧w.cell? ⟨b,off+4,none⟩=some (.int .i64 x.2.1.2.1)∧w.cell? ⟨b,off+5,none⟩=some (slv x.2.1.2.2.1)∧
 w.cell? ⟨b,off+6,none⟩=some (.int .i64 x.2.2.1)∧w.cell? ⟨b,off+7,none⟩=some (.int .i64 x.2.2.2)
def EqT (B:Nat) (w:World) (x:Eqn):Prop:=TyV B w x.1.2.2.2 (slv x.1.2.2.1)∧TyV B w x.2.1.2.2.2 (slv x.2.1.2.2.1)
def EqV (B:Nat) (w:World) (l:List Eqn) (v:Value):Prop:=
 ∃A c,v = .slice A l.length c∧(0<l.length→∃b off,A=some ⟨b,off,none⟩∧b<B∧l.length≤c∧c≤maxLen∧∀i (h:i<l.length),EqAt w b (off+i*8) l[i])∧∀x∈l,EqT B w x
def TyW (t:Ty1):Prop:=(Lit.int .i64 t.2.1).wf=true∧t.2.2.2.wf
def EqW (l:List Eqn):Prop:=∀x∈l,TyW x.1∧TyW x.2.1
theorem EqAt.keep {w w':World}{b off:Nat}{x:Eqn}(h:EqAt w b off x) (hk:∀off,w'.cell? ⟨b,off,none⟩=w.cell? ⟨b,off,none⟩):EqAt w' b off x:=by
 obtain ⟨h0,h1,h2,h3,h4,h5,h6,h7⟩:=h
 exact ⟨(hk _).trans h0,(hk _).trans h1,(hk _).trans h2,(hk _).trans h3,(hk _).trans h4,(hk _).trans h5,(hk _).trans h6,(hk _).trans h7⟩
theorem EqT.keep {B B':Nat}{w w':World}{x:Eqn}(h:EqT B w x) (hB:B≤B') (hk:∀b off,b<B→w'.cell? ⟨b,off,none⟩=w.cell? ⟨b,off,none⟩):EqT B' w' x:=⟨h.1.keep hB hk,h.2.keep hB hk⟩
theorem EqV.keep {B B':Nat}{w w':World}{l:List Eqn}{v:Value}(h:EqV B w l v) (hB:B≤B') (hk:∀b off,b<B→w'.cell? ⟨b,off,none⟩=w.cell? ⟨b,off,none⟩):EqV B' w' l v:=by
 obtain ⟨A,c,hv,h1,h2⟩:=h
 refine ⟨A,c,hv,fun hn=>?_,fun x hx=>(h2 x hx).keep hB hk⟩
 obtain ⟨b,off,hA,hb,hc,hm,hat⟩:=h1 hn
 exact ⟨b,off,hA,by omega,hc,hm,fun i hi=>(hat i hi).keep fun o=>hk b o hb⟩
theorem EqV.below {B:Nat}{w w':World}{l:List Eqn}{v:Value}(h:EqV B w l v) (hb:Below B w w'):EqV B w' l v:=h.keep (Nat.le_refl _) fun b off hlt=>hb.cell (p:=⟨b,off,none⟩) hlt
theorem EqV.later {w w':World}{l:List Eqn}{v:Value}(h:EqV w.heap.size w l v) (hb:Below w.heap.size w w'):EqV w'.heap.size w' l v:=h.keep hb.size fun b off hlt=>hb.cell (p:=⟨b,off,none⟩) hlt
theorem EqV.form {B:Nat}{w:World}{l:List Eqn}{v:Value}(h:EqV B w l v):∃A c,v = .slice A l.length c:=by obtain ⟨A,c,hv,_⟩:=h;exact ⟨A,c,hv⟩
theorem EqV.at {B:Nat}{w:World}{l:List Eqn}{A:Option Addr}{n c:Nat}(h:EqV B w l (.slice A n c)) (j:Nat) (hj:j<l.length):∃b off,A=some ⟨b,off,none⟩∧b<B∧EqAt w b (off+j*8) l[j]:=by
 obtain ⟨A',c',hv,h1,_⟩:=h
 injection hv with e1 e2 e3
 obtain ⟨b,off,hA,hb,_,_,hat⟩:=h1 (by omega)
 exact ⟨b,off,by rw [e1,hA],hb,hat j hj⟩
theorem EqV.ty {B:Nat}{w:World}{l:List Eqn}{v:Value}(h:EqV B w l v) (j:Nat) (hj:j<l.length):EqT B w l[j]:=by
 obtain ⟨_,_,_,_,h2⟩:=h
 exact h2 _ (List.getElem_mem hj)
theorem ty_read {H:Type}{enc:TypeId×Value→H}{W:World}{fuel:Nat}{c1 c2 c3:Value}{x:DataW H×List MemPlace}(h:DataW.trod enc Tryz.prog W 0 (fun _=>true) true fuel 25 [c1,c2,c3]=some x):
  ∃t:Ty1,c1 = .int .i64 t.1∧c2 = .int .i64 t.2.1∧c3=slv t.2.2.1∧TyV W.heap.size W t.2.2.2 (slv t.2.2.1)∧TyW t:=by
 have hI:Tryz.prog.cellsOf 3=1:=by kernel_rfl
 have hS:Tryz.prog.cellsOf 23=1:=by kernel_rfl
 obtain ⟨zs,n2,hn2,_,hlen3,hzl,hfld2⟩:=DataW.trod_struct Tryz.underlying25 h
 have p0:DataW.trod enc Tryz.prog W 0 (fun _=>true) true n2 3 (([c1,c2,c3].drop 0).take (Tryz.prog.cellsOf 3))=zs[0]?:=hfld2 0 _ rfl
 have p1:DataW.trod enc Tryz.prog W 0 (fun _=>true) true n2 3 (([c1,c2,c3].drop 1).take (Tryz.prog.cellsOf 3))=zs[1]?:=hfld2 1 _ rfl
 have p2:DataW.trod enc Tryz.prog W 0 (fun _=>true) true n2 23 (([c1,c2,c3].drop 2).take (Tryz.prog.cellsOf 23))=zs[2]?:=hfld2 2 _ rfl
 have hzl':zs.length=3:=hzl
 rw [hI,List.getElem?_eq_getElem (by omega)] at p0
 rw [hI,List.getElem?_eq_getElem (by omega)] at p1
 rw [hS,List.getElem?_eq_getElem (by omega)] at p2
 obtain ⟨k1,hk1,_,_⟩:=DataW.trod_int Tryz.underlying3 p0
 obtain ⟨k2,hk2,_,hw2⟩:=DataW.trod_int Tryz.underlying3 p1
 obtain ⟨F,u,hu,hF,hFw⟩:=types_read n2 c3 _ p2
 simp at hk1 hk2
 subst hu
 exact ⟨(k1,k2,u,F),hk1,hk2,rfl,hF,hw2,hFw⟩
theorem span_read {H:Type}{enc:TypeId×Value→H}{W:World}{fuel:Nat}{c1 c2:Value}{x:DataW H×List MemPlace}(h:DataW.trod enc Tryz.prog W 0 (fun _=>true) true fuel 57 [c1,c2]=some x):
  ∃t:Int×Int,c1 = .int .i64 t.1∧c2 = .int .i64 t.2:=by
 have hI:Tryz.prog.cellsOf 3=1:=by kernel_rfl
 obtain ⟨zs,n2,hn2,_,hlen3,hzl,hfld2⟩:=DataW.trod_struct Tryz.underlying57 h
 have p0:DataW.trod enc Tryz.prog W 0 (fun _=>true) true n2 3 (([c1,c2].drop 0).take (Tryz.prog.cellsOf 3))=zs[0]?:=hfld2 0 _ rfl
 have p1:DataW.trod enc Tryz.prog W 0 (fun _=>true) true n2 3 (([c1,c2].drop 1).take (Tryz.prog.cellsOf 3))=zs[1]?:=hfld2 1 _ rfl
 have hzl':zs.length=2:=hzl
 rw [hI,List.getElem?_eq_getElem (by omega)] at p0
 rw [hI,List.getElem?_eq_getElem (by omega)] at p1
 obtain ⟨k1,hk1,_,_⟩:=DataW.trod_int Tryz.underlying3 p0
 obtain ⟨k2,hk2,_,_⟩:=DataW.trod_int Tryz.underlying3 p1
 simp at hk1 hk2
 exact ⟨(k1,k2),hk1,hk2⟩
theorem eqs_read {H:Type}{enc:TypeId×Value→H}{W:World}(fuel:Nat) (v:Value) (x:DataW H×List MemPlace) (h:DataW.trod enc Tryz.prog W 0 (fun _=>true) true fuel 22 [v]=some x):∃(l:List Eqn),EqV W.heap.size W l v∧EqW l:=by
 rcases DataW.trod_slice Tryz.underlying22 h with ⟨hcs,_⟩|⟨a,len,cap,elems,rest,n,hfu,hcs,_,_,hl,hm,hlen,hel,_,_⟩
 ·simp at hcs
  subst hcs
  exact ⟨[],⟨none,0,rfl,fun h=>by simp at h,fun x hx=>by cases hx⟩,fun x hx=>by cases hx⟩
 ·simp at hcs
  subst hcs
  have hC:Tryz.prog.cellsOf 59=8:=by kernel_rfl
  have hT:Tryz.prog.cellsOf 25=3:=by kernel_rfl
  have hP:Tryz.prog.cellsOf 57=2:=by kernel_rfl
  rw [hC] at hel
  have key:∀i,i<len→∃t:Eqn,(W.cell? (a.add (i*8))=some (.int .i64 t.1.1)∧W.cell? ((a.add (i*8)).add 1)=some (.int .i64 t.1.2.1)∧W.cell? ((a.add (i*8)).add 2)=some (slv t.1.2.2.1)∧W.cell? ((a.add (i*8)).add 3)=some (.int .i64 t.2.1.1)∧W.cell? ((a.add (i*8)).add 4)=some (.int .i64 t.2.1.2.1)∧W.cell? ((a.add (i*8)).add 5)=some (slv t.2.1.2.2.1)∧W.cell? ((a.add (i*8)).add 6)=some (.int .i64 t.2.2.1)∧W.cell? ((a.add (i*8)).add 7)=some (.int .i64 t.2.2.2))∧EqT W.heap.size W t∧TyW t.1∧TyW t.2.1:=by
   intro i hil
   have he:=hel i hil
   rw [List.getElem?_eq_getElem (by omega)] at he
   obtain ⟨cs',hc,ht'⟩:=Option.bind_eq_some_iff.1 he
   obtain ⟨ys,n',hn',_,hlen2,hyl,hfld⟩:=DataW.trod_struct Tryz.underlying59 ht'
   rw [hC] at hlen2
   obtain ⟨_,hcl,hat⟩:=World.cells?_some hc
   have q0:DataW.trod enc Tryz.prog W 0 (fun _=>true) true n' 25 ((cs'.drop 0).take (Tryz.prog.cellsOf 25))=ys[0]?:=hfld 0 _ rfl
   have q1:DataW.trod enc Tryz.prog W 0 (fun _=>true) true n' 25 ((cs'.drop 3).take (Tryz.prog.cellsOf 25))=ys[1]?:=hfld 1 _ rfl
   have q2:DataW.trod enc Tryz.prog W 0 (fun _=>true) true n' 57 ((cs'.drop 6).take (Tryz.prog.cellsOf 57))=ys[2]?:=hfld 2 _ rfl
   have hyl':ys.length=3:=hyl
   rw [hT,List.getElem?_eq_getElem (by omega)] at q0
   rw [hT,List.getElem?_eq_getElem (by omega)] at q1
   rw [hP,List.getElem?_eq_getElem (by omega)] at q2
   match cs',hlen2 with
   | [c0,c1,c2,c3,c4,c5,c6,c7],_=>
    obtain ⟨tl,a0,a1,a2,aT,aW⟩:=ty_read (c1:=c0) (c2:=c1) (c3:=c2) q0
    obtain ⟨tr,b0,b1,b2,bT,bW⟩:=ty_read (c1:=c3) (c2:=c4) (c3:=c5) q1
    obtain ⟨sp,s0,s1⟩:=span_read (c1:=c6) (c2:=c7) q2
    subst a0 a1 a2 b0 b1 b2 s0 s1
    refine ⟨(tl,tr,sp),⟨?_,?_,?_,?_,?_,?_,?_,?_⟩,⟨aT,bT⟩,aW,bW⟩
    ·have:=hat 0 (by omega)
     simpa [Addr.add] using this
    ·exact hat 1 (by omega)
    ·exact hat 2 (by omega)
    ·exact hat 3 (by omega)
    ·exact hat 4 (by omega)
    ·exact hat 5 (by omega)
    ·exact hat 6 (by omega)
    ·exact hat 7 (by omega)
  by_cases h0:len=0
  ·subst h0
   exact ⟨[],⟨_,_,rfl,fun h=>by simp at h,fun x hx=>by cases hx⟩,fun x hx=>by cases hx⟩
  ·obtain ⟨b,off,spot⟩:=a
   obtain ⟨t0,⟨hc0,_⟩,_⟩:=key 0 (by omega)
   have hspot:spot=none:=by simpa [Addr.add] using World.cell?_spot hc0
   subst hspot
   have hb:b<W.heap.size:=by simpa [Addr.add] using World.block_lt_of_cell? _ _ hc0
   obtain ⟨ts,htl,hP⟩:=listOf _ len key
   subst htl
   simp only [Addr.add_lit] at hP
   refine ⟨ts,⟨_,_,rfl,fun _=>⟨b,off,rfl,hb,hl,hm,fun i hi=>(hP i hi).1⟩,fun x hx=>?_⟩,fun x hx=>?_⟩
   ·obtain ⟨i,hi,rfl⟩:=List.mem_iff_getElem.1 hx
    exact (hP i hi).2.1
   ·obtain ⟨i,hi,rfl⟩:=List.mem_iff_getElem.1 hx
    exact (hP i hi).2.2
def ArgE (W:World) (v:Value) (l:List Eqn):Prop:=EqV W.heap.size W l v∧EqW l
theorem ArgE_open {H:Type}{enc:TypeId×Value→H}{W:World}{r:Reach}{b0:Nat}{v:Value}{d:DataW H}{p:List MemPlace}(hval:Value.okWide Tryz.prog W r b0 22 v)
  (h:DataW.Trod enc Tryz.prog W 0 (fun _=>true) true 22 v d p):∃l,ArgE W v l:=by
 obtain ⟨a0,len,cap,rfl⟩:=okWide_slice Tryz.underlying22 hval
 obtain ⟨fuel,hf⟩:=h
 exact eqs_read fuel _ _ hf
end
section
open Go.RowKit
set_option maxHeartbeats 1000000 in
set_option maxRecDepth 100000 in
theorem room12 (deep:Nat):∀(f:Fo) (k n0:Int) (v:Value) (n:Nat) (w:World),deep≤40→n≤300→TyV w.heap.size w f v→
  Calls Tryz.prog 97 #[tyVal k n0 v,.int .i64 n,.int .i64 deep] w fun e w'=>∃r,e = .returned (.int .i64 r)∧Below w.heap.size w w'∧RoomIs n deep f r:=by
 induction deep with
 | zero=>
  intro f k n0 v n w hd hn h
  obtain ⟨A,c,rfl⟩:=h.slice
  clear h
  unfold tyVal
  go_enter Tryz.func97,Tryz.ntmps97
  go_wp2_with fail
  go_ret
  exact ⟨_,rfl,(Below.refl _ _).alloc (Nat.le_refl _) _,RoomIs.zero n f⟩
 | succ deep ih=>
  intro f k n0 v n w hd hn h
  obtain ⟨A,c,rfl⟩:=h.slice
  have H:=kI h
  have IH:=kI ih
  have hml:f.len≤maxLen:=by
   rcases Nat.eq_zero_or_pos f.len with h0|h0
   ·omega
   ·obtain ⟨_,_,cap,_,h1,h2,_⟩:=h.form h0
    exact Nat.le_trans h1 h2
  replace hml:f.len≤9223372036854775807:=by unfold maxLen at hml;omega
  clear h ih
  rw [show (((deep+1:Nat)):Int)=(deep:Int)+1 from by omega]
  unfold tyVal
  go_enter Tryz.func97,Tryz.ntmps97
  have HB0:=kI (show ∀(cs:Array Value) (t:TypeId),Below w.heap.size w (w.alloc (Obj.cells cs t)) from fun cs t=>(Below.refl _ w).alloc (Nat.le_refl _) _)
  have f1:((deep:Int)+1 == 0)=false:=beq_eq_false_iff_ne.2 (by omega)
  go_wp2_with fail
  go_loopw [1,7] (fun t1 t7 wr=>∃(j:Nat) (r:Int),j≤f.len∧t7 = .int .i64 j∧t1 = .int .i64 r∧RoomIs n (deep+1) (f.take j) r∧wr.cell? ⟨w.heap.size,2,none⟩=some (.slice A f.len c)∧Below w.heap.size w wr∧w.heap.size+1≤wr.heap.size) (fun _ t _=>f.len-(intOf t).toNat)
  case atStart=>
   refine ⟨0,(n:Int)-1,Nat.zero_le _,rfl,by go_num,?_,by go_simp,HB0.out _ _,by simp⟩
   unfold RoomIs
   simp only [Fo.take_zero,Fo.size,Fo.depth]
   omega
  case round=>
   obtain ⟨j,r,hj,rfl,rfl,hr,e2,hb,hz⟩:=hrel
   have HB:=kI hb
   have HR:=kI hr
   have hr0:-1≤r∧r≤n:=⟨hr.1,hr.2.1⟩
   clear hb hr
   by_cases hjl:j<f.len
   ·by_cases hr1:0≤r
    ·obtain ⟨rn,rfl⟩:=Int.eq_ofNat_of_zero_le hr1
     obtain ⟨b,off,cap,hv,_,_,hlt,hC⟩:=H.out.form (by omega)
     injection hv with hA _ hcc
     subst hA;subst hcc
     obtain ⟨d0,d1,d2,hch⟩:=tyC_at hC j hjl
     have c0:=(HB.out.cell (p:=⟨b,off+j*3,none⟩) hlt).trans d0
     have c1:=(HB.out.cell (p:=⟨b,off+j*3+1,none⟩) hlt).trans d1
     have c2:=(HB.out.cell (p:=⟨b,off+j*3+2,none⟩) hlt).trans d2
     have hch':TyV wr.heap.size wr (f.at_ j).2.2.2 (slv (f.at_ j).2.2.1):=hch.keep HB.out.size fun b off hb'=>HB.out.cell (p:=⟨b,off,none⟩) hb'
     have HST:=kI (f.size_take_step j hjl)
     have HDT:=kI (f.depth_take_step j hjl)
     have hrec:=IH.out (f.at_ j).2.2.2 (f.at_ j).1 (f.at_ j).2.1 (slv (f.at_ j).2.2.1) rn wr (by omega) (by omega) hch'
     clear d0 d1 d2 hC hch hch'
     unfold tyVal at hrec
     generalize f.at_ j=p at *
     obtain ⟨pk,pn,pv,pf⟩:=p
     dsimp only [slv] at hrec c0 c1 c2
     have HREC:=kI hrec
     clear hrec
     have f2:decide ((0:Int)≤rn)=true:=decide_eq_true hr1
     go_wp2_with fail
     refine HREC.out.mono ?_
     rintro e w2 ⟨r2,rfl,hb3,hr2⟩
     have e2':=(hb3.cell (p:=⟨w.heap.size,2,none⟩) (by show w.heap.size<wr.heap.size;omega)).trans e2
     have HB3:=kI hb3
     have HR2:=kI hr2
     clear hb3 hr2
     go_wp2_with fail
     go_roundw
     case rel=>
      refine ⟨j+1,r2,by omega,by go_num,rfl,?_,e2',HB.out.trans (HB3.out.mono (by omega)),Nat.le_trans hz HB3.out.size⟩
      have h1:=HR.out
      have h2:=HR2.out
      have h3:=HST.out
      have h4:=HDT.out
      unfold RoomIs at h1 h2 ⊢
      omega
     case measure=>simp [intOf];omega
    ·have f2:decide ((0:Int)≤r)=false:=decide_eq_false hr1
     have HTL:=kI (f.size_take_le j)
     have HDL:=kI (f.depth_take_le j)
     go_wp2_with fail
     go_ret
     refine ⟨_,rfl,HB.out,?_⟩
     have h1:=HR.out
     have h3:=HTL.out
     have h4:=HDL.out
     unfold RoomIs at h1 ⊢
     omega
   ·obtain rfl:j=f.len:=by omega
    have HT:Hid (f.take f.len=f):=kI f.take_len
    go_wp2_with fail
    go_ret
    refine ⟨_,rfl,HB.out,?_⟩
    have h1:=HR.out
    rwa [HT.out] at h1
set_option maxHeartbeats 1000000 in
theorem big12 (f:Fo) (k n0:Int) (v:Value) (w:World) (h:TyV w.heap.size w f v):
  Calls Tryz.prog 64 #[tyVal k n0 v] w fun e w'=>e = .returned (.bool (!(decide (1+f.size≤100) && decide (1+f.depth≤30))))∧Below w.heap.size w w':=by
 obtain ⟨A,c,rfl⟩:=h.slice
 obtain ⟨w1,hw1⟩:∃w1,w.alloc (Obj.cells #[.int .i64 k,.int .i64 n0,.slice A f.len c] 25)=w1:=⟨_,rfl⟩
 have hb1:Below w.heap.size w w1:=by rw [←hw1];exact (Below.refl _ _).alloc (Nat.le_refl _) _
 have hs1:=hb1.size
 have hc:=room12 30 f k n0 (.slice A f.len c) 100 w1 (by omega) (by omega) (h.keep hs1 fun b off hb'=>hb1.cell (p:=⟨b,off,none⟩) hb')
 rw [←hw1] at hc
 have HC:=kI hc
 have HB1:=kI hb1
 have HW1:=kI hw1
 clear h hc hs1 hb1 hw1
 unfold tyVal at HC ⊢
 go_enter Tryz.func64,Tryz.ntmps64
 go_wp2_with fail
 refine HC.out.mono ?_
 rintro e w' ⟨r,rfl,hb,hr⟩
 have hd:decide (r<0) = !(decide (1+f.size≤100) && decide (1+f.depth≤30)):=by
  unfold RoomIs at hr
  by_cases h1:r<0
  ·have:¬ (1+f.size≤100∧1+f.depth≤30):=by omega
   rw [decide_eq_true h1]
   simp only [←Bool.decide_and,decide_eq_false this]
   rfl
  ·have:1+f.size≤100∧1+f.depth≤30:=by omega
   rw [decide_eq_false h1]
   simp only [←Bool.decide_and,decide_eq_true this]
   rfl
 have HD:=kI hd
 rw [HW1.out] at hb
 have HB:=kI (show Below w.heap.size w w' from HB1.out.trans (hb.mono HB1.out.size))
 clear hd hr hb
 go_wp2_with fail
 go_ret
 exact ⟨ret_bool HD.out,HB.out⟩
end
section
open Go.RowKit
set_option maxRecDepth 100000
def sz1 (x:Eqn):Nat:=(1+x.1.2.2.2.size)+(1+x.2.1.2.2.2.size)
def esz (l:List Eqn):Nat:=(l.map sz1).sum
def big1 (x:Eqn):Prop:=1+x.1.2.2.2.size≤100∧1+x.2.1.2.2.2.size≤100
theorem esz_step (l:List Eqn) (j:Nat) (hj:j<l.length):esz (l.take (j+1))=esz (l.take j)+sz1 l[j]:=by
 unfold esz
 rw [List.take_add_one,List.getElem?_eq_getElem hj,List.map_append,List.sum_append]
 simp
theorem sz1_le (x:Eqn) (h:big1 x):sz1 x≤200:=by unfold big1 at h;unfold sz1;omega
theorem esz_le (l:List Eqn) (h:∀x∈l,big1 x):esz l≤200*l.length:=by
 induction l with
 | nil=>simp [esz]
 | cons x l ih=>
  have h1:=sz1_le x (h x List.mem_cons_self)
  have h2:=ih fun y hy=>h y (List.mem_cons_of_mem _ hy)
  simp only [esz,List.map_cons,List.sum_cons,List.length_cons] at h2 ⊢
  omega
theorem EqV.here {w W:World}{l:List Eqn}{A:Option Addr}{c:Nat}(h:EqV w.heap.size w l (.slice A l.length c)) (hb:Below w.heap.size w W) (j:Nat) (hj:j<l.length):∃b off,A=some ⟨b,off,none⟩∧EqAt W b (off+j*8) l[j]∧EqT W.heap.size W l[j]:=by
 obtain ⟨b,off,hA,_,hat⟩:=(h.later hb).at j hj
 exact ⟨b,off,hA,hat,(h.later hb).ty j hj⟩
set_option maxHeartbeats 4000000 in
theorem great12_any (w:World) (l:List Eqn) (v:Value) (h:EqV w.heap.size w l v) (hm:l.length≤9223372036854775807):
  Calls Tryz.prog 32 #[v] w fun e w'=>∃b,e = .returned (.bool b)∧(b=false→l.length≤20∧esz l≤160)∧Below w.heap.size w w':=by
 obtain ⟨A,c,rfl⟩:=h.form
 have H:=kI h
 clear h
 go_enter Tryz.func32,Tryz.ntmps32
 go_wp2_with fail
 go_loopw [3,4] (fun s t wr=>∃j:Nat,t = .int .i64 (j:Nat)∧j≤l.length∧j≤30∧s = .int .i64 (esz (l.take j):Nat)∧(∀x∈l.take j,big1 x)∧Below w.heap.size w wr) (fun _ t _=>l.length-(intOf t).toNat)
 case atStart=>exact ⟨0,rfl,Nat.zero_le _,by omega,rfl,fun x hx=>by simp at hx,Below.refl _ _⟩
 case round=>
  obtain ⟨j,rfl,hj,hj30,rfl,hbig,hb⟩:=hrel
  have hes:=esz_le _ hbig
  obtain ⟨s,hs⟩:∃s,esz (l.take j)=s:=⟨_,rfl⟩
  rw [hs] at hes ⊢
  have hs6:s≤6000:=by rw [List.length_take] at hes;omega
  have HB:=kI (aI hb (aI hbig hs))
  clear hb hbig hs hes
  by_cases hjl:j<l.length
  ·have f1:decide ((j:Int)<(l.length:Int))=true:=decide_eq_true (by omega)
   by_cases hj3:j<30
   ·have f2:decide ((j:Int)<30)=true:=decide_eq_true (by omega)
    obtain ⟨b,off,rfl,hat,hty⟩:=H.out.here HB.out.1 j hjl
    obtain ⟨x,hx⟩:∃x,l[j]=x:=⟨_,rfl⟩
    rw [hx] at hat hty
    obtain ⟨⟨k0,n0,⟨u1,u2,u3⟩,F⟩,⟨k1,n1,⟨v1,v2,v3⟩,F'⟩,a0,a1⟩:=x
    obtain ⟨x0,x1,x2,x3,x4,x5,_,_⟩:=hat
    have hbg:=big12 F k0 n0 _ wr hty.1
    obtain ⟨g1,hg1⟩:∃z,(!(decide (1+F.size≤100) && decide (1+F.depth≤30)))=z:=⟨_,rfl⟩
    rw [hg1] at hbg
    have HBG:=kI hbg
    have HX:=kI (aI hx (aI hty hg1))
    dsimp only [slv,tyVal] at x0 x1 x2 x3 x4 x5 HBG
    have x4':wr.cell? ⟨b,off+j*8+3+1,none⟩=some (.int .i64 n1):=x4
    have x5':wr.cell? ⟨b,off+j*8+3+2,none⟩=some (.slice v1 v2 v3):=x5
    clear hx hty hg1 hbg
    go_wp2_with fail
    refine HBG.out.mono ?_
    rintro e w2 ⟨rfl,hb2⟩
    have hb2':Below w.heap.size w w2:=HB.out.1.trans (hb2.mono HB.out.1.size)
    have HB2:=kI hb2'
    clear HBG
    cases g1 with
    | true=>
     clear hb2 hb2' x0 x1 x2 x3 x4 x5 x4' x5'
     go_wp2_with fail
     exact bodyPost_ret (results_tmp rfl _ _ _) rfl ⟨true,rfl,(fun e=>by cases e),HB2.out⟩
    | false=>
     obtain ⟨_,_,e1,hat2,hty2⟩:=H.out.here hb2' j hjl
     cases e1
     rw [HX.out.1] at hat2 hty2
     obtain ⟨y0,y1,y2,y3,y4,y5,_,_⟩:=hat2
     have hbg:=big12 F' k1 n1 _ w2 hty2.2
     obtain ⟨g2,hg2⟩:∃z,(!(decide (1+F'.size≤100) && decide (1+F'.depth≤30)))=z:=⟨_,rfl⟩
     rw [hg2] at hbg
     have HBG:=kI hbg
     have HX2:=kI (aI hty2 hg2)
     dsimp only [slv,tyVal] at y0 y1 y2 y3 y4 y5 HBG
     have y4':w2.cell? ⟨b,off+j*8+3+1,none⟩=some (.int .i64 n1):=y4
     have y5':w2.cell? ⟨b,off+j*8+3+2,none⟩=some (.slice v1 v2 v3):=y5
     clear hty2 hg2 hbg x0 x1 x2 x3 x4 x5 x4' x5' hb2 hb2'
     go_wp2_with fail
     refine HBG.out.mono ?_
     rintro e w3 ⟨rfl,hb3⟩
     have hb3':Below w.heap.size w w3:=HB2.out.trans (hb3.mono HB2.out.size)
     have HB3:=kI hb3'
     clear HBG y0 y1 y2 y3 y4 y5 y4' y5' hb3
     cases g2 with
     | true=>
      clear hb3'
      go_wp2_with fail
      exact bodyPost_ret (results_tmp rfl _ _ _) rfl ⟨true,rfl,(fun e=>by cases e),HB3.out⟩
     | false=>
      have hF:1+F.size≤100∧1+F'.size≤100:=by
       have h1:=HX.out.2.2
       have h2:=HX2.out.2
       simp only [Bool.not_eq_false',Bool.and_eq_true,decide_eq_true_eq] at h1 h2
       exact ⟨h1.1,h2.1⟩
      obtain ⟨_,_,e1,hat3,hty3⟩:=H.out.here hb3' j hjl
      cases e1
      rw [HX.out.1] at hat3 hty3
      obtain ⟨z0,z1,z2,z3,z4,z5,_,_⟩:=hat3
      dsimp only [slv] at z0 z1 z2 z3 z4 z5
      obtain ⟨S0,hSof,hSto⟩:∃S0:World→Prop,(∀W:World,Below w3.heap.size w3 W→S0 W)∧(∀W,S0 W→(W.cell? ⟨b,off+j*8,none⟩=some (.int .i64 k0)∧W.cell? ⟨b,off+j*8+1,none⟩=some (.int .i64 n0)∧W.cell? ⟨b,off+j*8+2,none⟩=some (.slice u1 u2 u3))∧W.cell? ⟨b,off+j*8+3,none⟩=some (.int .i64 k1)∧W.cell? ⟨b,off+j*8+3+1,none⟩=some (.int .i64 n1)∧W.cell? ⟨b,off+j*8+3+2,none⟩=some (.slice v1 v2 v3)):=
       ⟨fun W=>Below w3.heap.size w3 W,fun _ h=>h,fun W hb=>
        have c:∀(o:Nat) (u:Value),w3.cell? ⟨b,o,none⟩=some u→W.cell? ⟨b,o,none⟩=some u:=fun o u h=>(hb.cell (World.block_lt_of_cell? _ _ h)).trans h
        ⟨⟨c _ _ z0,c _ _ z1,c _ _ z2⟩,c _ _ z3,c _ _ z4,c _ _ z5⟩⟩
      have hd3:Below w3.heap.size w3 w3.drew:=(Below.refl _ _).drew
      have hS:S0 w3.drew:=hSof _ hd3
      have HS1:=rsize_any (F.size+1) F k0 n0 (slv (u1,u2,u3)) w3.drew (by omega) (by omega) (hty3.1.onward hd3)
      have HTY:=kI hty3
      have EX:=kI hSto
      have HSOF:=kI hSof
      have HSH:=kI HS1
      obtain ⟨p,hp⟩:∃z,F.size=z:=⟨_,rfl⟩
      obtain ⟨q,hq⟩:∃z,F'.size=z:=⟨_,rfl⟩
      have HPQ:=kI (aI hp hq)
      rw [hp] at HSH
      have hpq:p≤99∧q≤99:=by omega
      dsimp only [tyVal,slv] at HSH
      clear hSof hSto HS1 z0 z1 z2 z3 z4 z5 hb3' hty3 hp hq hF
      have hd3':=kI hd3
      have hw1:IntKind.i64.wrap ((s:Int)+(1+(p:Int)))=(s:Int)+(1+(p:Int)):=wrap_small _ (by omega) (by omega)
      have hw2:IntKind.i64.wrap ((s:Int)+(1+(p:Int))+(1+(q:Int)))=(s:Int)+(1+(p:Int))+(1+(q:Int)):=wrap_small _ (by omega) (by omega)
      clear hd3
      go_wp2_with fail
      refine wp_region_held (S:=S0) (by kernel_rfl) ?_
      change wpAnyH _ _ _ _ _ 16 (List.replicate 16 false).toArray _ w3.drew
      simp only [List.replicate_succ,List.replicate_zero]
      refine tj (i:=0) (some 29) (.int .i64 (s:Nat)) rfl hS ?_
      simp only [Act.put,zA,zB,zC]
      refine tj (i:=1) (some 30) (.slice (some ⟨b,off,none⟩) l.length c) rfl hS ?_
      simp only [Act.put,zA,zB,zC]
      refine tj (i:=2) (some 31) (.int .i64 (j:Nat)) rfl hS ?_
      simp only [Act.put,zA,zB,zC]
      refine tj (i:=3) (some 32) (.pointer (some ⟨b,off+j*8,none⟩)) rfl hS ?_
      simp only [Act.put,zA,zB,zC]
      refine tj (i:=4) (some 33) (.pointer (some ⟨b,off+j*8,none⟩)) rfl hS ?_
      simp only [Act.put,zA,zB,zC]
      refine tk (i:=5) (some 34) (.agg #[.int .i64 k0,.int .i64 n0,.slice u1 u2 u3]) rfl (fun W hw=>by obtain ⟨⟨n0_,n1_,n2_⟩,m0_,m1_,m2_⟩:=EX.out W hw;clear hw;go_simp) hS ?_
      simp only [Act.put,zA,zB,zC]
      refine tj (i:=8) (some 37) (.slice (some ⟨b,off,none⟩) l.length c) rfl hS ?_
      simp only [Act.put,zA,zB,zC]
      refine tj (i:=9) (some 38) (.int .i64 (j:Nat)) rfl hS ?_
      simp only [Act.put,zA,zB,zC]
      refine tj (i:=10) (some 39) (.pointer (some ⟨b,off+j*8,none⟩)) rfl hS ?_
      simp only [Act.put,zA,zB,zC]
      refine tj (i:=11) (some 40) (.pointer (some ⟨b,off+j*8+3,none⟩)) rfl hS ?_
      simp only [Act.put,zA,zB,zC]
      refine tk (i:=12) (some 41) (.agg #[.int .i64 k1,.int .i64 n1,.slice v1 v2 v3]) rfl (fun W hw=>by obtain ⟨⟨n0_,n1_,n2_⟩,m0_,m1_,m2_⟩:=EX.out W hw;clear hw;go_simp) hS ?_
      simp only [Act.put,zA,zB,zC]
      refine aK 6 ?_
      refine ops_call (d:=some 35) rfl (by rfl) (by kernel_rfl) (by go_simp) (HSH.out.mono ?_)
      rintro e w4 ⟨rfl,hb4⟩
      have hb4:=hd3'.out.trans hb4
      have hS4:=HSOF.out w4 hb4
      have HS2:=rsize_any (F'.size+1) F' k1 n1 (slv (v1,v2,v3)) w4 (by omega) (by have:=HPQ.out;omega) (HTY.out.2.onward hb4)
      rw [HPQ.out.2] at HS2
      dsimp only [tyVal,slv] at HS2
      have HB4:=kI hb4
      have HSH2:=kI HS2
      clear HS2 hb4
      refine ⟨_,rfl,hS4,?_⟩
      simp only [Act.put,zA,zB,zC]
      refine tj (i:=7) (some 36) (.int .i64 ((s:Int)+(1+(p:Int)))) rfl hS4 ?_
      simp only [Act.put,zA,zB,zC]
      refine aK 13 ?_
      refine ops_call (d:=some 42) rfl (by rfl) (by kernel_rfl) (by go_simp) (HSH2.out.mono ?_)
      rintro e w5 ⟨rfl,hb5⟩
      have hb5:=HB4.out.trans (hb5.mono HB4.out.size)
      have hS5:=HSOF.out w5 hb5
      have HB5:=kI hb5
      clear hb5
      refine ⟨_,rfl,hS5,?_⟩
      simp only [Act.put,zA,zB,zC]
      refine tj (i:=14) (some 43) (.int .i64 ((s:Int)+(1+(p:Int))+(1+(q:Int)))) rfl hS5 ?_
      simp only [Act.put,zA,zB,zC]
      refine tj (i:=15) (some 3) (.int .i64 ((s:Int)+(1+(p:Int))+(1+(q:Int)))) rfl hS5 ?_
      simp only [Act.put,zA,zB,zC]
      refine wpAnyH_done (by kernel_rfl) ?_ _
      clear hS hS4 hS5 HSH HSH2 EX HSOF
      go_wp2_with fail
      have hst:=esz_step l j hjl
      rw [HX.out.1] at hst
      have h3:=HB.out.2.2
      have hp:=HPQ.out
      refine ⟨⟨j+1,congrArg (Value.int .i64) (by omega),by omega,by omega,congrArg (Value.int .i64) ?_,fun x hx=>?_,HB3.out.trans (HB5.out.mono HB3.out.size)⟩,?_⟩
      ·rw [hst,h3]
       simp only [sz1]
       omega
      ·rw [List.take_add_one,List.getElem?_eq_getElem hjl] at hx
       rcases List.mem_append.1 hx with hx|hx
       ·exact HB.out.2.1 x hx
       ·simp only [Option.toList_some,List.mem_singleton] at hx
        rw [hx,HX.out.1]
        exact ⟨by show 1+F.size≤100;omega,by show 1+F'.size≤100;omega⟩
      ·show l.length-(intOf (.int .i64 ((j:Int)+1))).toNat<l.length-(intOf (.int .i64 (j:Nat))).toNat
       simp only [intOf]
       omega
   ·have f2:decide ((j:Int)<30)=false:=decide_eq_false (by omega)
    by_cases g1:20<l.length
    ·have f3:decide ((20:Int)<(l.length:Int))=true:=decide_eq_true (by omega)
     go_wp2_with fail
     exact bodyPost_ret (results_tmp rfl _ _ _) rfl ⟨true,rfl,(fun e=>by cases e),HB.out.1⟩
    ·have f3:decide ((20:Int)<(l.length:Int))=false:=decide_eq_false (by omega)
     have hjj:j=l.length:=by omega
     by_cases g2:160<s
     ·have f4:decide ((160:Int)<(s:Int))=true:=decide_eq_true (by omega)
      go_wp2_with fail
      exact bodyPost_ret (results_tmp rfl _ _ _) rfl ⟨true,rfl,(fun e=>by cases e),HB.out.1⟩
     ·have f4:decide ((160:Int)<(s:Int))=false:=decide_eq_false (by omega)
      go_wp2_with fail
      refine bodyPost_ret (results_tmp rfl _ _ _) rfl ⟨false,rfl,fun _=>⟨by omega,?_⟩,HB.out.1⟩
      have h3:=HB.out.2.2
      rw [hjj,List.take_length] at h3
      omega
  ·have f1:decide ((j:Int)<(l.length:Int))=false:=decide_eq_false (by omega)
   by_cases g1:20<l.length
   ·have f3:decide ((20:Int)<(l.length:Int))=true:=decide_eq_true (by omega)
    go_wp2_with fail
    exact bodyPost_ret (results_tmp rfl _ _ _) rfl ⟨true,rfl,(fun e=>by cases e),HB.out.1⟩
   ·have f3:decide ((20:Int)<(l.length:Int))=false:=decide_eq_false (by omega)
    have hjj:j=l.length:=by omega
    by_cases g2:160<s
    ·have f4:decide ((160:Int)<(s:Int))=true:=decide_eq_true (by omega)
     go_wp2_with fail
     exact bodyPost_ret (results_tmp rfl _ _ _) rfl ⟨true,rfl,(fun e=>by cases e),HB.out.1⟩
    ·have f4:decide ((160:Int)<(s:Int))=false:=decide_eq_false (by omega)
     go_wp2_with fail
     refine bodyPost_ret (results_tmp rfl _ _ _) rfl ⟨false,rfl,fun _=>⟨by omega,?_⟩,HB.out.1⟩
     have h3:=HB.out.2.2
     rw [hjj,List.take_length] at h3
     omega
end
section
open Go.RowKit
set_option maxRecDepth 100000
attribute [local go_sem] Oper.semAt_some
attribute [local go_sem ↓] builtin_app
def rt1 (t:Ty1):Bool:=alone t.1 t.2.1 t.2.2.2.len && allAlone t.2.2.2.pre
def rtE (x:Eqn):Bool:=rt1 x.1 && rt1 x.2.1
def rights (l:List Eqn):List Eqn:=l.filter rtE
theorem rights_step (l:List Eqn) (j:Nat) (hj:j<l.length):rights (l.take (j+1))=rights (l.take j)++if rtE l[j]=true then [l[j]] else []:=by
 unfold rights
 rw [List.take_add_one,List.getElem?_eq_getElem hj,List.filter_append]
 congr 1
 simp only [Option.toList_some,List.filter_cons,List.filter_nil]
theorem rights_len (l:List Eqn):(rights l).length≤l.length:=List.length_filter_le _ _
def eqR (l:List Eqn):List Value:=l.flatMap eqC
theorem eqR_len (l:List Eqn):(eqR l).length=l.length*8:=by
 induction l with
 | nil=>rfl
 | cons x l ih=>
  unfold eqR at ih ⊢
  rw [List.flatMap_cons,List.length_append,ih,List.length_cons,Nat.succ_mul]
  simp only [eqC,List.length_cons,List.length_nil]
  omega
theorem eqR_app (l m:List Eqn):eqR (l++m)=eqR l++eqR m:=by simp [eqR]
theorem eqR_get {l:List Eqn}{i:Nat}(hi:i<l.length) (o:Nat) (ho:o<8):(eqR l)[i*8+o]? = (eqC l[i])[o]?:=by
 induction l generalizing i with
 | nil=>simp at hi
 | cons x l ih=>
  have e:eqR (x :: l)=eqC x++eqR l:=by simp [eqR]
  rw [e]
  have hx:(eqC x).length=8:=rfl
  cases i with
  | zero=>
   rw [List.getElem?_append_left (by omega)]
   simp
  | succ i=>
   rw [List.getElem?_append_right (by omega),hx,show (i+1)*8+o-8=i*8+o by omega]
   simp only [List.length_cons] at hi
   rw [ih (by omega)]
   simp
theorem eqInfo:(Tryz.prog.info? 59).map (fun i=>(i.zero,i.size,i.bytes))=some (some (.agg #[.int .i64 0,.int .i64 0,.slice none 0 0,.int .i64 0,.int .i64 0,.slice none 0 0,.int .i64 0,.int .i64 0]),8,96):=by kernel_rfl
theorem app_eq (W:World) (v:Value) (l:List Eqn) (base:Nat) (hb:base≤W.heap.size) (hown:W.ownsRow base 59 8 v l.length (eqR l)) (x:Eqn) (hm:l.length≤100000):
  ∃g cp w1,(app_ #[22,22] 22 #[v,.slice (some ⟨W.heap.size,0,none⟩) 1 1]).run Tryz.prog (W.alloc (.cells (eqC x).toArray 59)) = .ok (.slice (some ⟨g,0,none⟩) (l.length+1) cp) w1∧
   w1.ownsRow base 59 8 (.slice (some ⟨g,0,none⟩) (l.length+1) cp) (l ++ [x]).length (eqR (l ++ [x]))∧(W.alloc (.cells (eqC x).toArray 59)).grownBy w1 v.ownBlock:=by
 obtain ⟨i0,hi0,hz0,hz1,hz2⟩:=Un.info_parts eqInfo
 have rd1:Rd (W.alloc (.cells (eqC x).toArray 59)) 8 (.slice (some ⟨W.heap.size,0,none⟩) 1 1) 1 (eqC x):=rd_new W (eqC x) 59 8 1 rfl (by unfold maxLen;omega)
 obtain ⟨v',w1,hrun,hown1,hg1,hat⟩:=run_append_rd (P:=Tryz.prog) _ base 22 22 59 i0 _ 8 96 Tryz.underlying22 hi0 hz0 hz1 hz2 rfl (by omega) v l.length (eqR l) (hown.alloc _) _ 1 _ rd1 (by intro y hy;simp only [eqC,slv,List.mem_cons,List.not_mem_nil,or_false] at hy;rcases hy with rfl|rfl|rfl|rfl|rfl|rfl|rfl|rfl<;>rfl) (by unfold maxLen;omega) (by omega) (by simp;omega)
 obtain ⟨g,cp,rfl,_,_⟩:=Un.own_shape hown1 (by omega)
 refine ⟨g,cp,w1,hrun,?_,hg1⟩
 rw [eqR_app,List.length_append]
 exact hown1
theorem EqV.of_own {w:World}{l:List Eqn}{v:Value}{B:Nat}(h:w.ownsRow B 59 8 v l.length (eqR l)) (ht:∀x∈l,EqT w.heap.size w x):EqV w.heap.size w l v:=by
 by_cases h0:0<l.length
 ·obtain ⟨g,c,rfl,hc,hg⟩:=Un.own_shape h h0
  obtain ⟨_,_,e,_,hcm⟩:=Un.own_form h
  cases e
  refine ⟨_,_,rfl,fun _=>⟨g,0,rfl,hg,hc,hcm,fun i hi=>?_⟩,ht⟩
  have hl:=eqR_len l
  have hc8:(eqC l[i]).length=8:=rfl
  have k:∀o,(ho:o<8)→w.cell? ⟨g,0+i*8+o,none⟩=(eqC l[i])[o]?:=fun o ho=>by
   rw [Nat.zero_add,h.cellAt (i*8+o) (by omega)]
   exact eqR_get hi o ho
  exact ⟨k 0 (by omega),k 1 (by omega),k 2 (by omega),k 3 (by omega),k 4 (by omega),k 5 (by omega),k 6 (by omega),k 7 (by omega)⟩
 ·have:l=[]:=List.eq_nil_of_length_eq_zero (by omega)
  subst this
  obtain ⟨A,c,rfl,_,_⟩:=Un.own_form h
  exact ⟨A,c,rfl,fun h=>absurd h h0,ht⟩
theorem size_of_esz {l:List Eqn}{x:Eqn}(hx:x∈l):x.1.2.2.2.size≤esz l∧x.2.1.2.2.2.size≤esz l:=by
 induction l with
 | nil=>cases hx
 | cons y l ih=>
  have e:esz (y :: l)=sz1 y+esz l:=by simp [esz]
  rcases List.mem_cons.1 hx with rfl|hx
  ·rw [e];unfold sz1;omega
  ·have:=ih hx
   rw [e];omega
set_option maxHeartbeats 4000000 in
theorem rights12_any (w:World) (l:List Eqn) (v:Value) (h:EqV w.heap.size w l v) (hl:l.length≤20) (hs:esz l≤160):
  Calls Tryz.prog 29 #[v] w fun e w'=>∃v',e = .returned v'∧EqV w'.heap.size w' (rights l) v'∧Below w.heap.size w w':=by
 obtain ⟨A,c,rfl⟩:=h.form
 have H:=kI h
 clear h
 go_enter Tryz.func29,Tryz.ntmps29
 go_wp2_with fail
 go_loopw [3,4] (fun s t wr=>∃(j:Nat),t = .int .i64 (j:Nat)∧j≤l.length∧wr.ownsRow w.heap.size 59 8 s (rights (l.take j)).length (eqR (rights (l.take j)))∧Below w.heap.size w wr) (fun _ t _=>l.length-(intOf t).toNat)
 case atStart=>exact ⟨0,rfl,Nat.zero_le _,World.ownsRow_nil _ _ _ _,Below.refl _ _⟩
 case round=>
  obtain ⟨j,rfl,hj,hown,hb⟩:=hrel
  obtain ⟨A',c',rfl,_,_⟩:=Un.own_form hown
  have hrl:(rights (l.take j)).length≤20:=by have:=rights_len (l.take j);rw [List.length_take] at this;omega
  obtain ⟨m,hm⟩:∃m,(rights (l.take j)).length=m:=⟨_,rfl⟩
  have HB:=kI (aI hb (aI hown hm))
  rw [hm] at hrl ⊢
  clear hb hown hm
  by_cases hjl:j<l.length
  ·have f1:decide ((j:Int)<(l.length:Int))=true:=decide_eq_true (by omega)
   obtain ⟨b,off,rfl,hat,hty⟩:=H.out.here HB.out.1 j hjl
   have hsz:=size_of_esz (List.getElem_mem hjl)
   obtain ⟨x,hx⟩:∃x,l[j]=x:=⟨_,rfl⟩
   rw [hx] at hat hty hsz
   obtain ⟨⟨k0,n0,⟨u1,u2,u3⟩,F⟩,⟨k1,n1,⟨v1,v2,v3⟩,F'⟩,a0,a1⟩:=x
   obtain ⟨x0,x1,x2,x3,x4,x5,_,_⟩:=hat
   have hR:=rright_any (F.size+1) F k0 n0 (slv (u1,u2,u3)) wr (by omega) (by have h9:F.size≤esz l:=hsz.1;omega) hty.1
   obtain ⟨r1,hr1⟩:∃z,(alone k0 n0 F.len && allAlone F.pre)=z:=⟨_,rfl⟩
   rw [hr1] at hR
   have HR:=kI hR
   have HX:=kI (aI hx (aI hsz hr1))
   dsimp only [slv,tyVal] at x0 x1 x2 x3 x4 x5 HR
   clear hx hsz hr1 hR hty x3 x4 x5
   go_wp2_with fail
   refine HR.out.mono ?_
   rintro e w2 ⟨rfl,hb2⟩
   have hb2':Below w.heap.size w w2:=HB.out.1.trans (hb2.mono HB.out.1.size)
   have hown2:=own_below HB.out.2.1 hb2
   have HB2:=kI (aI hb2' hown2)
   clear HR x0 x1 x2 hown2
   cases r1 with
   | false=>
    have hrt:rtE l[j]=false:=by rw [HX.out.1];show (rt1 _ && rt1 _)=false;rw [show rt1 (k0,n0,(u1,u2,u3),F)=false from HX.out.2.2];rfl
    clear hb2 hb2'
    go_wp2_with fail
    have hst:=rights_step l j hjl
    rw [hrt,if_neg (by decide),List.append_nil] at hst
    refine ⟨⟨j+1,congrArg (Value.int .i64) (by omega),by omega,?_,HB2.out.1⟩,?_⟩
    ·rw [hst,←HB.out.2.2]
     exact HB2.out.2
    ·show l.length-(intOf (.int .i64 ((j:Int)+1))).toNat<l.length-(intOf (.int .i64 (j:Nat))).toNat
     simp only [intOf]
     omega
   | true=>
    obtain ⟨_,_,e1,hat2,hty2⟩:=H.out.here hb2' j hjl
    cases e1
    rw [HX.out.1] at hat2 hty2
    obtain ⟨y0,y1,y2,y3,y4,y5,y6,y7⟩:=hat2
    have hR:=rright_any (F'.size+1) F' k1 n1 (slv (v1,v2,v3)) w2 (by omega) (by have h9:F'.size≤esz l:=HX.out.2.1.2;omega) hty2.2
    obtain ⟨r2,hr2⟩:∃z,(alone k1 n1 F'.len && allAlone F'.pre)=z:=⟨_,rfl⟩
    rw [hr2] at hR
    have HR:=kI hR
    have HX2:=kI hr2
    dsimp only [slv,tyVal] at y0 y1 y2 y3 y4 y5 y6 y7 HR
    have y4':w2.cell? ⟨b,off+j*8+3+1,none⟩=some (.int .i64 n1):=y4
    have y5':w2.cell? ⟨b,off+j*8+3+2,none⟩=some (.slice v1 v2 v3):=y5
    clear hty2 hr2 hR hb2 hb2' y0 y1 y2 y6 y7
    go_wp2_with fail
    refine HR.out.mono ?_
    rintro e w3 ⟨rfl,hb3⟩
    have hb3':Below w.heap.size w w3:=HB2.out.1.trans (hb3.mono HB2.out.1.size)
    have hown3:=own_below HB2.out.2 hb3
    have HB3:=kI (aI hb3' hown3)
    clear HR y3 y4 y5 y4' y5' hb3
    cases r2 with
    | false=>
     have hrt:rtE l[j]=false:=by rw [HX.out.1];show (rt1 _ && rt1 _)=false;rw [show rt1 (k1,n1,(v1,v2,v3),F')=false from HX2.out];simp
     clear hb3' hown3
     go_wp2_with fail
     have hst:=rights_step l j hjl
     rw [hrt,if_neg (by decide),List.append_nil] at hst
     refine ⟨⟨j+1,congrArg (Value.int .i64) (by omega),by omega,?_,HB3.out.1⟩,?_⟩
     ·rw [hst,←HB.out.2.2]
      exact HB3.out.2
     ·show l.length-(intOf (.int .i64 ((j:Int)+1))).toNat<l.length-(intOf (.int .i64 (j:Nat))).toNat
      simp only [intOf]
      omega
    | true=>
     have hrt:rtE l[j]=true:=by rw [HX.out.1];show (rt1 _ && rt1 _)=true;rw [show rt1 (k0,n0,(u1,u2,u3),F)=true from HX.out.2.2,show rt1 (k1,n1,(v1,v2,v3),F')=true from HX2.out];rfl
     obtain ⟨_,_,e1,hat3,_⟩:=H.out.here hb3' j hjl
     cases e1
     rw [HX.out.1] at hat3
     obtain ⟨z0,z1,z2,z3,z4,z5,z6,z7⟩:=hat3
     dsimp only [slv] at z0 z1 z2 z3 z4 z5 z6 z7
     rw [HB.out.2.2] at hown3
     obtain ⟨g,cp,w4,hrun,hown4,hgr⟩:=app_eq w3 (.slice A' m c') (rights (l.take j)) w.heap.size hb3'.size (by rw [HB.out.2.2];exact hown3) ((k0,n0,(u1,u2,u3),F),(k1,n1,(v1,v2,v3),F'),a0,a1) (by rw [HB.out.2.2];omega)
     rw [HB.out.2.2] at hrun hown4
     have hrun':(app_ #[22,22] 22 #[.slice A' m c',.slice (some ⟨w3.heap.size,0,none⟩) 1 1]).run Tryz.prog (w3.alloc (.cells #[.int .i64 k0,.int .i64 n0,.slice u1 u2 u3,.int .i64 k1,.int .i64 n1,.slice v1 v2 v3,.int .i64 a0,.int .i64 a1] 59)) = .ok (.slice (some ⟨g,0,none⟩) (m+1) cp) w4:=hrun
     have hb4:Below w.heap.size w w4:=by
      have hE:=((Un.Else.alloc (fun i=>(Value.slice A' m c').ownBlock=some i) w3 _).trans (Un.Else.grown hgr fun i hi=>hi))
      exact hb3'.trans (hE.below (fun i hi=>(hown3.lt i hi).1) hb3'.size)
     have HB4:=kI (aI hb4 hown4)
     clear hrun hown4 hgr hb4 hown3 hb3'
     go_wp2_with fail
     have hst:=rights_step l j hjl
     rw [hrt,if_pos rfl,HX.out.1] at hst
     refine ⟨⟨j+1,congrArg (Value.int .i64) (by omega),by omega,?_,HB4.out.1⟩,?_⟩
     ·rw [hst]
      exact HB4.out.2
     ·show l.length-(intOf (.int .i64 ((j:Int)+1))).toNat<l.length-(intOf (.int .i64 (j:Nat))).toNat
      simp only [intOf]
      omega
  ·have f1:decide ((j:Int)<(l.length:Int))=false:=decide_eq_false (by omega)
   go_wp2_with fail
   have hjj:j=l.length:=by omega
   have h3:=HB.out.2.1
   have hm:=HB.out.2.2
   rw [hjj,List.take_length] at h3 hm
   rw [hm] at h3
   refine bodyPost_ret (results_tmp rfl _ _ _) rfl ⟨_,rfl,EqV.of_own (by rw [hm];exact h3) fun x hx=>?_,HB.out.1⟩
   have hxl:x∈l:=(List.mem_filter.1 hx).1
   obtain ⟨i,hi,rfl⟩:=List.mem_iff_getElem.1 hxl
   exact (H.out.later HB.out.1).ty i hi
end
end Go.Proofs.YtmamdiggjghjkaaGreatDoor
