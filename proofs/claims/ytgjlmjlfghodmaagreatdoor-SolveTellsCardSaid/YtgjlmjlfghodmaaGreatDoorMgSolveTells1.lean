/- What this proof needs beside. -/
import Derived.Test.YtgjlmjlfghodmaaGreatDoorMgSolveSat1
import Derived.Deep.RegionWith
import Derived.Test.YtgjlmjlfghodmaaGreatDoorMgSolveSat4
import Derived.Test.YtgjlmjlfghodmaaGreatDoorMgSolveSat7
import Derived.Test.YtgjlmjlfghodmaaGreatDoorMgSolveSat5
import Derived.Test.YtgjlmjlfghodmaaGreatDoorMgSolveSat3
import Derived.Test.YtgjlmjlfghodmaaGreatDoorMgSolveSat8
import Derived.Test.YtgjlmjlfghodmaaGreatDoorMgSolveSat20
import Derived.Test.YtgjlmjlfghodmaaGreatDoorMgSolveSat26
import Derived.Test.YtgjlmjlfghodmaaGreatDoorMgSolveSat31
import Derived.Test.YtgjlmjlfghodmaaGreatDoorRows
import Derived.Test.YtgjlmjlfghodmaaGreatDoorTie
import Derived.Test.YtgjlmjlfghodmaaGreatDoorCards
import Derived.ProofKit
import Derived.LaidMore
import Derived.OpenShut
import Derived.Stop.Joined
import Derived.Lib.LaidTab
import Derived.SevenTiedAt
set_option linter.unusedVariables false
namespace Go.Proofs.YtgjlmjlfghodmaaGreatDoor
open Go.RowKit
namespace Fo
def same1 (x y:Int×Int×Sl×Fo):Bool:=x.1 == y.1 && x.2.1 == y.2.1 && x.2.2.2.same y.2.2.2
theorem same_len (f g:Fo) (h:f.same g=true):f.len=g.len:=by
 induction f generalizing g with
 | nil=>cases g<;>simp [same] at h ⊢
 | cons k n u ps r _ ih=>
  cases g with
  | nil=>simp [same] at h
  | cons k' n' u' ps' r'=>
   simp only [same,Bool.and_eq_true] at h
   simp [len,ih r' h.2]
theorem same_split (f g:Fo) (j:Nat) (h:f.len=g.len) (hj:j<f.len):f.same g=((f.take j).same (g.take j) && (same1 (f.at_ j) (g.at_ j) && (f.drop (j+1)).same (g.drop (j+1)))):=by
 induction f generalizing g j with
 | nil=>simp [len] at hj
 | cons k n u ps r _ ih=>
  cases g with
  | nil=>simp [len] at h
  | cons k' n' u' ps' r'=>
   cases j with
   | zero=>simp [same,take,at_,drop,same1]
   | succ j=>
    have:=ih r' j (by simpa [len] using h) (by simpa [len] using hj)
    simp only [same,take,at_,drop]
    rw [this]
    simp [Bool.and_assoc]
theorem same_take (f g:Fo) (j:Nat) (h:f.len=g.len) (hj:j<f.len):(f.take (j+1)).same (g.take (j+1))=((f.take j).same (g.take j) && same1 (f.at_ j) (g.at_ j)):=by
 induction f generalizing g j with
 | nil=>simp [len] at hj
 | cons k n u ps r _ ih=>
  cases g with
  | nil=>simp [len] at h
  | cons k' n' u' ps' r'=>
   cases j with
   | zero=>simp [same,take,at_,same1]
   | succ j=>
    have:=ih r' j (by simpa [len] using h) (by simpa [len] using hj)
    simp only [same,take,at_] at this ⊢
    rw [this]
    simp [Bool.and_assoc]
end Fo
set_option maxHeartbeats 2000000 in
set_option maxRecDepth 100000 in
theorem rsame_any (m:Nat):∀(f g:Fo) (k n k' n':Int) (v v':Value) (w:World),f.size<m→f.size≤1000000→g.size≤1000000→TyV w.heap.size w f v→TyV w.heap.size w g v'→
  Calls Tryz.prog 22 #[tyVal k n v,tyVal k' n' v'] w fun e w'=>e = .returned (.bool (k == k' && n == n' && f.same g))∧Below w.heap.size w w':=by
 induction m with
 | zero=>intro f g k n k' n' v v' w h;omega
 | succ m ih=>
  intro f g k n k' n' v v' w hm hs hs' h h'
  obtain ⟨A,c,rfl⟩:=h.slice
  obtain ⟨A',c',rfl⟩:=h'.slice
  have H:=kI h
  have H':=kI h'
  have IH:=kI ih
  have hll:=f.len_le_size
  have hll':=g.len_le_size
  clear h ih h'
  unfold tyVal
  go_enter Tryz.func22,Tryz.ntmps22
  have HB0:=kI (show ∀(cs cs':Array Value) (t t':TypeId),Below w.heap.size w ((w.alloc (Obj.cells cs t)).alloc (Obj.cells cs' t')) from fun cs cs' t t'=>((Below.refl _ w).alloc (Nat.le_refl _) _).alloc (by simp) _)
  obtain ⟨q,hq⟩:∃q,f.len=q:=⟨_,rfl⟩
  obtain ⟨q',hq'⟩:∃q',g.len=q':=⟨_,rfl⟩
  rw [hq] at hll ⊢
  rw [hq'] at hll' ⊢
  have HQ:=kI hq
  have HQ':=kI hq'
  clear hq hq'
  by_cases h1:k=k'
  case neg=>
   have f1:(k != k')=true:=bne_iff_ne.2 h1
   go_wp2_with fail
   go_ret
   exact ⟨ret_bool (by rw [beq_eq_false_iff_ne.2 h1];rfl),HB0.out _ _ _ _⟩
  have f1:(k != k')=false:=by rw [h1];simp
  by_cases h2:n=n'
  case neg=>
   have f2:(n != n')=true:=bne_iff_ne.2 h2
   go_wp2_with fail
   go_ret
   exact ⟨ret_bool (by rw [beq_eq_false_iff_ne.2 h2];simp),HB0.out _ _ _ _⟩
  have f2:(n != n')=false:=by rw [h2];simp
  have hkn:(k == k' && n == n')=true:=by rw [h1,h2];simp
  have HKN:=kI hkn
  clear hkn
  by_cases h3:q=q'
  case neg=>
   have f3:((q:Int) != q')=true:=bne_iff_ne.2 (by omega)
   have hsf:f.same g=false:=by
    cases hb:f.same g with
    | false=>rfl
    | true=>exact absurd (f.same_len g hb) (by rw [HQ.out,HQ'.out];exact h3)
   have HSF:=kI hsf
   clear h1 h2 hsf
   go_wp2_with fail
   go_ret
   exact ⟨ret_bool (by rw [HKN.out,HSF.out];rfl),HB0.out _ _ _ _⟩
  subst h3
  clear h1 h2
  have HFG:=kI (show f.len=g.len by rw [HQ.out,HQ'.out])
  go_wp2_with fail
  go_loopw [5] (fun t5 wr=>∃j:Nat,j≤q∧t5 = .int .i64 j∧(f.take j).same (g.take j)=true∧wr.cell? ⟨w.heap.size,2,none⟩=some (.slice A q c)∧wr.cell? ⟨w.heap.size+1,2,none⟩=some (.slice A' q c')∧Below w.heap.size w wr∧w.heap.size+2≤wr.heap.size) (fun t _=>q-(intOf t).toNat)
  case atStart=>exact ⟨0,Nat.zero_le _,rfl,by simp [Fo.take_zero,Fo.same],by go_simp,by go_simp,HB0.out _ _ _ _,by simp⟩
  case round=>
   obtain ⟨j,hj,rfl,hja,e2,e3,hb,hz⟩:=hrel
   have HB:=kI hb
   have HJA:=kI hja
   clear hja hb
   by_cases hjl:j<q
   ·have hjf:j<f.len:=by rw [HQ.out];exact hjl
    have hjg:j<g.len:=by rw [HQ'.out];exact hjl
    obtain ⟨b,off,cap,hv,_,_,hlt,hC⟩:=H.out.form (by omega)
    injection hv with hA _ hcc
    subst hA;subst hcc
    obtain ⟨b',off',cap',hv',_,_,hlt',hC'⟩:=H'.out.form (by omega)
    injection hv' with hA' _ hcc'
    subst hA';subst hcc'
    obtain ⟨d0,d1,d2,hch⟩:=tyC_at hC j hjf
    obtain ⟨d0',d1',d2',hch2⟩:=tyC_at hC' j hjg
    have c0:=(HB.out.cell (p:=⟨b,off+j*3,none⟩) hlt).trans d0
    have c1:=(HB.out.cell (p:=⟨b,off+j*3+1,none⟩) hlt).trans d1
    have c2:=(HB.out.cell (p:=⟨b,off+j*3+2,none⟩) hlt).trans d2
    have c0':=(HB.out.cell (p:=⟨b',off'+j*3,none⟩) hlt').trans d0'
    have c1':=(HB.out.cell (p:=⟨b',off'+j*3+1,none⟩) hlt').trans d1'
    have c2':=(HB.out.cell (p:=⟨b',off'+j*3+2,none⟩) hlt').trans d2'
    have hch':TyV wr.heap.size wr (f.at_ j).2.2.2 (slv (f.at_ j).2.2.1):=hch.keep HB.out.size fun b off hb'=>HB.out.cell (p:=⟨b,off,none⟩) hb'
    have hch3:TyV wr.heap.size wr (g.at_ j).2.2.2 (slv (g.at_ j).2.2.1):=hch2.keep HB.out.size fun b off hb'=>HB.out.cell (p:=⟨b,off,none⟩) hb'
    have hsz:=f.at_size j hjf
    have hsz':=g.at_size j hjg
    have hsp:=f.same_split g j HFG.out hjf
    have htk:=f.same_take g j HFG.out hjf
    have hrec:=IH.out (f.at_ j).2.2.2 (g.at_ j).2.2.2 (f.at_ j).1 (f.at_ j).2.1 (g.at_ j).1 (g.at_ j).2.1 (slv (f.at_ j).2.2.1) (slv (g.at_ j).2.2.1) wr.drew (by omega) (by omega) (by omega) (hch'.below (Below.refl _ wr).drew) (hch3.below (Below.refl _ wr).drew)
    clear d0 d1 d2 hC hch hch' hsz d0' d1' d2' hC' hch2 hch3 hsz'
    unfold tyVal at hrec
    generalize f.at_ j=p at *
    generalize g.at_ j=p' at *
    obtain ⟨pk,pn,pv,pf⟩:=p
    obtain ⟨pk',pn',pv',pf'⟩:=p'
    dsimp only [Fo.same1] at hsp htk hrec c0 c1 c2 c0' c1' c2'
    obtain ⟨x,hx⟩:∃x,(pk == pk' && pn == pn' && pf.same pf')=x:=⟨_,rfl⟩
    rw [hx] at hrec hsp htk
    have HREC:=kI hrec
    have HSP:=kI (show f.same g=(x && (f.drop (j+1)).same (g.drop (j+1))) by rw [hsp,HJA.out];rfl)
    have HTK:=kI (show (f.take (j+1)).same (g.take (j+1))=x by rw [htk,HJA.out];rfl)
    clear hrec hsp htk hx hjf hjg
    go_wp2_with fail
    dsimp only [slv] at *
    go_region_with (go_at_call 22;refine HREC.out.mono ?_;rintro e w2 ⟨rfl,hb3⟩)
    all_goals
     have e2':=(hb3.cell (p:=⟨w.heap.size,2,none⟩) (by show w.heap.size<wr.heap.size;omega)).trans e2
     have e3':=(hb3.cell (p:=⟨w.heap.size+1,2,none⟩) (by show w.heap.size+1<wr.heap.size;omega)).trans e3
     have HB3:=kI (show Below wr.heap.size wr w2 from (Below.refl _ wr).drew.trans hb3)
     clear hb3
     cases x
     ·go_wp2_with fail
      go_ret
      exact ⟨ret_bool (by rw [HKN.out,HSP.out];rfl),HB.out.trans (HB3.out.mono (by omega))⟩
     ·go_wp2_with fail
      go_roundw
      case rel=>exact ⟨j+1,by omega,by go_num,HTK.out,e2',e3',HB.out.trans (HB3.out.mono (by omega)),Nat.le_trans hz HB3.out.size⟩
      case measure=>simp [intOf];omega
   ·obtain rfl:j=q:=by omega
    have HT:Hid (f.take j=f):=kI (by rw [←HQ.out];exact f.take_len)
    have HT':Hid (g.take j=g):=kI (by rw [←HQ'.out];exact g.take_len)
    go_wp2_with fail
    go_ret
    exact ⟨ret_bool (by rw [HKN.out,←HT.out,←HT'.out,HJA.out];rfl),HB.out⟩
end Go.Proofs.YtgjlmjlfghodmaaGreatDoor
namespace Go.Proofs.YtgjlmjlfghodmaaGreatDoor
open Go.RowKit Go.Shelf
theorem Img.same {f g:Fo}(h:Img idn f g):f.same g=true:=by
 induction f generalizing g with
 | nil=>cases g<;>simp_all [Img,Fo.same]
 | cons k n u ps r ih1 ih2=>
  cases g with
  | nil=>simp [Img] at h
  | cons k' n' u' ps' r'=>
   simp only [Img,nm_id] at h
   obtain ⟨rfl,rfl,h3,h4⟩:=h
   simp [Fo.same,ih1 h3,ih2 h4]
end Go.Proofs.YtgjlmjlfghodmaaGreatDoor
namespace Go.Proofs.YtgjlmjlfghodmaaGreatDoor
open Go.RowKit Go.ChangeShapes Go.WideShapes Go.ChangeAt Go.Deep
theorem BdV.keep {B B':Nat}{w w':World}{l:List Bnd}{v:Value}(h:BdV B w l v) (hB:B≤B') (hk:∀b off,b<B→w'.cell? ⟨b,off,none⟩=w.cell? ⟨b,off,none⟩):BdV B' w' l v:=by
 obtain ⟨A,c,hv,h1,h2⟩:=h
 refine ⟨A,c,hv,fun hn=>?_,fun x hx=>(h2 x hx).keep hB hk⟩
 obtain ⟨b,off,hA,hb,hc,hm,hat⟩:=h1 hn
 exact ⟨b,off,hA,by omega,hc,hm,fun i hi=>⟨(hk _ _ hb).trans (hat i hi).1,(hk _ _ hb).trans (hat i hi).2.1,(hk _ _ hb).trans (hat i hi).2.2.1,(hk _ _ hb).trans (hat i hi).2.2.2⟩⟩
theorem BdV.below {B:Nat}{w w':World}{l:List Bnd}{v:Value}(h:BdV B w l v) (hb:Below B w w'):BdV B w' l v:=h.keep (Nat.le_refl _) fun b off hlt=>hb.cell (p:=⟨b,off,none⟩) hlt
theorem BdV.later {w w':World}{l:List Bnd}{v:Value}(h:BdV w.heap.size w l v) (hb:Below w.heap.size w w'):BdV w'.heap.size w' l v:=h.keep hb.size fun b off hlt=>hb.cell (p:=⟨b,off,none⟩) hlt
theorem BdV.form {B:Nat}{w:World}{l:List Bnd}{v:Value}(h:BdV B w l v):∃A c,v = .slice A l.length c:=by obtain ⟨A,c,hv,_⟩:=h;exact ⟨A,c,hv⟩
theorem BdV.at {B:Nat}{w:World}{l:List Bnd}{A:Option Addr}{n c:Nat}(h:BdV B w l (.slice A n c)) (j:Nat) (hj:j<l.length):∃b off,A=some ⟨b,off,none⟩∧b<B∧
  w.cell? ⟨b,off+j*4,none⟩=some (.int .i64 l[j].1)∧w.cell? ⟨b,off+j*4+1,none⟩=some (.int .i64 l[j].2.1)∧w.cell? ⟨b,off+j*4+2,none⟩=some (.int .i64 l[j].2.2.1)∧w.cell? ⟨b,off+j*4+3,none⟩=some (slv l[j].2.2.2.1):=by
 obtain ⟨A',c',hv,h1,_⟩:=h
 injection hv with e1 e2 e3
 obtain ⟨b,off,hA,hb,_,_,hat⟩:=h1 (by omega)
 exact ⟨b,off,by rw [e1,hA],hb,hat j hj⟩
set_option maxRecDepth 100000 in
theorem binds_read {H:Type}{enc:TypeId×Value→H}{W:World}(fuel:Nat) (v:Value) (x:DataW H×List MemPlace) (h:DataW.trod enc Tryz.prog W 0 (fun _=>true) true fuel 40 [v]=some x):∃(l:List Bnd),BdV W.heap.size W l v∧BdW l:=by
 rcases DataW.trod_slice Tryz.underlying40 h with ⟨hcs,_⟩|⟨a,len,cap,elems,rest,n,hfu,hcs,_,_,hl,hm,hlen,hel,_,_⟩
 ·simp at hcs
  subst hcs
  exact ⟨[],⟨none,0,rfl,fun h=>by simp at h,fun x hx=>by cases hx⟩,fun x hx=>by cases hx⟩
 ·simp at hcs
  subst hcs
  have hC:Tryz.prog.cellsOf 52=4:=by kernel_rfl
  have hT:Tryz.prog.cellsOf 28=3:=by kernel_rfl
  have hI:Tryz.prog.cellsOf 3=1:=by kernel_rfl
  have hS:Tryz.prog.cellsOf 26=1:=by kernel_rfl
  rw [hC] at hel
  have key:∀i,i<len→∃t:Bnd,W.cell? (a.add (i*4))=some (.int .i64 t.1)∧W.cell? ((a.add (i*4)).add 1)=some (.int .i64 t.2.1)∧W.cell? ((a.add (i*4)).add 2)=some (.int .i64 t.2.2.1)∧W.cell? ((a.add (i*4)).add 3)=some (slv t.2.2.2.1)∧TyV W.heap.size W t.2.2.2.2 (slv t.2.2.2.1)∧(Lit.int .i64 t.1).wf=true∧(Lit.int .i64 t.2.2.1).wf=true∧t.2.2.2.2.wf:=by
   intro i hil
   have he:=hel i hil
   rw [List.getElem?_eq_getElem (by omega)] at he
   obtain ⟨cs',hc,ht'⟩:=Option.bind_eq_some_iff.1 he
   obtain ⟨ys,n',hn',_,hlen2,hyl,hfld⟩:=DataW.trod_struct Tryz.underlying52 ht'
   rw [hC] at hlen2
   obtain ⟨_,hcl,hat⟩:=World.cells?_some hc
   have q0:DataW.trod enc Tryz.prog W 0 (fun _=>true) true n' 3 ((cs'.drop 0).take (Tryz.prog.cellsOf 3))=ys[0]?:=hfld 0 _ rfl
   have q1:DataW.trod enc Tryz.prog W 0 (fun _=>true) true n' 28 ((cs'.drop 1).take (Tryz.prog.cellsOf 28))=ys[1]?:=hfld 1 _ rfl
   have hyl':ys.length=2:=hyl
   rw [hI,List.getElem?_eq_getElem (by omega)] at q0
   rw [hT,List.getElem?_eq_getElem (by omega)] at q1
   obtain ⟨k0,hk0,_,hw0⟩:=DataW.trod_int Tryz.underlying3 q0
   match cs',hlen2 with
   | [c0,c1,c2,c3],_=>
    obtain ⟨zs,n2,hn2,_,hlen3,hzl,hfld2⟩:=DataW.trod_struct Tryz.underlying28 q1
    have p0:DataW.trod enc Tryz.prog W 0 (fun _=>true) true n2 3 (([c1,c2,c3].drop 0).take (Tryz.prog.cellsOf 3))=zs[0]?:=hfld2 0 _ rfl
    have p1:DataW.trod enc Tryz.prog W 0 (fun _=>true) true n2 3 (([c1,c2,c3].drop 1).take (Tryz.prog.cellsOf 3))=zs[1]?:=hfld2 1 _ rfl
    have p2:DataW.trod enc Tryz.prog W 0 (fun _=>true) true n2 26 (([c1,c2,c3].drop 2).take (Tryz.prog.cellsOf 26))=zs[2]?:=hfld2 2 _ rfl
    have hzl':zs.length=3:=hzl
    rw [hI,List.getElem?_eq_getElem (by omega)] at p0
    rw [hI,List.getElem?_eq_getElem (by omega)] at p1
    rw [hS,List.getElem?_eq_getElem (by omega)] at p2
    obtain ⟨k1,hk1,_,_⟩:=DataW.trod_int Tryz.underlying3 p0
    obtain ⟨k2,hk2,_,hw2⟩:=DataW.trod_int Tryz.underlying3 p1
    obtain ⟨F,u,hu,hF,hFw⟩:=types_read n2 c3 _ p2
    simp at hk0 hk1 hk2
    subst hk0;subst hk1;subst hk2;subst hu
    refine ⟨(k0,k1,k2,u,F),?_,?_,?_,?_,hF,hw0,hw2,hFw⟩
    ·have:=hat 0 (by omega)
     simpa [Addr.add] using this
    ·exact hat 1 (by omega)
    ·exact hat 2 (by omega)
    ·exact hat 3 (by omega)
  by_cases h0:len=0
  ·subst h0
   exact ⟨[],⟨_,_,rfl,fun h=>by simp at h,fun x hx=>by cases hx⟩,fun x hx=>by cases hx⟩
  ·obtain ⟨b,off,spot⟩:=a
   obtain ⟨t0,hc0,_⟩:=key 0 (by omega)
   have hspot:spot=none:=by simpa [Addr.add] using World.cell?_spot hc0
   subst hspot
   have hb:b<W.heap.size:=by simpa [Addr.add] using World.block_lt_of_cell? _ _ hc0
   obtain ⟨ts,htl,hP⟩:=listOf _ len key
   subst htl
   simp only [Addr.add_lit] at hP
   refine ⟨ts,⟨_,_,rfl,fun _=>⟨b,off,rfl,hb,hl,hm,fun i hi=>⟨(hP i hi).1,(hP i hi).2.1,(hP i hi).2.2.1,(hP i hi).2.2.2.1⟩⟩,fun x hx=>?_⟩,fun x hx=>?_⟩
   ·obtain ⟨i,hi,rfl⟩:=List.mem_iff_getElem.1 hx
    exact (hP i hi).2.2.2.2.1
   ·obtain ⟨i,hi,rfl⟩:=List.mem_iff_getElem.1 hx
    exact (hP i hi).2.2.2.2.2
theorem ArgB_open {H:Type}{enc:TypeId×Value→H}{W:World}{v:Value}{d:DataW H}{p:List MemPlace}
  (h:DataW.Trod enc Tryz.prog W 0 (fun _=>true) true 40 v d p) (hc:v.cells=#[v]):∃l,BdV W.heap.size W l v∧BdW l:=by
 obtain ⟨fuel,hf⟩:=h
 rw [hc] at hf
 exact binds_read fuel v _ hf
end Go.Proofs.YtgjlmjlfghodmaaGreatDoor
namespace Go.Proofs.YtgjlmjlfghodmaaGreatDoor
open Go.RowKit Go.ChangeShapes Go.WideShapes Go.ChangeAt Go.Deep
end Go.Proofs.YtgjlmjlfghodmaaGreatDoor
namespace Go.Proofs.YtgjlmjlfghodmaaGreatDoor
open Go.RowKit
set_option maxHeartbeats 1000000 in
set_option maxRecDepth 100000 in
theorem room_any (deep:Nat):∀(f:Fo) (k n0:Int) (v:Value) (n:Nat) (w:World),deep≤40→n≤300→TyV w.heap.size w f v→
  Calls Tryz.prog 46 #[tyVal k n0 v,.int .i64 n,.int .i64 deep] w fun e w'=>∃r,e = .returned (.int .i64 r)∧Below w.heap.size w w'∧RoomIs n deep f r:=by
 induction deep with
 | zero=>
  intro f k n0 v n w hd hn h
  obtain ⟨A,c,rfl⟩:=h.slice
  clear h
  unfold tyVal
  go_enter Tryz.func46,Tryz.ntmps46
  go_wp2_with fail
  go_ret
  exact ⟨_,rfl,(Below.refl _ _).alloc (Nat.le_refl _) _,RoomIs.zero n f⟩
 | succ deep ih=>
  intro f k n0 v n w hd hn h
  obtain ⟨A,c,rfl⟩:=h.slice
  have H:=kI h
  have IH:=kI ih
  have hml:f.len≤maxLen:=by
   rcases Nat.eq_zero_or_pos f.len with h0|h0
   ·omega
   ·obtain ⟨_,_,cap,_,h1,h2,_⟩:=h.form h0
    exact Nat.le_trans h1 h2
  replace hml:f.len≤9223372036854775807:=by unfold maxLen at hml;omega
  clear h ih
  rw [show (((deep+1:Nat)):Int)=(deep:Int)+1 from by omega]
  unfold tyVal
  go_enter Tryz.func46,Tryz.ntmps46
  have HB0:=kI (show ∀(cs:Array Value) (t:TypeId),Below w.heap.size w (w.alloc (Obj.cells cs t)) from fun cs t=>(Below.refl _ w).alloc (Nat.le_refl _) _)
  have f1:((deep:Int)+1 == 0)=false:=beq_eq_false_iff_ne.2 (by omega)
  go_wp2_with fail
  go_loopw [1,7] (fun t1 t7 wr=>∃(j:Nat) (r:Int),j≤f.len∧t7 = .int .i64 j∧t1 = .int .i64 r∧RoomIs n (deep+1) (f.take j) r∧wr.cell? ⟨w.heap.size,2,none⟩=some (.slice A f.len c)∧Below w.heap.size w wr∧w.heap.size+1≤wr.heap.size) (fun _ t _=>f.len-(intOf t).toNat)
  case atStart=>
   refine ⟨0,(n:Int)-1,Nat.zero_le _,rfl,by go_num,?_,by go_simp,HB0.out _ _,by simp⟩
   unfold RoomIs
   simp only [Fo.take_zero,Fo.size,Fo.depth]
   omega
  case round=>
   obtain ⟨j,r,hj,rfl,rfl,hr,e2,hb,hz⟩:=hrel
   have HB:=kI hb
   have HR:=kI hr
   have hr0:-1≤r∧r≤n:=⟨hr.1,hr.2.1⟩
   clear hb hr
   by_cases hjl:j<f.len
   ·by_cases hr1:0≤r
    ·obtain ⟨rn,rfl⟩:=Int.eq_ofNat_of_zero_le hr1
     obtain ⟨b,off,cap,hv,_,_,hlt,hC⟩:=H.out.form (by omega)
     injection hv with hA _ hcc
     subst hA;subst hcc
     obtain ⟨d0,d1,d2,hch⟩:=tyC_at hC j hjl
     have c0:=(HB.out.cell (p:=⟨b,off+j*3,none⟩) hlt).trans d0
     have c1:=(HB.out.cell (p:=⟨b,off+j*3+1,none⟩) hlt).trans d1
     have c2:=(HB.out.cell (p:=⟨b,off+j*3+2,none⟩) hlt).trans d2
     have hch':TyV wr.heap.size wr (f.at_ j).2.2.2 (slv (f.at_ j).2.2.1):=hch.keep HB.out.size fun b off hb'=>HB.out.cell (p:=⟨b,off,none⟩) hb'
     have HST:=kI (f.size_take_step j hjl)
     have HDT:=kI (f.depth_take_step j hjl)
     have hrec:=IH.out (f.at_ j).2.2.2 (f.at_ j).1 (f.at_ j).2.1 (slv (f.at_ j).2.2.1) rn wr (by omega) (by omega) hch'
     clear d0 d1 d2 hC hch hch'
     unfold tyVal at hrec
     generalize f.at_ j=p at *
     obtain ⟨pk,pn,pv,pf⟩:=p
     dsimp only [slv] at hrec c0 c1 c2
     have HREC:=kI hrec
     clear hrec
     have f2:decide ((0:Int)≤rn)=true:=decide_eq_true hr1
     go_wp2_with fail
     refine HREC.out.mono ?_
     rintro e w2 ⟨r2,rfl,hb3,hr2⟩
     have e2':=(hb3.cell (p:=⟨w.heap.size,2,none⟩) (by show w.heap.size<wr.heap.size;omega)).trans e2
     have HB3:=kI hb3
     have HR2:=kI hr2
     clear hb3 hr2
     go_wp2_with fail
     go_roundw
     case rel=>
      refine ⟨j+1,r2,by omega,by go_num,rfl,?_,e2',HB.out.trans (HB3.out.mono (by omega)),Nat.le_trans hz HB3.out.size⟩
      have h1:=HR.out
      have h2:=HR2.out
      have h3:=HST.out
      have h4:=HDT.out
      unfold RoomIs at h1 h2 ⊢
      omega
     case measure=>simp [intOf];omega
    ·have f2:decide ((0:Int)≤r)=false:=decide_eq_false hr1
     have HTL:=kI (f.size_take_le j)
     have HDL:=kI (f.depth_take_le j)
     go_wp2_with fail
     go_ret
     refine ⟨_,rfl,HB.out,?_⟩
     have h1:=HR.out
     have h3:=HTL.out
     have h4:=HDL.out
     unfold RoomIs at h1 ⊢
     omega
   ·obtain rfl:j=f.len:=by omega
    have HT:Hid (f.take f.len=f):=kI f.take_len
    go_wp2_with fail
    go_ret
    refine ⟨_,rfl,HB.out,?_⟩
    have h1:=HR.out
    rwa [HT.out] at h1
set_option maxHeartbeats 1000000 in
theorem great_any (f:Fo) (k n0:Int) (v:Value) (w:World) (h:TyV w.heap.size w f v):
  Calls Tryz.prog 18 #[tyVal k n0 v] w fun e w'=>e = .returned (.bool (!(decide (1+f.size≤300) && decide (1+f.depth≤40))))∧Below w.heap.size w w':=by
 obtain ⟨A,c,rfl⟩:=h.slice
 obtain ⟨w1,hw1⟩:∃w1,w.alloc (Obj.cells #[.int .i64 k,.int .i64 n0,.slice A f.len c] 28)=w1:=⟨_,rfl⟩
 have hb1:Below w.heap.size w w1:=by rw [←hw1];exact (Below.refl _ _).alloc (Nat.le_refl _) _
 have hs1:=hb1.size
 have hc:=room_any 40 f k n0 (.slice A f.len c) 300 w1 (by omega) (by omega) (h.keep hs1 fun b off hb'=>hb1.cell (p:=⟨b,off,none⟩) hb')
 rw [←hw1] at hc
 have HC:=kI hc
 have HB1:=kI hb1
 have HW1:=kI hw1
 clear h hc hs1 hb1 hw1
 unfold tyVal at HC ⊢
 go_enter Tryz.func18,Tryz.ntmps18
 go_wp2_with fail
 refine HC.out.mono ?_
 rintro e w' ⟨r,rfl,hb,hr⟩
 have hd:decide (r<0) = !(decide (1+f.size≤300) && decide (1+f.depth≤40)):=by
  unfold RoomIs at hr
  by_cases h1:r<0
  ·have:¬ (1+f.size≤300∧1+f.depth≤40):=by omega
   rw [decide_eq_true h1]
   simp only [←Bool.decide_and,decide_eq_false this]
   rfl
  ·have:1+f.size≤300∧1+f.depth≤40:=by omega
   rw [decide_eq_false h1]
   simp only [←Bool.decide_and,decide_eq_true this]
   rfl
 have HD:=kI hd
 rw [HW1.out] at hb
 have HB:=kI (show Below w.heap.size w w' from HB1.out.trans (hb.mono HB1.out.size))
 clear hd hr hb
 go_wp2_with fail
 go_ret
 exact ⟨ret_bool HD.out,HB.out⟩
end Go.Proofs.YtgjlmjlfghodmaaGreatDoor
namespace Go.Proofs.YtgjlmjlfghodmaaGreatDoor
open Go.RowKit Go.Shelf
attribute [local go_sem ↓] builtin_app
theorem img_symm {f g:Fo}(h:Img idn f g):Img idn g f:=by
 induction f generalizing g with
 | nil=>cases g<;>simp_all [Img]
 | cons k n u ps r ih1 ih2=>
  cases g with
  | nil=>simp [Img] at h
  | cons k' n' u' ps' r'=>
   simp only [Img,nm_id] at h ⊢
   exact ⟨h.1.symm,h.2.1.symm,ih1 h.2.2.1,ih2 h.2.2.2⟩
end Go.Proofs.YtgjlmjlfghodmaaGreatDoor
namespace Go.Proofs.YtgjlmjlfghodmaaGreatDoor
open Go.RowKit Go.Shelf Go.Maps Go.WideShapes
def tsum (l:List Bnd):Nat:=(l.map fun b=>1+b.2.2.2.2.size).sum
theorem tsum_app (a b:List Bnd):tsum (a++b)=tsum a+tsum b:=by simp [tsum]
theorem BdV.cap {B:Nat}{w:World}{l:List Bnd}{v:Value}(h:BdV B w l v):l.length≤9223372036854775807:=by
 obtain ⟨A,c,_,h1,_⟩:=h
 rcases Nat.eq_zero_or_pos l.length with h0|h0
 ·omega
 ·obtain ⟨_,_,_,_,h2,h3,_⟩:=h1 h0
  unfold maxLen at h3
  omega
def Small (l:List Bnd):Prop:=∀b∈l,1+b.2.2.2.2.size≤300∧1+b.2.2.2.2.depth≤40
def greatV (l:List Bnd):Bool:=(l.take 30).any big || decide (24<l.length) || decide (400<tsum l)
theorem greatV_false {l:List Bnd}(h:greatV l=false):l.length≤24∧Small l∧tsum l≤400:=by
 simp only [greatV,Bool.or_eq_false_iff,decide_eq_false_iff_not] at h
 obtain ⟨⟨h1,h2⟩,h3⟩:=h
 refine ⟨by omega,fun b hb=>?_,by omega⟩
 rw [List.take_of_length_le (by omega),List.any_eq_false] at h1
 have:=h1 b hb
 simp only [big,Bool.not_eq_true',Bool.not_eq_false,Bool.and_eq_true,decide_eq_true_eq] at this
 exact this
theorem greatV_big {l:List Bnd}{j:Nat}(hj:j<l.length) (h3:j<30) (h:big l[j]=true):greatV l=true:=by
 have:(l.take 30).any big=true:=by
  rw [List.any_eq_true]
  exact ⟨l[j],by
   rw [List.mem_take_iff_getElem]
   exact ⟨j,by omega,rfl⟩,h⟩
 simp [greatV,this]
theorem greatV_small {l:List Bnd}(h:Small (l.take 30)):greatV l=(decide (24<l.length) || decide (400<tsum l)):=by
 have:(l.take 30).any big=false:=by
  rw [List.any_eq_false]
  intro b hb
  have:=h b hb
  simp [big,this.1,this.2]
 simp [greatV,this]
set_option maxHeartbeats 2000000 in
set_option maxRecDepth 100000 in
theorem great_bind (w:World) (l:List Bnd) (v:Value) (hl:BdV w.heap.size w l v):
  Calls Tryz.prog 32 #[v] w fun e w'=>e = .returned (.bool (greatV l))∧Below w.heap.size w w':=by
 obtain ⟨A,c,rfl⟩:=hl.form
 have hcap:=hl.cap
 go_enter Tryz.func32,Tryz.ntmps32
 go_wp2
 go_loopw [3,4] (fun s3 s4 wr=>∃j:Nat,s4 = .int .i64 j∧s3 = .int .i64 (tsum (l.take j))∧j≤l.length∧j≤30∧Small (l.take j)∧tsum (l.take j)≤300*j∧Below w.heap.size w wr) (fun _ s4 _=>31-(intOf s4).toNat)
 case atStart=>exact ⟨0,rfl,rfl,Nat.zero_le _,by omega,fun b hb=>by simp at hb,by simp [tsum],Below.refl _ _⟩
 case round=>
  obtain ⟨j,rfl,rfl,hj,hj30,hsm,hsum,hb⟩:=hrel
  by_cases hjl:j<l.length
  ·by_cases hj3:j<30
   ·have f1:decide ((j:Int)<(30:Int))=true:=by simp;omega
    obtain ⟨b,off,rfl,hlt,c0,c1,c2,c3⟩:=(hl.below hb).at j hjl
    have htk:l.take (j+1)=l.take j ++ [l[j]]:=by rw [List.take_succ_eq_append_getElem hjl]
    have hty:TyV w.heap.size wr l[j].2.2.2.2 (slv l[j].2.2.2.1):=by
     obtain ⟨_,_,_,_,h2⟩:=hl
     exact (h2 _ (List.getElem_mem hjl)).below hb
    obtain ⟨x,hx⟩:∃x,l[j]=x:=⟨_,rfl⟩
    rw [hx] at c0 c1 c2 c3 htk hty
    obtain ⟨x0,x1,x2,⟨A3,n3,c3'⟩,x4⟩:=x
    dsimp only [slv] at c0 c1 c2 c3 hty
    have hgr:=great_any x4 x1 x2 (.slice A3 n3 c3') wr (hty.keep hb.size fun _ _ _=>rfl)
    obtain ⟨N,hN⟩:∃N,tsum (l.take j)=N:=⟨_,rfl⟩
    have htk2:tsum (l.take (j+1))=N+(1+x4.size):=by rw [htk,tsum_app,hN];simp [tsum]
    have hsm2:1+x4.size≤300→1+x4.depth≤40→Small (l.take (j+1)):=fun h1 h2 b hb=>by
     rw [htk] at hb
     rcases List.mem_append.1 hb with hb|hb
     ·exact hsm b hb
     ·obtain rfl:b=(x0,x1,x2,(A3,n3,c3'),x4):=by simpa using hb
      exact ⟨h1,h2⟩
    rw [hN] at hsum ⊢
    have hbg:¬ (1+x4.size≤300∧1+x4.depth≤40)→greatV l=true:=fun h=>greatV_big hjl hj3 (by
     rw [hx]
     simp only [big,Bool.not_eq_true',Bool.and_eq_false_iff,decide_eq_false_iff_not]
     omega)
    have HBG:=kI hbg
    have HGR:=kI hgr
    have HSM:=kI hsm2
    have HTK:=kI htk2
    have HTY:=kI hty
    have HL:=kI hl
    have HX:=kI hx
    clear hbg hgr hsm2 hsm htk htk2 hty hN hl hx
    dsimp only [tyVal] at HGR
    go_wp2_with fail
    refine HGR.out.mono ?_
    rintro e w2 ⟨rfl,hb2⟩
    have hb02:=hb.trans (hb2.mono hb.size)
    by_cases hg:1+x4.size≤300∧1+x4.depth≤40
    ·have f2:(!(decide (1+x4.size≤300) && decide (1+x4.depth≤40)))=false:=by simp [hg.1,hg.2]
     have d1:=(hb2.cell (p:=⟨b,off+j*4+1,none⟩) (Nat.lt_of_lt_of_le hlt hb.size)).trans c1
     have d2:=(hb2.cell (p:=⟨b,off+j*4+2,none⟩) (Nat.lt_of_lt_of_le hlt hb.size)).trans c2
     have d3:=(hb2.cell (p:=⟨b,off+j*4+3,none⟩) (Nat.lt_of_lt_of_le hlt hb.size)).trans c3
     have hsz:=rsize_any (x4.size+1) x4 x1 x2 (.slice A3 n3 c3') w2 (by omega) (by omega) (((HTY.out.keep hb.size fun _ _ _=>rfl).below hb2).keep hb2.size fun _ _ _=>rfl)
     dsimp only [tyVal] at hsz
     have HB2:=kI hb2
     have HB:=kI hb02
     clear hb2 hb02 c0 c1 c2 c3
     rw [f2]
     go_wp2_with fail
     refine hsz.mono ?_
     rintro e w3 ⟨rfl,hb3⟩
     have f3:IntKind.i64.wrap ((N:Int)+(1+(x4.size:Int)))=(N:Int)+(1+(x4.size:Int)):=IntWalk.i64_in _ (by omega)
     clear hsz f2
     go_wp2_with fail
     go_roundw
     case rel=>
      refine ⟨j+1,by go_num,?_,by omega,by omega,HSM.out hg.1 hg.2,by rw [HTK.out];omega,HB.out.trans (hb3.mono HB.out.size)⟩
      rw [HTK.out];first|(push_cast;rfl)|(congr 1)|go_num
     case measure=>simp [intOf];omega
    ·have f2:(!(decide (1+x4.size≤300) && decide (1+x4.depth≤40)))=true:=by
      simp only [Bool.not_eq_true',Bool.and_eq_false_iff,decide_eq_false_iff_not]
      omega
     rw [f2]
     go_wp2_with fail
     go_ret
     exact ⟨by rw [HBG.out hg];rfl,hb02⟩
   ·have f1:decide ((j:Int)<(30:Int))=false:=by simp;omega
    obtain rfl:j=30:=by omega
    have f2:decide ((l.length:Int) > (24:Int))=true:=by simp;omega
    have hgv:greatV l=true:=by rw [greatV_small hsm,decide_eq_true (show 24<l.length by omega)];rfl
    have HGV:=kI hgv
    clear hgv hsm
    go_wp2
    go_ret
    exact ⟨by rw [HGV.out];rfl,hb⟩
  ·obtain rfl:j=l.length:=by omega
   rw [List.take_length] at *
   have hgv:=greatV_small (fun b hb=>hsm b (List.mem_of_mem_take hb))
   obtain ⟨N,hN⟩:∃N,tsum l=N:=⟨_,rfl⟩
   rw [hN] at hsum hgv ⊢
   have HGV:=kI hgv
   have HB:=kI hb
   clear hsm hN hb hl hgv
   by_cases h24:l.length≤24
   ·have f2:decide ((l.length:Int) > (24:Int))=false:=by simp;omega
    by_cases h4:N≤400
    ·have f3:decide ((N:Int) > (400:Int))=false:=by simp;omega
     go_wp2
     go_ret
     exact ⟨by rw [HGV.out,decide_eq_false (show ¬ 24<l.length by omega),decide_eq_false (show ¬ 400<N by omega)];rfl,HB.out⟩
    ·have f3:decide ((N:Int) > (400:Int))=true:=by simp;omega
     go_wp2
     go_ret
     exact ⟨by rw [HGV.out,decide_eq_false (show ¬ 24<l.length by omega),decide_eq_true (show 400<N by omega)];rfl,HB.out⟩
   ·have f2:decide ((l.length:Int) > (24:Int))=true:=by simp;omega
    go_wp2
    go_ret
    exact ⟨by rw [HGV.out,decide_eq_true (show 24<l.length by omega)];rfl,HB.out⟩
end Go.Proofs.YtgjlmjlfghodmaaGreatDoor
namespace Go.Proofs.YtgjlmjlfghodmaaGreatDoor
open Go.RowKit
open Un (Else own_else wp_world)
attribute [local go_sem] Oper.semAt_some
attribute [local go_sem ↓] builtin_app
set_option maxRecDepth 100000
def EqsOf (B:Nat) (W:World) (L:List Eqn) (l:List Bnd):Prop:=
 L.map (fun x=>(x.1,x.2.1.1,x.2.1.2.1,x.2.1.2.2.2,x.2.2))=l.map (fun b=>(((1,b.1,(none,0,0),.nil),b.2.1,b.2.2.1,b.2.2.2.2,(0,0)):Ty1×Int×Int×Fo×Int×Int))∧∀x∈L,FreshT 28 B W idn x.2.1.2.2.2 x.2.1.2.2.1
theorem EqsOf.len {B:Nat}{W:World}{L:List Eqn}{l:List Bnd}(h:EqsOf B W L l):L.length=l.length:=by
 have:=congrArg List.length h.1
 simpa using this
theorem EqsOf.keep {B:Nat}{W W':World}{L:List Eqn}{l:List Bnd}{S:Nat→Prop}(h:EqsOf B W L l) (he:Else S W W') (h2:∀k,S k→B≤k→∀cs:Array Value,W.heap[k]?≠some (Obj.cells cs 28)):EqsOf B W' L l:=
 ⟨h.1,fun x hx=>(h.2 x hx).to he.size fun b cs hb hc=>(he.block b (gL hc).1 fun hs=>h2 b hs hb cs hc).trans hc⟩
set_option maxHeartbeats 8000000 in
theorem equations_any (w:World) (l:List Bnd) (v:Value) (h:BdV w.heap.size w l v) (hl:l.length≤24) (hs:∀x∈l,x.2.2.2.2.size<1000000):
  Calls Tryz.prog 28 #[v] w fun e w'=>∃(L:List Eqn) (v':Value),e = .returned v'∧w'.ownsRow w.heap.size 32 8 v' L.length (eqR L)∧EqsOf w.heap.size w' L l∧Below w.heap.size w w':=by
 obtain ⟨A,c,rfl⟩:=h.form
 have H:=kI (aI h (aI hl hs))
 clear h hl hs
 go_enter Tryz.func28,Tryz.ntmps28
 go_wp2_with fail
 go_loopw [3,8] (fun s3 s8 wr=>∃(j:Nat) (L:List Eqn),s8 = .int .i64 (j:Nat)∧j≤l.length∧wr.ownsRow w.heap.size 32 8 s3 L.length (eqR L)∧EqsOf w.heap.size wr L (l.take j)∧Below w.heap.size w wr) (fun _ s _=>l.length-(intOf s).toNat)
 case atStart=>exact ⟨0,[],rfl,Nat.zero_le _,World.ownsRow_nil _ _ _ _,⟨rfl,fun x hx=>by cases hx⟩,Below.refl _ _⟩
 case round=>
  obtain ⟨j,L,rfl,hj,ho,hM,hb⟩:=hrel
  obtain ⟨As,cs,rfl,_,_⟩:=Un.own_form ho
  have hLl:L.length=j:=by have:=hM.len;rw [List.length_take] at this;omega
  have hln:=H.out.2.1
  have HT:=kI (aI ho (aI hM (aI hb hLl)))
  clear ho hM hb hLl
  by_cases hjl:j<l.length
  ·have f1:decide ((j:Int)<(l.length:Int))=true:=decide_eq_true (by omega)
   obtain ⟨b,off,rfl,_,c0,c1,c2,c3⟩:=(H.out.1.below HT.out.2.2.1).at j hjl
   have hty:TyV wr.heap.size wr l[j].2.2.2.2 (slv l[j].2.2.2.1):=by
    obtain ⟨_,_,_,_,h2⟩:=H.out.1
    exact ((h2 _ (List.getElem_mem hjl)).below HT.out.2.2.1).keep HT.out.2.2.1.size fun _ _ _=>rfl
   have hsz:=H.out.2.2 _ (List.getElem_mem hjl)
   have htk:l.take (j+1)=l.take j ++ [l[j]]:=by rw [List.take_succ_eq_append_getElem hjl]
   obtain ⟨x,hx⟩:∃x,l[j]=x:=⟨_,rfl⟩
   rw [hx] at c0 c1 c2 c3 hty hsz htk
   obtain ⟨x0,k,n,⟨u1,u2,u3⟩,ps⟩:=x
   dsimp only [slv] at c0 c1 c2 c3 hsz
   have HX:=kI (aI hty (aI hsz (aI htk hjl)))
   clear hty hsz htk hx
   go_upto_region 5 with fail
   refine wp_world (fun Y=>Below wr.heap.size wr Y∧Y.heap[wr.heap.size]? = some (Obj.cells #[.int .i64 x0,.int .i64 k,.int .i64 n,.slice u1 u2 u3] 52)) ⟨(Below.refl _ _).alloc (Nat.le_refl _) _,heap_alloc_new wr _⟩ ?_
   rintro Y ⟨hY,hxY⟩
   have hbY:=HT.out.2.2.1.trans (hY.mono HT.out.2.2.1.size)
   have hoY:=own_below HT.out.1 hY
   obtain ⟨SS,hSS⟩:∃SS:World→Prop,(fun W=>Else (fun i=>(Value.slice As L.length cs).ownBlock=some i) Y W)=SS:=⟨_,rfl⟩
   have hown:∀i,(Value.slice As L.length cs).ownBlock=some i→i≠wr.heap.size:=fun i hi=>by have:=(HT.out.1.lt i hi).2;omega
   have EX:Hid (∀W,SS W→W.cell? ⟨wr.heap.size,0,none⟩=some (.int .i64 x0)∧W.cell? ⟨wr.heap.size,1,none⟩=some (.int .i64 k)∧W.cell? ⟨wr.heap.size,2,none⟩=some (.int .i64 n)∧W.cell? ⟨wr.heap.size,3,none⟩=some (.slice u1 u2 u3)):=kI fun W hW=>by
    rw [←hSS] at hW
    have hw:=(hW.block _ (gL hxY).1 fun h=>hown _ h rfl).trans hxY
    exact ⟨cell_of_row W _ 0 _ _ (0,0) hw,cell_of_row W _ 1 _ _ (0,0) hw,cell_of_row W _ 2 _ _ (0,0) hw,cell_of_row W _ 3 _ _ (0,0) hw⟩
   have hd:Below Y.heap.size Y Y.drew:=(Below.refl _ _).drew
   have HV:=kI (var_any x0 Y.drew)
   have HC:Hid (∀W,Below Y.heap.size Y W→Calls Tryz.prog 52 #[.agg #[.int .i64 k,.int .i64 n,.slice u1 u2 u3]] W fun e w'=>∃u':Sl,e = .returned (tyVal k n (slv u'))∧Below W.heap.size W w'∧FreshT 28 W.heap.size w' idn ps u'):=kI fun W hW=>
    copy_any W k n (u1,u2,u3) ps ((HX.out.1.below (hY.trans (hW.mono hY.size))).keep (hY.trans (hW.mono hY.size)).size fun _ _ _=>rfl) HX.out.2.1
   have HY:=kI (aI hY (aI hbY hoY))
   have HSS:=kI hSS
   clear hY hxY hbY hoY hSS hown c0 c1 c2 c3
   dsimp only [tyVal] at HV
   go_wp2_with fail
   have hB0:Below Y.heap.size Y Y.drew:=(Below.refl _ _).drew
   have hS:SS Y.drew:=by rw [←HSS.out];exact Else.of_below hB0
   refine wp_region_held (S:=SS) (by kernel_rfl) ?_
   change wpAnyH _ _ _ _ _ 11 (List.replicate 11 false).toArray _ Y.drew
   simp only [List.replicate_succ,List.replicate_zero]
   refine tj (i:=0) (some 12) (.slice As L.length cs) rfl hS ?_
   simp only [Act.put,zA,zB,zC]
   refine tj (i:=1) (some 13) (.pointer (some ⟨wr.heap.size,0,none⟩)) rfl hS ?_
   simp only [Act.put,zA,zB,zC]
   refine tk (i:=2) (some 14) (.int .i64 x0) rfl (fun W hw=>by obtain ⟨n0_,n1_,n2_,n3_⟩:=EX.out W hw;clear hw;go_simp) hS ?_
   simp only [Act.put,zA,zB,zC]
   refine tj (i:=4) (some 16) (.pointer (some ⟨wr.heap.size,1,none⟩)) rfl hS ?_
   simp only [Act.put,zA,zB,zC]
   refine tk (i:=5) (some 17) (.agg #[.int .i64 k,.int .i64 n,.slice u1 u2 u3]) rfl (fun W hw=>by obtain ⟨n0_,n1_,n2_,n3_⟩:=EX.out W hw;clear hw;go_simp) hS ?_
   simp only [Act.put,zA,zB,zC]
   refine aK 3 ?_
   refine ops_call (d:=some 15) rfl (by rfl) (by kernel_rfl) (by go_simp) (HV.out.mono ?_)
   rintro e w4 ⟨rfl,hb4⟩
   have hB4:Below Y.heap.size Y w4:=hB0.trans (hb4.mono hB0.size)
   have hS4:SS w4:=by rw [←HSS.out];exact Else.of_below hB4
   refine ⟨_,rfl,hS4,?_⟩
   simp only [Act.put,zA,zB,zC]
   refine aK 6 ?_
   refine ops_call (d:=some 18) rfl (by rfl) (by kernel_rfl) (by go_simp) ((HC.out _ hB4).mono ?_)
   rintro e wi ⟨⟨v1,v2,v3⟩,rfl,hbi,hfi⟩
   have hBi:Below Y.heap.size Y wi:=hB4.trans (hbi.mono hB4.size)
   have hSi:SS wi:=by rw [←HSS.out];exact Else.of_below hBi
   have hfY:=hfi.mono hB4.size
   dsimp only [tyVal,slv]
   refine ⟨_,rfl,hSi,?_⟩
   simp only [Act.put,zA,zB,zC]
   refine tj (i:=7) (some 19) (.agg #[.int .i64 1,.int .i64 x0,.slice none 0 0,.int .i64 k,.int .i64 n,.slice v1 v2 v3,.int .i64 0,.int .i64 0]) rfl hSi ?_
   simp only [Act.put,zA,zB,zC]
   have hB2:Below Y.heap.size Y (wi.alloc (.cells #[.int .i64 1,.int .i64 x0,.slice none 0 0,.int .i64 k,.int .i64 n,.slice v1 v2 v3,.int .i64 0,.int .i64 0] 32)):=hBi.alloc hBi.size _
   have hS2:SS (wi.alloc (.cells #[.int .i64 1,.int .i64 x0,.slice none 0 0,.int .i64 k,.int .i64 n,.slice v1 v2 v3,.int .i64 0,.int .i64 0] 32)):=by rw [←HSS.out];exact Else.of_below hB2
   refine aK 8 ?_
   refine ops_val (d:=some 20) (v:=.slice (some ⟨wi.heap.size,0,none⟩) 1 1) (w':=wi.alloc (.cells #[.int .i64 1,.int .i64 x0,.slice none 0 0,.int .i64 k,.int .i64 n,.slice v1 v2 v3,.int .i64 0,.int .i64 0] 32)) rfl (by rfl) (by kernel_rfl) (by clear hS hS4 hSi hS2 EX;go_simp) hS2 ?_
   simp only [Act.put,zA,zB,zC]
   have hoi:=own_below HY.out.2.2 hBi
   obtain ⟨g,cp,w6,hrun,ho6,hgr⟩:=app_eq wi (.slice As L.length cs) L w.heap.size (by have:=HY.out.2.1.size;have:=hBi.size;omega) hoi ((1,x0,(none,0,0),.nil),(k,n,(v1,v2,v3),ps),(0,0)) (by have:=HT.out.2.2.2;omega)
   have hE6:Else (fun i=>(Value.slice As L.length cs).ownBlock=some i) Y w6:=(Else.of_below hB2).trans (Else.grown hgr fun i hi=>hi)
   have hnT:∀i,(Value.slice As L.length cs).ownBlock=some i→w.heap.size≤i→∀c:Array Value,Y.heap[i]?≠some (Obj.cells c 28):=fun i hi _=>row_not HY.out.2.2 (by decide) i hi
   have hnI:∀i,(Value.slice As L.length cs).ownBlock=some i→i<wi.heap.size∧∀c:Array Value,wi.heap[i]?≠some (Obj.cells c 28):=fun i hi=>⟨(hoi.lt i hi).2,row_not hoi (by decide) i hi⟩
   have hEi:Else (fun i=>(Value.slice As L.length cs).ownBlock=some i) wi w6:=(Un.Else.alloc (fun i=>(Value.slice As L.length cs).ownBlock=some i) wi _).trans (Else.grown hgr fun i hi=>hi)
   have hf6:FreshT 28 w.heap.size w6 idn ps (v1,v2,v3):=(hfY.mono HY.out.2.1.size).to hEi.size fun b cs hb hc=>(hEi.block b (gL hc).1 fun h=>(hnI b h).2 cs hc).trans hc
   have hM6:=(HT.out.2.1.keep (Else.of_below HY.out.1) (S:=fun _=>False) fun k h=>h.elim).keep hE6 hnT
   have hB6:Below w.heap.size w w6:=HY.out.2.1.trans (hE6.below (fun i hi=>(HY.out.2.2.lt i hi).1) HY.out.2.1.size)
   have hS6:SS w6:=by rw [←HSS.out];exact hE6
   have H6:=kI (aI ho6 (aI hf6 (aI hM6 hB6)))
   refine aK 9 ?_
   refine ops_val (d:=some 21) (v:=.slice (some ⟨g,0,none⟩) (L.length+1) cp) (w':=w6) rfl (by rfl) (by kernel_rfl) (exec_append rfl rfl rfl hrun) hS6 ?_
   simp only [Act.put,zA,zB,zC]
   clear hrun hS hS4 hSi hS2 hB0 hB4 hBi hB2 hb4 hbi hfi hfY hgr ho6 hE6 hnT hnI hEi hf6 hM6 hB6 hoi hd
   refine tj (i:=10) (some 3) (.slice (some ⟨g,0,none⟩) (L.length+1) cp) rfl hS6 ?_
   simp only [Act.put,zA,zB,zC]
   refine wpAnyH_done (by kernel_rfl) ?_ _
   clear hS6 EX HV HC
   go_wp2_with fail
   go_roundw
   case rel=>
    refine ⟨j+1,L ++ [((1,x0,(none,0,0),.nil),(k,n,(v1,v2,v3),ps),(0,0))],by go_num,HX.out.2.2.2,H6.out.1,⟨?_,fun x hx=>?_⟩,H6.out.2.2.2⟩
    ·rw [HX.out.2.2.1,List.map_append,List.map_append,H6.out.2.2.1.1]
     rfl
    ·rcases List.mem_append.1 hx with hx|hx
     ·exact H6.out.2.2.1.2 x hx
     ·obtain rfl:x=_:=by simpa using hx
      exact H6.out.2.1
   case measure=>have:=HX.out.2.2.2;simp [intOf];omega
  ·have f1:decide ((j:Int)<(l.length:Int))=false:=decide_eq_false (by omega)
   have hjl':l.take j=l:=List.take_of_length_le (by omega)
   rw [hjl'] at HT
   clear hjl'
   go_wp2_with fail
   exact bodyPost_ret (results_tmp rfl _ _ _) rfl ⟨L,.slice As L.length cs,rfl,HT.out.1,HT.out.2.1,HT.out.2.2.1⟩
end Go.Proofs.YtgjlmjlfghodmaaGreatDoor
namespace Go.Proofs.YtgjlmjlfghodmaaGreatDoor
open Go.RowKit
open Un (Else own_else wp_world)
attribute [local go_sem] Oper.semAt_some
set_option maxRecDepth 100000
theorem own_eqs {B:Nat}{w:World}{l:List Eqn}{v:Value}(h:w.ownsRow B 32 8 v l.length (eqR l)) (i:Nat) (hi:i<l.length):∃b off c,v = .slice (some ⟨b,off,none⟩) l.length c∧l.length≤c∧b<w.heap.size∧EqAt w b (off+i*8) l[i]:=by
 obtain ⟨g,c,rfl,hc,hg⟩:=Un.own_shape h (by omega)
 have hl:=eqR_len l
 have hc8:(eqC l[i]).length=8:=rfl
 have k:∀o,(ho:o<8)→w.cell? ⟨g,0+i*8+o,none⟩=(eqC l[i])[o]?:=fun o ho=>by
  rw [Nat.zero_add,h.cellAt (i*8+o) (by omega)]
  exact eqR_get hi o ho
 exact ⟨g,0,c,rfl,hc,hg,k 0 (by omega),k 1 (by omega),k 2 (by omega),k 3 (by omega),k 4 (by omega),k 5 (by omega),k 6 (by omega),k 7 (by omega)⟩
theorem EqsOf.at {B:Nat}{W:World}{L:List Eqn}{l:List Bnd}(h:EqsOf B W L l) {j:Nat}(hj:j<l.length) (hj':j<L.length) {x0 k n:Int}{u:Sl}{ps:Fo}(hx:l[j]=(x0,k,n,u,ps)):∃u',L[j]=((1,x0,(none,0,0),.nil),(k,n,u',ps),(0,0))∧FreshT 28 B W idn ps u':=by
 have h1:=congrArg (fun z=>z[j]?) h.1
 simp only [List.getElem?_map,List.getElem?_eq_getElem hj,List.getElem?_eq_getElem hj',Option.map_some,Option.some.injEq,hx] at h1
 have h2:=h.2 _ (List.getElem_mem hj')
 obtain ⟨y,hy⟩:∃y,L[j]=y:=⟨_,rfl⟩
 rw [hy] at h1 h2 ⊢
 obtain ⟨a,⟨k',n',u',ps'⟩,s⟩:=y
 simp only [Prod.mk.injEq] at h1
 obtain ⟨rfl,rfl,rfl,rfl,rfl⟩:=h1
 exact ⟨u',rfl,h2⟩
set_option maxHeartbeats 8000000 in
theorem stells_law (w:World) (l:List Bnd) (v:Value) (hl:BdV w.heap.size w l v) (ht:Tab w):
  Calls Tryz.prog 8 #[v] w fun e w'=>e = .returned (.bool true)∧Below w.heap.size w w':=by
 have HG1:=kI (great_bind w l v hl)
 have HL:=kI hl
 have HTB:=kI ht
 obtain ⟨Al,cl,rfl⟩:=hl.form
 obtain ⟨gr,hgr⟩:∃g,greatV l=g:=⟨_,rfl⟩
 rw [hgr] at HG1
 have HGR:=kI hgr
 clear hl ht hgr
 go_enter Tryz.func8,Tryz.ntmps8
 go_wp2_with fail
 refine HG1.out.mono ?_
 clear HG1
 rintro e w1 ⟨rfl,hb1⟩
 cases gr with
 | true=>
  have HAW:=kI (awake14 w1 (HTB.out.below hb1))
  have HB1:=kI hb1
  clear hb1
  go_wp2_with fail
  refine HAW.out.mono ?_
  rintro e w2 ⟨rfl,hb2⟩
  have HB2:=kI (HB1.out.trans (hb2.mono HB1.out.size))
  clear hb2
  go_wp2_with fail
  exact bodyPost_ret (results_tmp rfl _ _ _) rfl ⟨rfl,HB2.out⟩
 | false=>
  obtain ⟨hl24,hsm,_⟩:=greatV_false HGR.out
  have HEQ:=kI (equations_any w1 l _ (HL.out.later hb1) hl24 fun x hx=>by have:=(hsm x hx).1;omega)
  have HB1:=kI (aI hb1 hsm)
  clear hb1 hsm
  go_wp2_with fail
  refine HEQ.out.mono ?_
  clear HEQ
  rintro e w2 ⟨L,v',rfl,ho,hM,hb2⟩
  obtain ⟨A',c',rfl,_,_⟩:=Un.own_form ho
  have hLl:=hM.len
  have f0:((L.length:Int) != (l.length:Int))=false:=by simp [hLl]
  have H2:=kI (aI ho (aI hM (aI hb2 (aI hLl (HB1.out.1.trans (hb2.mono HB1.out.1.size))))))
  clear ho hM hb2 hLl
  go_wp2_with fail
  go_loopw [4] (fun s4 wr=>∃j:Nat,s4 = .int .i64 (j:Nat)∧j≤l.length∧Below w2.heap.size w2 wr) (fun s _=>l.length-(intOf s).toNat)
  case atStart=>exact ⟨0,rfl,Nat.zero_le _,Below.refl _ _⟩
  case round=>
   obtain ⟨j,rfl,hj,hb⟩:=hrel
   have hbw:=H2.out.2.2.2.2.trans (hb.mono H2.out.2.2.2.2.size)
   have HT:=kI (aI hb hbw)
   clear hb hbw
   by_cases hjl:j<l.length
   ·have f1:decide ((j:Int)<(l.length:Int))=true:=decide_eq_true (by omega)
    have hLl:=H2.out.2.2.2.1
    have hjL:j<L.length:=by omega
    have f2:decide (j<L.length)=true:=decide_eq_true hjL
    have f3:decide (j<l.length)=true:=decide_eq_true hjl
    obtain ⟨b,off,rfl,_,c0,c1,c2,c3⟩:=(HL.out.below HT.out.2).at j hjl
    have hty:TyV wr.heap.size wr l[j].2.2.2.2 (slv l[j].2.2.2.1):=by
     obtain ⟨_,_,_,_,h2⟩:=HL.out
     exact ((h2 _ (List.getElem_mem hjl)).below HT.out.2).keep HT.out.2.size fun _ _ _=>rfl
    have hsz:=(HB1.out.2 _ (List.getElem_mem hjl)).1
    obtain ⟨x,hx⟩:∃x,l[j]=x:=⟨_,rfl⟩
    obtain ⟨x0,k,n,⟨u1,u2,u3⟩,ps⟩:=x
    obtain ⟨⟨v1,v2,v3⟩,hLx,hf⟩:=H2.out.2.1.at hjl hjL hx
    obtain ⟨b',off',c'',e1,hc1,hc2,hat⟩:=own_eqs (own_below H2.out.1 HT.out.1) j hjL
    cases e1
    rw [hLx] at hat
    rw [hx] at c0 c1 c2 c3 hty hsz
    obtain ⟨z0,z1,z2,z3,z4,z5,z6,z7⟩:=hat
    dsimp only [slv] at c0 c1 c2 c3 hsz z0 z1 z2 z3 z4 z5 z6 z7
    have EX:Hid (∀W,Below wr.heap.size wr W→(W.cell? ⟨b',off'+j*8,none⟩=some (.int .i64 1)∧W.cell? ⟨b',off'+j*8+1,none⟩=some (.int .i64 x0)∧W.cell? ⟨b',off'+j*8+2,none⟩=some (.slice none 0 0)∧W.cell? ⟨b',off'+j*8+3,none⟩=some (.int .i64 k)∧W.cell? ⟨b',off'+j*8+3+1,none⟩=some (.int .i64 n)∧W.cell? ⟨b',off'+j*8+3+2,none⟩=some (.slice v1 v2 v3)∧W.cell? ⟨b',off'+j*8+6,none⟩=some (.int .i64 0)∧W.cell? ⟨b',off'+j*8+6+1,none⟩=some (.int .i64 0))∧
      W.cell? ⟨b,off+j*4,none⟩=some (.int .i64 x0)∧W.cell? ⟨b,off+j*4+1,none⟩=some (.int .i64 k)∧W.cell? ⟨b,off+j*4+1+1,none⟩=some (.int .i64 n)∧W.cell? ⟨b,off+j*4+1+2,none⟩=some (.slice u1 u2 u3)):=kI fun W hb=>
     have c:∀(b o:Nat) (u:Value),wr.cell? ⟨b,o,none⟩=some u→W.cell? ⟨b,o,none⟩=some u:=fun b o u h=>(hb.cell (World.block_lt_of_cell? _ _ h)).trans h
     ⟨⟨c _ _ _ z0,c _ _ _ z1,c _ _ _ z2,c _ _ _ z3,c _ _ _ z4,c _ _ _ z5,c _ _ _ z6,c _ _ _ z7⟩,c _ _ _ c0,c _ _ _ c1,c _ _ _ c2,c _ _ _ c3⟩
    have HS1:Hid (∀W,Below wr.heap.size wr W→Calls Tryz.prog 22 #[.agg #[.int .i64 1,.int .i64 x0,.slice none 0 0],.agg #[.int .i64 1,.int .i64 x0,.slice none 0 0]] W fun e w'=>e = .returned (.bool true)∧Below W.heap.size W w'):=kI fun W _=>by
     have h:=rsame_any 1 .nil .nil 1 x0 1 x0 (slv (none,0,0)) (slv (none,0,0)) W (by simp [Fo.size]) (by simp [Fo.size]) (by simp [Fo.size]) (no_parts _ _) (no_parts _ _)
     have e1:((1:Int) == 1 && x0 == x0 && Fo.nil.same .nil)=true:=by simp [Fo.same]
     rw [e1] at h
     exact h
    have HS2:Hid (∀W,Below wr.heap.size wr W→Calls Tryz.prog 22 #[.agg #[.int .i64 k,.int .i64 n,.slice v1 v2 v3],.agg #[.int .i64 k,.int .i64 n,.slice u1 u2 u3]] W fun e w'=>e = .returned (.bool true)∧Below W.heap.size W w'):=kI fun W hW=>by
     obtain ⟨g,hi,hg⟩:=((hf.below HT.out.1).below hW).now
     have h:=rsame_any (g.size+1) g ps k n k n (slv (v1,v2,v3)) (slv (u1,u2,u3)) W (by omega) (by rw [hi.size];omega) (by omega) hg ((hty.below hW).keep hW.size fun _ _ _=>rfl)
     have e1:(k == k && n == n && g.same ps)=true:=by simp [Img.same (img_symm hi)]
     rw [e1] at h
     exact h
    clear c0 c1 c2 c3 hty hsz hx hLx hf hc2 z0 z1 z2 z3 z4 z5 z6 z7
    go_wp2_with fail
    have hS:Below wr.heap.size wr wr.drew:=(Below.refl _ _).drew
    refine wp_region_held (S:=(fun W=>Below wr.heap.size wr W)) (by kernel_rfl) ?_
    change wpAnyH _ _ _ _ _ 36 (List.replicate 36 false).toArray _ wr.drew
    simp only [List.replicate_succ,List.replicate_zero]
    refine tj (i:=0) (some 21) (.slice (some ⟨b',off',none⟩) L.length c') rfl hS ?_
    simp only [Act.put,zA,zB,zC]
    refine tj (i:=1) (some 22) (.int .i64 (j:Nat)) rfl hS ?_
    simp only [Act.put,zA,zB,zC]
    refine tj (i:=2) (some 23) (.pointer (some ⟨b',off'+j*8,none⟩)) rfl hS ?_
    simp only [Act.put,zA,zB,zC]
    refine tj (i:=3) (some 24) (.pointer (some ⟨b',off'+j*8,none⟩)) rfl hS ?_
    simp only [Act.put,zA,zB,zC]
    refine tk (i:=4) (some 25) (.agg #[.int .i64 1,.int .i64 x0,.slice none 0 0]) rfl (fun W hw=>by obtain ⟨⟨m0_,m1_,m2_,m3_,m4_,m5_,m6_,m7_⟩,n0_,n1_,n2_,n3_⟩:=EX.out W hw;clear hw;go_simp) hS ?_
    simp only [Act.put,zA,zB,zC]
    refine tj (i:=5) (some 26) (.slice (some ⟨b,off,none⟩) l.length cl) rfl hS ?_
    simp only [Act.put,zA,zB,zC]
    refine tj (i:=6) (some 27) (.int .i64 (j:Nat)) rfl hS ?_
    simp only [Act.put,zA,zB,zC]
    refine tj (i:=7) (some 28) (.pointer (some ⟨b,off+j*4,none⟩)) rfl hS ?_
    simp only [Act.put,zA,zB,zC]
    refine tj (i:=8) (some 29) (.pointer (some ⟨b,off+j*4,none⟩)) rfl hS ?_
    simp only [Act.put,zA,zB,zC]
    refine tk (i:=9) (some 30) (.int .i64 x0) rfl (fun W hw=>by obtain ⟨⟨m0_,m1_,m2_,m3_,m4_,m5_,m6_,m7_⟩,n0_,n1_,n2_,n3_⟩:=EX.out W hw;clear hw;go_simp) hS ?_
    simp only [Act.put,zA,zB,zC]
    refine tj (i:=10) (some 31) (.agg #[.int .i64 1,.int .i64 x0,.slice none 0 0]) rfl hS ?_
    simp only [Act.put,zA,zB,zC]
    refine aK 11 ?_
    refine ops_call (d:=some 32) rfl (by rfl) (by kernel_rfl) (by go_simp) ((HS1.out _ hS).mono ?_)
    rintro e w4 ⟨rfl,hbw4⟩
    have hS4:Below wr.heap.size wr w4:=hS.trans (hbw4.mono hS.size)
    refine ⟨_,rfl,hS4,?_⟩
    simp only [Act.put,zA,zB,zC]
    refine tj (i:=12) (some 33) (.bool false) rfl hS4 ?_
    simp only [Act.put,zA,zB,zC]
    refine tj (i:=13) (some 34) (.bool false) rfl hS4 ?_
    simp only [Act.put,zA,zB,zC]
    refine tj (i:=14) (some 35) (.slice (some ⟨b',off',none⟩) L.length c') rfl hS4 ?_
    simp only [Act.put,zA,zB,zC]
    refine tj (i:=15) (some 36) (.int .i64 (j:Nat)) rfl hS4 ?_
    simp only [Act.put,zA,zB,zC]
    refine tj (i:=16) (some 37) (.pointer (some ⟨b',off'+j*8,none⟩)) rfl hS4 ?_
    simp only [Act.put,zA,zB,zC]
    refine tj (i:=17) (some 38) (.pointer (some ⟨b',off'+j*8+3,none⟩)) rfl hS4 ?_
    simp only [Act.put,zA,zB,zC]
    refine tk (i:=18) (some 39) (.agg #[.int .i64 k,.int .i64 n,.slice v1 v2 v3]) rfl (fun W hw=>by obtain ⟨⟨m0_,m1_,m2_,m3_,m4_,m5_,m6_,m7_⟩,n0_,n1_,n2_,n3_⟩:=EX.out W hw;clear hw;go_simp) hS4 ?_
    simp only [Act.put,zA,zB,zC]
    refine tj (i:=19) (some 40) (.slice (some ⟨b,off,none⟩) l.length cl) rfl hS4 ?_
    simp only [Act.put,zA,zB,zC]
    refine tj (i:=20) (some 41) (.int .i64 (j:Nat)) rfl hS4 ?_
    simp only [Act.put,zA,zB,zC]
    refine tj (i:=21) (some 42) (.pointer (some ⟨b,off+j*4,none⟩)) rfl hS4 ?_
    simp only [Act.put,zA,zB,zC]
    refine tj (i:=22) (some 43) (.pointer (some ⟨b,off+j*4+1,none⟩)) rfl hS4 ?_
    simp only [Act.put,zA,zB,zC]
    refine tk (i:=23) (some 44) (.agg #[.int .i64 k,.int .i64 n,.slice u1 u2 u3]) rfl (fun W hw=>by obtain ⟨⟨m0_,m1_,m2_,m3_,m4_,m5_,m6_,m7_⟩,n0_,n1_,n2_,n3_⟩:=EX.out W hw;clear hw;go_simp) hS4 ?_
    simp only [Act.put,zA,zB,zC]
    refine aK 24 ?_
    refine ops_call (d:=some 45) rfl (by rfl) (by kernel_rfl) (by go_simp) ((HS2.out _ hS4).mono ?_)
    rintro e w5 ⟨rfl,hbw5⟩
    have hS5:Below wr.heap.size wr w5:=hS4.trans (hbw5.mono hS4.size)
    refine ⟨_,rfl,hS5,?_⟩
    simp only [Act.put,zA,zB,zC]
    refine tj (i:=25) (some 46) (.bool false) rfl hS5 ?_
    simp only [Act.put,zA,zB,zC]
    refine tj (i:=26) (some 47) (.bool false) rfl hS5 ?_
    simp only [Act.put,zA,zB,zC]
    refine tj (i:=27) (some 48) (.bool false) rfl hS5 ?_
    simp only [Act.put,zA,zB,zC]
    refine tj (i:=28) (some 49) (.slice (some ⟨b',off',none⟩) L.length c') rfl hS5 ?_
    simp only [Act.put,zA,zB,zC]
    refine tj (i:=29) (some 50) (.int .i64 (j:Nat)) rfl hS5 ?_
    simp only [Act.put,zA,zB,zC]
    refine tj (i:=30) (some 51) (.pointer (some ⟨b',off'+j*8,none⟩)) rfl hS5 ?_
    simp only [Act.put,zA,zB,zC]
    refine tj (i:=31) (some 52) (.pointer (some ⟨b',off'+j*8+6,none⟩)) rfl hS5 ?_
    simp only [Act.put,zA,zB,zC]
    refine tk (i:=32) (some 53) (.agg #[.int .i64 0,.int .i64 0]) rfl (fun W hw=>by obtain ⟨⟨m0_,m1_,m2_,m3_,m4_,m5_,m6_,m7_⟩,n0_,n1_,n2_,n3_⟩:=EX.out W hw;clear hw;go_simp) hS5 ?_
    simp only [Act.put,zA,zB,zC]
    refine tj (i:=33) (some 54) (.agg #[.int .i64 0,.int .i64 0]) rfl hS5 ?_
    simp only [Act.put,zA,zB,zC]
    refine tj (i:=34) (some 55) (.bool false) rfl hS5 ?_
    simp only [Act.put,zA,zB,zC]
    refine tj (i:=35) (some 56) (.bool false) rfl hS5 ?_
    simp only [Act.put,zA,zB,zC]
    refine wpAnyH_done (by kernel_rfl) ?_ _
    have HB5:=kI (HT.out.1.trans (hS5.mono HT.out.1.size))
    clear hS hS4 hS5 hbw4 hbw5 EX HS1 HS2
    go_wp2_with fail
    go_roundw
    case rel=>exact ⟨j+1,by go_num,hjl,HB5.out⟩
    case measure=>simp [intOf];omega
   ·have f1:decide ((j:Int)<(l.length:Int))=false:=decide_eq_false (by omega)
    have HAW:=kI (awake14 wr (HTB.out.below HT.out.2))
    go_wp2_with fail
    refine HAW.out.mono ?_
    rintro e w3 ⟨rfl,hb3⟩
    have HB3:=kI (HT.out.2.trans (hb3.mono HT.out.2.size))
    clear hb3
    go_wp2_with fail
    exact bodyPost_ret (results_tmp rfl _ _ _) rfl ⟨rfl,HB3.out⟩
end Go.Proofs.YtgjlmjlfghodmaaGreatDoor
namespace Go.Proofs.YtgjlmjlfghodmaaGreatDoor.Card
open Go.ChangeShapes Go.WideShapes Go.ChangeAt Go.RowKit
set_option linter.unusedVariables false
theorem own:ownKnob Tryz.prog.godebug=none:=by kernel_rfl
theorem laidOut:laidOutB Tryz.prog=true:=by kernel_rfl
def laid3:List (String×DataW Unit):=[("math/bits.deBruijn32tab",Rows.laid_math_bits_deBruijn32tab),("math/bits.deBruijn64tab",Rows.laid_math_bits_deBruijn64tab),("internal/strconv.uint64pow10",Rows.laid_internal_strconv_uint64pow10)]
theorem tabEq:(Rows.laid_internal_strconv_uint64pow10:DataW Unit)=Lib.tabData .u64 Lib.pow10Tab:=by rfl
theorem gPow:∃g t,Tryz.prog.globalNamed "internal/strconv.uint64pow10" = some g∧(Tryz.prog.globals[g]?).map (·.type)=some t∧∃n e,Tryz.prog.underlying t=some (.array n e)∧Tryz.prog.underlying e=some (.int .u64)∧Tryz.prog.cellsOf e=1∧Tryz.prog.cellsOf t=n:=by
 exact ⟨0,257,by kernel_rfl,by kernel_rfl,20,245,by kernel_rfl,by kernel_rfl,by kernel_rfl,by kernel_rfl⟩
theorem tab_of_laid {W:World}(h:laidMetH Tryz.prog laid3 W):Tab W:=by
 rw [MakeChecks.laidMetH_plain _ _ _ (by kernel_rfl)] at h
 obtain ⟨g,t,hg,hty,n,e,ht,he,hce,hct⟩:=gPow
 obtain ⟨ps,⟨_,_,_,_,_,_,_,_,_,_,⟨_,_,_,_,_,_,_,_,_,_,⟨g',t',cs,fuel,p,q,hg',ht',hvar,hd,_,_⟩,_⟩,_⟩,_⟩:=h
 obtain rfl:=Option.some.inj (hg.symm.trans hg')
 obtain rfl:=Option.some.inj (hty.symm.trans ht')
 rw [tabEq] at hd
 unfold Tab Lib.TabIs
 rw [hvar,←Lib.cells_of_tab ht he hce hct hd]
theorem door_met (os:Os) (args:Array Value):laidMetH Tryz.prog laid3 ((World.doorLaid Tryz.prog 400 os).forCall (fun _ _=>0) ⟨#[],args,[]⟩).memory:=
 laidMetH_of_parts3 (fuel:=8) (laidMet_of_run' 8 (by kernel_rfl) (by kernel_rfl)) (by kernel_rfl) (by kernel_rfl)
end Go.Proofs.YtgjlmjlfghodmaaGreatDoor.Card
