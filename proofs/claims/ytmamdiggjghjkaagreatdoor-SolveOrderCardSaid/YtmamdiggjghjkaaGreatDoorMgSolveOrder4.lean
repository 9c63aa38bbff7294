/- Texts of one proof, one behind the other. -/
import Derived.Test.YtmamdiggjghjkaaGreatDoorMgSolveOrder1
import Derived.Test.YtmamdiggjghjkaaGreatDoorMgSolveOrder3
import Derived.Test.YtmamdiggjghjkaaGreatDoorMgSolveOrder2
import Derived.Test.YtmamdiggjghjkaaGreatDoorShBu
import Derived.Laws.IdiomStrings
import Derived.WalkSmall
import Derived.Lib.ItoaLen
import Derived.Deep.RegionWith
set_option linter.unusedVariables false
namespace Go.Proofs.YtmamdiggjghjkaaGreatDoor
section
open Go.RowKit Go.Shelf Go.Sort Go.Maps
def nameB (n:Int):List UInt8:=
 if (decide (0≤n) && decide (n<1073741824)) then 39 :: UInt8.ofNat (97+(n % 26).toNat) :: (if n<26 then [] else Lib.itoa (n / 26)) else []
def Tab (w:World):Prop:=Lib.TabIs Tryz.prog w "internal/strconv.uint64pow10" .u64 Lib.pow10Tab
theorem gTab:(Tryz.prog.globalNamed "internal/strconv.uint64pow10").isSome=true:=by kernel_rfl
theorem Tab.below {w w':World}(h:Tab w) (hb:Below w.heap.size w w'):Tab w':=by
 obtain ⟨g,hg⟩:=Option.isSome_iff_exists.1 gTab
 have hlt:g<w.heap.size:=by
  have h2:=h
  unfold Tab Lib.TabIs World.var? at h2
  rw [hg,Option.bind_some] at h2
  rcases Nat.lt_or_ge g w.heap.size with h'|h'
  ·exact h'
  ·rw [Array.getElem?_eq_none h'] at h2
   cases h2
 exact var?_below hb hg hlt h
theorem below_grow (w:World) (k:Nat) (os:Array Obj):Below w.heap.size w (grow (w.drewN k) os):=by
 refine (below_drewN (Below.refl _ w) k).trans ⟨rfl,rfl,rfl,?_,fun i hi=>?_⟩
 ·simp [grow]
 ·have hd:(w.drewN k).heap=w.heap:=rfl
  show ((w.drewN k).heap++os)[i]? = _
  rw [hd,Array.getElem?_append_left hi]
theorem bapp (a b:List UInt8):(⟨a.toArray⟩:ByteArray) ++ ⟨b.toArray⟩=⟨(a++b).toArray⟩:=by
 apply ByteArray.ext
 simp [ByteArray.data_append]
def brk (x:Int×List UInt8):List UInt8:=if x.1=4 then 40 :: (x.2 ++ [41]) else x.2
def sepT:List (Int×List UInt8)→List UInt8
 | []=>[]
 | [x]=>brk x
 | x :: y :: r=>brk x++32 :: 42 :: 32 :: sepT (y :: r)
def oneT (k n:Int) (l:List (Int×List UInt8)):List UInt8:=
 if k=1 then nameB n else if k=2 then [105,110,116] else if k=3 then [98,111,111,108]
 else if k=4 then (match l with | [x,y]=>brk x++32 :: 45 :: 62 :: 32 :: y.2|_=>[])
 else if k=5 then 40 :: (sepT l ++ [41]) else []
namespace Fo
def txts:Fo→List (Int×List UInt8)
 | nil=>[]
 | cons k n _ ps r=>(k,oneT k n ps.txts) :: r.txts
end Fo
set_option maxHeartbeats 1000000 in
set_option maxRecDepth 100000 in
theorem name_any (n:Int) (w:World) (ht:Tab w):Calls Tryz.prog 105 #[.int .i64 n] w fun e w'=>e = .returned (.string ⟨(nameB n).toArray⟩)∧Below w.heap.size w w':=by
 go_enter Tryz.func105,Tryz.ntmps105
 obtain ⟨b,hb⟩:∃b,(decide (0≤n) && decide (n<1073741824))=b:=⟨_,rfl⟩
 have hn:=number_any n
 rw [hb] at hn
 cases b
 ·go_wp2_with (go_at_call 125;refine (hn _).mono ?_;rintro e w' ⟨rfl,hw'⟩;subst w')
  go_ret
  refine ⟨?_,Below.refl _ _⟩
  rw [nameB,hb];rfl
 ·simp only [Bool.and_eq_true] at hb
  obtain ⟨hb1,hb2⟩:=hb
  have h0:=of_decide_eq_true hb1
  have h1:=of_decide_eq_true hb2
  have hm1:0≤n % 26:=Int.emod_nonneg _ (by omega)
  have hm2:n % 26<26:=Int.emod_lt_of_pos _ (by omega)
  obtain ⟨c,hc⟩:∃c,UInt8.ofNat (97+(n % 26).toNat)=c:=⟨_,rfl⟩
  have hct:(c.toNat:Int)=97+n % 26:=by
   rw [←hc,UInt8.toNat_ofNat']
   omega
  have hcv:=run_convert_bytes_back (P:=Tryz.prog) (w.alloc (.cells #[.int .u8 39,.int .u8 (97+n % 26)] 5)) 61 9 5 ⟨w.heap.size,0,none⟩ 2 [39,c] Tryz.underlying61 Tryz.underlying5 Tryz.underlying9 (by
   intro j hj
   have:=cells_new w [.int .u8 39,.int .u8 (97+n % 26)] 5
   match j,hj with
   | 0,_=>exact this 0 _ rfl
   | 1,_=>rw [show ([39,c]:List UInt8)[1]=c from rfl,hct];exact this 1 _ rfl)
  simp only [List.length_cons,List.length_nil,Nat.reduceAdd] at hcv
  by_cases h26:n<26
  ·have f1:decide (n<26)=true:=decide_eq_true h26
   go_wp2_with (go_at_call 125;refine (hn _).mono ?_;rintro e w' ⟨rfl,hw'⟩;subst w')
   go_ret
   refine ⟨?_,(Below.refl _ _).alloc (Nat.le_refl _) _⟩
   rw [nameB,hb1,hb2,hc]
   simp [h26]
  ·have f1:decide (n<26)=false:=decide_eq_false h26
   have hb1':=(Below.refl w.heap.size w).alloc (Nat.le_refl _) (.cells #[.int .u8 39,.int .u8 (97+n % 26)] 5)
   have hlen:(Lib.itoa (n / 26)).length≤21:=Lib.itoa_length_le _ (by omega) (by omega)
   have HT:=kI (Tryz.strconv_Itoa (n / 26) (by omega) (by omega) (w.alloc (.cells #[.int .u8 39,.int .u8 (97+n % 26)] 5)) (ht.below hb1'))
   go_wp2_with (first|(go_at_call 125;refine (hn _).mono ?_;rintro e w' ⟨rfl,hw'⟩;subst w')|(go_at_call 128;refine HT.out.mono ?_;rintro e w' ⟨rfl,kk,os,hw'⟩;subst w'))
   go_ret
   refine ⟨?_,hb1'.trans ((below_grow _ kk os).mono (by simp))⟩
   rw [nameB,hb1,hb2,hc]
   have:=bapp [39,c] (Lib.itoa (n / 26))
   rw [if_neg (show ¬ n<26 by omega)]
   simpa using this
end
section
open Go.RowKit Go.Shelf
attribute [local go_sem] Oper.semAt_some
def allAlone (l:List Tr):Bool:=l.all fun x=>alone x.1 x.2.1 x.2.2.2.1
theorem load_bool {w:World}{g:Nat}{b:Bool}(h:w.cell? ⟨g,0,none⟩=some (.bool b)):(loadVar 4 ⟨g,0,none⟩).run Tryz.prog w = .ok (.bool b) w:=by
 go_simp
set_option maxRecDepth 100000 in
set_option maxHeartbeats 2000000 in
theorem right_any (w:World) (B:Nat) (k n:Int) (u:Sl) (ps:Fo) (hB:B≤w.heap.size) (hps:TyV B w ps (slv u)) (hs:ps.size<1000000):
  Calls Tryz.prog 48 #[tyVal k n (slv u)] w fun e w'=>e = .returned (.bool (allAlone (Fo.cons k n u ps .nil).pre))∧Below w.heap.size w w':=by
 obtain ⟨u1,u2,u3⟩:=u
 dsimp only [tyVal,slv] at hps ⊢
 refine (callsIn_wide (n:=4)).1 ?_
 refine callsIn_of_wp_marks Tryz.func48 rfl trivial ?_ rfl
 simp only [Tryz.ntmps48,List.size_toArray,List.length_cons,List.length_nil,Nat.reduceAdd,Nat.reduceSub,Array.replicate_succ,Array.replicate_zero,List.push_toArray,List.append_toArray,List.nil_append,List.cons_append]
 gi_wp2_with (refine ⟨trivial,?_⟩;gi_at_call 89;refine (callsIn_wide.2 (all_make _ 1 1 _)).mono ?_;rintro e w' ⟨rfl,rfl⟩)
 obtain ⟨wa,hwa⟩:∃wa,(w.alloc (Obj.cells #[.int .i64 k,.int .i64 n,.slice u1 u2 u3] 25)).alloc (Obj.cells #[.bool false] 4)=wa:=⟨_,rfl⟩
 have hsa:wa.heap.size=w.heap.size+1+1:=by rw [←hwa];simp
 have hba:Below w.heap.size w wa:=by rw [←hwa];exact ((Below.refl _ w).alloc (Nat.le_refl _) _).alloc (by simp) _
 have bz:Boxed wa (w.heap.size+1) 4 (.bool false):=by
  rw [←hwa]
  have:=Boxed.new (w.alloc (Obj.cells #[.int .i64 k,.int .i64 n,.slice u1 u2 u3] 25)) 4 (.bool false)
  rwa [World.size_alloc] at this
 obtain ⟨w4,hw4,hs4,hbx,hrd,hTL,hb4⟩:=one_laid (w:=wa) (B:=B) k n (u1,u2,u3) ps (by omega) (hps.below (hba.mono hB))
 dsimp only [slv] at hw4
 rw [hwa,←hsa,hw4]
 have bz4:Boxed w4 (w.heap.size+1) 4 (.bool false):=(hb4.block _ (by omega)).trans bz
 have hb04:Below w.heap.size w w4:=hba.trans (hb4.mono (by omega))
 have hf:(Fo.cons k n (u1,u2,u3) ps .nil).size=1+ps.size:=by simp [Fo.size]
 refine wpIn_rangeC (by omega) (gf:=123) (lb:=#[.pointer (some ⟨wa.heap.size+1,0,none⟩)]) rfl (enters_of Tryz.func123 (by kernel_rfl) rfl)
  (all_seq 3 (by omega) (wa.heap.size+1) B _ (.cons k n (u1,u2,u3) ps .nil) (by omega) w4 (by omega) hbx hrd hTL) (Below.refl _ _) KpC.t (KpC.b (by omega)) (fun _=>rfl)
  (fun pre W=>allAlone pre=true∧Boxed W (w.heap.size+1) 4 (.bool false)∧Below w.heap.size w W) (fun c pre W=>(c = .ret∧allAlone pre=false)∧Boxed W (w.heap.size+1) 4 (.bool false)∧Below w.heap.size w W)
  (OwnFrom.and (ownFrom_pure _ _) (OwnFrom.and (Own.from (boxed_own _ _ (fun _=>.bool false)) _) (below_own (by omega) (Nat.le_refl _)))) (fun _=>OwnFrom.and (ownFrom_pure _ _) (OwnFrom.and (Own.from (boxed_own _ _ (fun _=>.bool false)) _) (below_own (by omega) (Nat.le_refl _))))
  (AbC.and AbC.pure (AbC.and (box_ab (by decide)) (below_ab (by omega) (Nat.le_refl _)))) (fun _=>AbC.and AbC.pure (AbC.and (box_ab (by decide)) (below_ab (by omega) (Nat.le_refl _))))
  ⟨rfl,bz4,hb04⟩
  (fun x a' W=>∃Bx,(W.cell? ⟨Bx,0,none⟩=some (.int .i64 x.1)∧W.cell? ⟨Bx,1,none⟩=some (.int .i64 x.2.1)∧W.cell? ⟨Bx,2,none⟩=some (slv x.2.2))∧a' = { tmps:=#[tyVal k n (.slice u1 u2 u3),.pointer (some ⟨w.heap.size,0,none⟩),.pointer (some ⟨w.heap.size+1,0,none⟩),.pointer (some ⟨Bx,0,none⟩),tyVal k n (.slice u1 u2 u3),.slice (some ⟨wa.heap.size,0,none⟩) 1 1,.func (.func 123) #[] #[.pointer (some ⟨wa.heap.size+1,0,none⟩)],trV x,undef,undef,undef],defers:=[] })
  (fun x a' s W W' row hs hg hr=>by
   obtain ⟨Bx,⟨c0,c1,c2⟩,ha⟩:=hs
   exact ⟨Bx,⟨cell_kept c0 hg (fun r e=>(hr r e).2),cell_kept c1 hg (fun r e=>(hr r e).2),cell_kept c2 hg (fun r e=>(hr r e).2)⟩,ha⟩) ?assign ?body ?done ?stop
 case assign=>
  rintro l pre x W K ⟨hi1,hi2,hi3⟩ hK
  obtain ⟨x0,x1,A3,n3,c3⟩:=x
  dsimp only [trV,slv] at hK ⊢
  have hsz:=hi3.size
  gi_wp2
  exact hK _ _ ((KeepsOthers.alloc _ _).from _) (KpC.of_below ((Below.refl _ _).alloc (Nat.le_refl _) _) (by omega)) ⟨hi1,hi2.alloc _,hi3.alloc hsz _⟩ ⟨W.heap.size,⟨by go_simp,by go_simp,by go_simp⟩,by simp [tyVal]⟩
 case body=>
  rintro l pre x a' W hl ⟨hi1,hi2,hi3⟩ ⟨Bx,⟨c0,c1,c2⟩,rfl⟩ hlt
  obtain ⟨x0,x1,A3,n3,c3⟩:=x
  dsimp only [trV,slv,tyVal] at c0 c1 c2 ⊢
  obtain ⟨b,hb⟩:∃b,alone x0 x1 n3=b:=⟨_,rfl⟩
  have FA:=kI (alone_any x0 x1 A3 n3 c3 W)
  rw [hb] at FA
  have hap:allAlone (pre ++ [(x0,x1,A3,n3,c3)])=b:=by
   have:allAlone (pre ++ [(x0,x1,A3,n3,c3)])=(allAlone pre && alone x0 x1 n3):=by simp [allAlone]
   rw [this,hi1,hb];rfl
  have HAP:=kI hap
  have HSZ:=kI hi3.size
  have HS4:=kI hs4
  have HSA:=kI hsa
  clear hap hb hf hs4 hsa hs
  cases b
  ·gi_wp2_with (refine ⟨trivial,?_⟩;gi_at_call 90;refine (CallsIn.inRound l (callsIn_wide.2 FA.out)).mono ?_;rintro e w' ⟨rfl,hbw⟩;have hi2':Boxed w' (w.heap.size+1) 4 (.bool false):=(hbw.block _ hi2.lt).trans hi2;have bc:=hi2'.cell;have bf:=hi2'.frozen;have HB2:=kI hi2';clear hi2')
   refine ⟨⟨Nat.le_trans hbw.size (KeepsOthers.setCell w' _ _).size,fun j o _ hj ho=>(KeepsOthers.setCell w' _ _).same j o ((hbw.block j (gL hj).1).trans hj) ho⟩,⟨rfl,HAP.out⟩,HB2.out.set _,?_⟩
   have hb1:Below w.heap.size w w':=hi3.trans (hbw.mono HSZ.out)
   exact hb1.trans ((Below.refl _ _).grown (grownBy_setCell' w' (w.heap.size+1) _) hb1.size (fun k e=>by cases e;omega))
  ·gi_wp2_with (refine ⟨trivial,?_⟩;gi_at_call 90;refine (CallsIn.inRound l (callsIn_wide.2 FA.out)).mono ?_;rintro e w' ⟨rfl,hbw⟩)
   refine ⟨⟨hbw.size,fun j o _ hj _=>(hbw.block j (gL hj).1).trans hj⟩,KpC.of_below hbw (Nat.le_trans hB HSZ.out),HAP.out,(hbw.block _ hi2.lt).trans hi2,hi3.trans (hbw.mono HSZ.out)⟩
 case done=>
  rintro D ys W hD rfl ⟨hi1,hi2,hi3⟩ hK
  have bc:=hi2.cell
  have bf:=hi2.frozen
  have HB2:=kI hi2
  have HA:=kI hi1
  clear hi2 hi1 hf
  gi_wp2
  have bx:Boxed ((W.setCell ⟨w.heap.size+1,0,none⟩ (.bool true)).putObj D (.deferred none)) (w.heap.size+1) 4 (.bool true):=(HB2.out.set _).kept (grownBy_putObj' _ D (.deferred none)) (fun e=>by cases e;omega)
  have hK':(W.setCell ⟨w.heap.size+1,0,none⟩ (.bool true)).heap[D]? = some (.deferred (some [])):=((grownBy_setCell' W (w.heap.size+1) (.bool true)).block D (gL hK).1 (fun e=>by cases e;omega)).trans hK
  refine ⟨by simp,.inl ⟨_,_,rfl,run_takeDeferred hK',?_⟩⟩
  refine ⟨_,results_box rfl _ _ _ _ rfl (load_bool bx.cell),?_,?_⟩
  ·rw [HA.out]
  ·have h1:=hi3.trans ((Below.refl _ _).grown (grownBy_setCell' W (w.heap.size+1) (.bool true)) hi3.size (fun k e=>by cases e;omega))
   exact h1.trans ((Below.refl _ _).grown (grownBy_putObj' _ D (.deferred none)) h1.size (fun k e=>by cases e;omega))
 case stop=>
  rintro D c pre W hD ⟨hne,s,hsp⟩ ⟨⟨rfl,hi1⟩,hi2,hi3⟩ hK
  gi_wp2
  have bx:Boxed (W.putObj D (.deferred none)) (w.heap.size+1) 4 (.bool false):=hi2.kept (grownBy_putObj' _ D (.deferred none)) (fun e=>by cases e;omega)
  refine ⟨by simp,.inl ⟨_,_,rfl,run_takeDeferred hK,?_⟩⟩
  refine ⟨_,results_box rfl _ _ _ _ rfl (load_bool bx.cell),?_,hi3.trans ((Below.refl _ _).grown (grownBy_putObj' _ D (.deferred none)) hi3.size (fun k e=>by cases e;omega))⟩
  have:allAlone (pre++s)=false:=by
   have h2:allAlone (pre++s)=(allAlone pre && allAlone s):=by simp [allAlone]
   rw [h2,hi1];rfl
  rw [←hsp,this]
end
section
open Go.RowKit Go.Shelf
structure Pc where
 s:List UInt8
 k:Int
 n:Int
 u:Sl
 ps:Fo
def strB (s:List UInt8):Value:=.string ⟨s.toArray⟩
def pcC (p:Pc):List Value:=[strB p.s,.int .i64 p.k,.int .i64 p.n,slv p.u]
def pcV (p:Pc):Value:=.agg #[strB p.s,.int .i64 p.k,.int .i64 p.n,slv p.u]
abbrev pcS (s:List UInt8):Pc:=⟨s,0,0,(none,0,0),.nil⟩
abbrev pcT (k n:Int) (u:Sl) (ps:Fo):Pc:=⟨[],k,n,u,ps⟩
theorem pcC_len (L:List Pc):(L.flatMap pcC).length=L.length*4:=by
 induction L with
 | nil=>rfl
 | cons x L ih=>simp [pcC,ih];omega
theorem pcC_one (L:List Pc):∀u∈L.flatMap pcC,u.oneCell'=true:=by
 intro u hu
 obtain ⟨x,_,hx⟩:=List.mem_flatMap.1 hu
 simp only [pcC,List.mem_cons,List.not_mem_nil,or_false] at hx
 rcases hx with rfl|rfl|rfl|rfl<;>rfl
namespace Fo
def ok:Fo→Bool
 | nil=>true
 | cons k n _ ps r=>alone k n ps.len && ps.ok && r.ok
end Fo
def ptx (p:Pc):List UInt8:=p.s++oneT p.k p.n p.ps.txts
def PcOk (B:Nat) (w:World) (p:Pc):Prop:=TyV B w p.ps (slv p.u)∧(p.k=0∧p.ps = .nil∨alone p.k p.n p.ps.len=true∧p.ps.ok=true)∧p.s.length≤40
theorem PcOk.str (B:Nat) (w:World) (s:List UInt8) (hs:s.length≤40):PcOk B w (pcS s):=⟨tyV_nil.2 ⟨none,0,rfl⟩,.inl ⟨rfl,rfl⟩,hs⟩
def pw (p:Pc):Nat:=if p.k=0 then 1 else 3+6*p.ps.size
def pws (L:List Pc):Nat:=(L.map pw).sum
theorem pws_app (a b:List Pc):pws (a++b)=pws a+pws b:=by simp [pws]
theorem ptx_str (s:List UInt8):ptx (pcS s)=s:=by simp [ptx,oneT]
theorem alone_ne (k n:Int) (m:Nat) (h:alone k n m=true):k≠0:=by
 rintro rfl
 simp [alone] at h
def brkP (k n:Int) (u:Sl) (ps:Fo):List Pc:=if k=4 then [pcS [40],pcT k n u ps,pcS [41]] else [pcT k n u ps]
theorem brkP_txt (k n:Int) (u:Sl) (ps:Fo):(brkP k n u ps).flatMap ptx=brk (k,oneT k n ps.txts):=by
 unfold brkP brk
 split<;>simp [ptx,oneT]
theorem brkP_len (k n:Int) (u:Sl) (ps:Fo):(brkP k n u ps).length≤3:=by unfold brkP;split<;>simp
theorem brkP_pw (k n:Int) (u:Sl) (ps:Fo):pws (brkP k n u ps)≤5+6*ps.size:=by
 unfold brkP
 split
 ·simp [pws,pw];split<;>omega
 ·simp [pws,pw];split<;>omega
theorem brkP_ok {B:Nat}{w:World}{k n:Int}{u:Sl}{ps:Fo}(h:PcOk B w (pcT k n u ps)):∀p∈brkP k n u ps,PcOk B w p:=by
 intro p hp
 unfold brkP at hp
 split at hp
 ·simp only [List.mem_cons,List.not_mem_nil,or_false] at hp
  rcases hp with rfl|rfl|rfl
  ·exact PcOk.str _ _ _ (by simp)
  ·exact h
  ·exact PcOk.str _ _ _ (by simp)
 ·simp only [List.mem_cons,List.not_mem_nil,or_false] at hp
  subst hp
  exact h
theorem own_new (w:World) (e:TypeId) (size n:Nat) (L:List Value) (hL:L.length=n*size) (hn:n≤maxLen) (w0:World) (h0:Below w0.heap.size w0 w):(w.alloc (.cells L.toArray e)).ownsRow w0.heap.size e size (.slice (some ⟨w.heap.size,0,none⟩) n n) n L:=own_full w _ h0.size e size n L hL hn
set_option maxRecDepth 100000 in
theorem bracketed_any (k n:Int) (u:Sl) (ps:Fo) (w:World):Calls Tryz.prog 106 #[tyVal k n (slv u)] w fun e w'=>∃v,e = .returned v∧w'.ownsRow w.heap.size 118 4 v (brkP k n u ps).length ((brkP k n u ps).flatMap pcC)∧Below w.heap.size w w':=by
 obtain ⟨u1,u2,u3⟩:=u
 dsimp only [tyVal,slv]
 have hb:=(Below.refl w.heap.size w).alloc (Nat.le_refl _) (.cells #[.int .i64 k,.int .i64 n,.slice u1 u2 u3] 25)
 go_enter Tryz.func106,Tryz.ntmps106
 by_cases h4:k=4
 ·subst h4
  have ho:=(own_new (w.alloc (.cells #[.int .i64 4,.int .i64 n,.slice u1 u2 u3] 25)) 118 4 3 ((brkP 4 n (u1,u2,u3) ps).flatMap pcC) rfl (by unfold maxLen;omega) w hb)
  rw [World.size_alloc] at ho
  have HO:=kI ho
  have HB:=kI (hb.alloc hb.size (.cells ((brkP 4 n (u1,u2,u3) ps).flatMap pcC).toArray 118))
  clear hb ho
  go_wp2_with fail
  go_ret
  exact ⟨_,rfl,HO.out,HB.out⟩
 ·have f1:(k == 4)=false:=beq_eq_false_iff_ne.2 h4
  have hbk:brkP k n (u1,u2,u3) ps=[pcT k n (u1,u2,u3) ps]:=by unfold brkP;rw [if_neg h4]
  rw [hbk]
  have ho:=(own_new (w.alloc (.cells #[.int .i64 k,.int .i64 n,.slice u1 u2 u3] 25)) 118 4 1 ([pcT k n (u1,u2,u3) ps].flatMap pcC) rfl (by unfold maxLen;omega) w hb)
  rw [World.size_alloc] at ho
  have HO:=kI ho
  have HB:=kI (hb.alloc hb.size (.cells ([pcT k n (u1,u2,u3) ps].flatMap pcC).toArray 118))
  clear hb hbk ho
  go_wp2_with fail
  go_ret
  exact ⟨_,rfl,HO.out,HB.out⟩
end
section
open Go.RowKit Go.Shelf
attribute [local go_sem ↓] builtin_app
theorem pcInfo:(Tryz.prog.info? 118).map (fun i=>(i.zero,i.size,i.bytes))=some (some (.agg #[.string ⟨#[]⟩,.int .i64 0,.int .i64 0,.slice none 0 0]),4,56):=by kernel_rfl
theorem app_pc (W:World) (base:Nat) (v:Value) (L:List Pc) (own:W.ownsRow base 118 4 v L.length (L.flatMap pcC)) (vx:Value) (L2:List Pc) (rd:Rd W 4 vx L2.length (L2.flatMap pcC)) (hl:L.length+L2.length≤100000000) (hbase:base≤W.heap.size):
  ∃v' W',(app_ #[119,119] 119 #[v,vx]).run Tryz.prog W = .ok v' W'∧W'.ownsRow base 118 4 v' (L++L2).length ((L++L2).flatMap pcC)∧Below base W W'∧KeepT 25 W W'∧W.grownBy W' v.ownBlock∧(v'.ownBlock=v.ownBlock∨v'.ownBlock=some W.heap.size):=by
 obtain ⟨i0,hi0,hz0,hz1,hz2⟩:=info_parts pcInfo
 obtain ⟨v1,w1,hrun,hown,hg,hat⟩:=run_append_rd (P:=Tryz.prog) W base 119 119 118 i0 _ 4 56 Tryz.underlying119 hi0 hz0 hz1 hz2 rfl (by omega) v _ _ own vx _ _ rd (pcC_one _) (by unfold maxLen;omega) (by omega) hbase
 refine ⟨v1,w1,hrun,?_,(Below.refl _ _).grown hg hbase (fun k e=>(own.lt k e).1),KeepT.grown hg (row_not own (by decide)),hg,hat⟩
 rw [List.length_append,List.flatMap_append]
 exact hown
def tupT:Bool→Fo→List Pc
 | _,.nil=>[]
 | b,.cons k n u ps r=>(if b then [] else [pcS [32,42,32]])++(brkP k n u ps++tupT false r)
theorem tupT_app (f g:Fo) (b:Bool):tupT b (f.app g)=tupT b f++tupT (b && decide (f.len=0)) g:=by
 induction f generalizing b with
 | nil=>simp [Fo.app,tupT,Fo.len]
 | cons k n u ps r _ ih=>simp [Fo.app,tupT,Fo.len,ih]
theorem tupT_len (f:Fo) (b:Bool):(tupT b f).length≤4*f.len:=by
 induction f generalizing b with
 | nil=>simp [tupT]
 | cons k n u ps r _ ih=>
  have h1:=brkP_len k n u ps
  have h2:=ih false
  simp only [tupT,List.length_append,Fo.len]
  split<;>simp<;>omega
theorem tupT_pw (f:Fo) (b:Bool):pws (tupT b f)≤6*f.size:=by
 induction f generalizing b with
 | nil=>simp [tupT,pws,Fo.size]
 | cons k n u ps r _ ih=>
  have h1:=brkP_pw k n u ps
  have h2:=ih false
  simp only [tupT,pws_app,Fo.size]
  split
  ·simp [pws] at *;omega
  ·simp [pws,pw] at *;omega
theorem tupT_txt (f:Fo):(tupT true f).flatMap ptx=sepT f.txts∧(0<f.len→(tupT false f).flatMap ptx=32 :: 42 :: 32 :: sepT f.txts):=by
 induction f with
 | nil=>exact ⟨rfl,fun h=>by simp [Fo.len] at h⟩
 | cons k n u ps r _ ih=>
  have h1:=brkP_txt k n u ps
  have key:(brkP k n u ps++tupT false r).flatMap ptx=sepT (Fo.cons k n u ps r).txts:=by
   rw [List.flatMap_append,h1]
   cases r with
   | nil=>simp [tupT,Fo.txts,sepT]
   | cons k' n' u' ps' r'=>
    rw [ih.2 (by simp [Fo.len])]
    simp only [Fo.txts,sepT]
  refine ⟨by simpa [tupT] using key,fun _=>?_⟩
  have:tupT false (Fo.cons k n u ps r)=pcS [32,42,32] :: (brkP k n u ps++tupT false r):=rfl
  rw [this,List.flatMap_cons,key,ptx_str]
  rfl
theorem tupT_ok {B:Nat}{w:World}{f:Fo}(hL:TyL B w f) (hok:f.ok=true) (b:Bool):∀p∈tupT b f,PcOk B w p:=by
 induction f generalizing b with
 | nil=>intro p hp;simp [tupT] at hp
 | cons k n u ps r _ ih=>
  simp only [Fo.ok,Bool.and_eq_true] at hok
  intro p hp
  simp only [tupT,List.mem_append] at hp
  rcases hp with hp|hp|hp
  ·split at hp
   ·cases hp
   ·obtain rfl:=List.mem_singleton.1 hp
    exact PcOk.str _ _ _ (by simp)
  ·exact brkP_ok ⟨hL.1,.inr ⟨hok.1.1,hok.1.2⟩,by simp⟩ p hp
  ·exact ih hL.2 hok.2 false p hp
theorem len_take (f:Fo) (j:Nat) (hj:j≤f.len):(f.take j).len=j:=by
 induction f generalizing j with
 | nil=>cases j<;>simp_all [Fo.take,Fo.len]
 | cons k n u ps r _ ih=>
  cases j with
  | zero=>simp [Fo.take,Fo.len]
  | succ j=>simp only [Fo.take,Fo.len] at hj ⊢;rw [ih j (by omega)]
set_option maxHeartbeats 1000000 in
set_option maxRecDepth 100000 in
theorem tuple_any (f:Fo) (vl:Value) (w:World) (hvl:TyV w.heap.size w f vl) (hf:f.len≤1000000):Calls Tryz.prog 107 #[vl] w fun e w'=>∃v,e = .returned v∧w'.ownsRow w.heap.size 118 4 v ([pcS [40]]++tupT true f ++ [pcS [41]]).length (([pcS [40]]++tupT true f ++ [pcS [41]]).flatMap pcC)∧Below w.heap.size w w':=by
 obtain ⟨A,c,rfl⟩:=hvl.slice
 have H:=kI hvl
 clear hvl
 have ho:=own_new w 118 4 1 ([pcS [40]].flatMap pcC) rfl (by unfold maxLen;omega) w (Below.refl _ _)
 have hb:=(Below.refl w.heap.size w).alloc (Nat.le_refl _) (.cells ([pcS [40]].flatMap pcC).toArray 118)
 have HO:=kI ho
 have HB:=kI hb
 clear ho hb
 obtain ⟨q,hq⟩:∃q,f.len=q:=⟨_,rfl⟩
 rw [hq] at hf ⊢
 have HQ:=kI hq
 clear hq
 go_enter Tryz.func107,Tryz.ntmps107
 go_wp2_with fail
 go_loopw [3,10] (fun t3 t10 wr=>∃j:Nat,j≤q∧t10 = .int .i64 j∧wr.ownsRow w.heap.size 118 4 t3 ([pcS [40]]++tupT true (f.take j)).length (([pcS [40]]++tupT true (f.take j)).flatMap pcC)∧Below w.heap.size w wr) (fun _ t _=>q-(intOf t).toNat)
 case atStart=>exact ⟨0,Nat.zero_le _,rfl,by rw [Fo.take_zero];exact HO.out,HB.out⟩
 case round=>
  obtain ⟨j,hj,rfl,hown,hbw⟩:=hrel
  have htl:=tupT_len (f.take j) true
  have HBW:=kI hbw
  have HOW:=kI hown
  have hsW:=hbw.size
  clear hbw hown
  by_cases hjl:j<q
  ·have hjF:j<f.len:=by rw [HQ.out];exact hjl
   have htk:=len_take f j (by omega)
   obtain ⟨b,off,cap,hv,_,_,hlt,hC⟩:=H.out.form (by omega)
   rw [HQ.out] at hv
   injection hv with hA _ hcc
   subst hA;subst hcc
   obtain ⟨d0,d1,d2,hch⟩:=tyC_at hC j hjF
   have c0:=(HBW.out.cell (p:=⟨b,off+j*3,none⟩) hlt).trans d0
   have c1:=(HBW.out.cell (p:=⟨b,off+j*3+1,none⟩) hlt).trans d1
   have c2:=(HBW.out.cell (p:=⟨b,off+j*3+2,none⟩) hlt).trans d2
   have hts:=f.take_step j hjF
   have htl1:([pcS [40]]++tupT true (f.take j)).length≤5000000:=by simp;omega
   generalize f.at_ j=p at *
   obtain ⟨pk,pn,⟨p1,p2,p3⟩,pf⟩:=p
   dsimp only [slv] at c0 c1 c2 hch hts
   obtain ⟨W0,hW0⟩:∃W0,W0=wr.alloc (.cells #[.int .i64 pk,.int .i64 pn,.slice p1 p2 p3] 25):=⟨_,rfl⟩
   have hb0:Below w.heap.size wr W0:=by rw [hW0];exact (Below.refl _ _).alloc hsW _
   have hs0:W0.heap.size=wr.heap.size+1:=by rw [hW0];simp
   have hx0:W0.heap[wr.heap.size]? = some (.cells #[.int .i64 pk,.int .i64 pn,.slice p1 p2 p3] 25):=by rw [hW0];exact heap_alloc_new wr _
   have own0:W0.ownsRow w.heap.size 118 4 u3 ([pcS [40]]++tupT true (f.take j)).length (([pcS [40]]++tupT true (f.take j)).flatMap pcC):=by rw [hW0];exact HOW.out.alloc _
   have hbl:=brkP_len pk pn (p1,p2,p3) pf
   have HTS:=kI hts
   have HTK:=kI htk
   clear d0 d1 d2 hC hch hts htk
   rcases Nat.eq_zero_or_pos j with h0|h0
   ·have f1:decide ((0:Int)<(j:Int))=false:=decide_eq_false (by omega)
    have f1n:¬ (0<j):=by omega
    have hfin:∀(v2:Value) (w2:World),Below W0.heap.size W0 w2→w2.ownsRow W0.heap.size 118 4 v2 (brkP pk pn (p1,p2,p3) pf).length ((brkP pk pn (p1,p2,p3) pf).flatMap pcC)→
      ∃v3 w3,(app_ #[119,119] 119 #[u3,v2]).run Tryz.prog w2 = .ok v3 w3∧Hid (w3.ownsRow w.heap.size 118 4 v3 ([pcS [40]]++tupT true (f.take (j+1))).length (([pcS [40]]++tupT true (f.take (j+1))).flatMap pcC)∧Below w.heap.size w w3):=by
     intro v2 w2 hb2 hown2
     obtain ⟨v3,w3,hrun3,hown3,hb3,_⟩:=app_pc w2 w.heap.size u3 _ (own_below own0 hb2) v2 _ (Rd.of_own hown2) (by omega) (Nat.le_trans hsW (Nat.le_trans hb0.size hb2.size))
     refine ⟨v3,w3,hrun3,kI ⟨?_,HBW.out.trans (hb0.trans ((hb2.mono (Nat.le_trans hsW hb0.size)).trans hb3))⟩⟩
     have e:[pcS [40]]++tupT true (f.take (j+1))=[pcS [40]]++tupT true (f.take j)++brkP pk pn (p1,p2,p3) pf:=by
      rw [HTS.out,tupT_app,HTK.out,h0]
      simp [tupT]
     rw [e]
     exact hown3
    have HFIN:=kI hfin
    clear hfin own0 hx0 hb0 htl1 hbl h0
    rw [hW0] at HFIN
    go_wp2_with (go_at_call 106;refine (bracketed_any pk pn (p1,p2,p3) pf _).mono ?_;rintro e w2 ⟨v2,rfl,hown2,hb2⟩;obtain ⟨v3,w3,hrun3,HR⟩:=HFIN.out v2 w2 hb2 hown2;clear hown2 hb2)
    go_roundw
    case rel=>exact ⟨j+1,by omega,by go_num,HR.out.1,HR.out.2⟩
    case measure=>simp [intOf];omega
   ·have f1:decide ((0:Int)<(j:Int))=true:=decide_eq_true (by omega)
    obtain ⟨W1,hW1⟩:∃W1,W1=W0.alloc (.cells #[.string ⟨#[32,42,32]⟩,.int .i64 0,.int .i64 0,.slice none 0 0] 118):=⟨_,rfl⟩
    have rd1:Rd W1 4 (.slice (some ⟨W0.heap.size,0,none⟩) 1 1) 1 ([pcS [32,42,32]].flatMap pcC):=by
     rw [hW1];exact rd_new W0 [.string ⟨#[32,42,32]⟩,.int .i64 0,.int .i64 0,.slice none 0 0] 118 4 1 rfl (by unfold maxLen;omega)
    have own1:=own0.alloc (.cells #[.string ⟨#[32,42,32]⟩,.int .i64 0,.int .i64 0,.slice none 0 0] 118)
    rw [←hW1] at own1
    have hb1:Below W0.heap.size W0 W1:=by rw [hW1];exact (Below.refl _ _).alloc (Nat.le_refl _) _
    obtain ⟨v1,w1,hrun1,hown1,hbw1,hkt1,_⟩:=app_pc W1 w.heap.size u3 _ own1 _ [pcS [32,42,32]] rd1 (by have h:=htl1;simp at h ⊢;omega) (Nat.le_trans hsW (Nat.le_trans hb0.size hb1.size))
    have hx1:w1.heap[wr.heap.size]? = some (.cells #[.int .i64 pk,.int .i64 pn,.slice p1 p2 p3] 25):=hkt1.2 _ _ ((hb1.block _ (by omega)).trans hx0)
    have y0:w1.cell? ⟨wr.heap.size,0,none⟩=some (.int .i64 pk):=cell_of_row w1 _ 0 _ _ (0,0) hx1
    have y1:w1.cell? ⟨wr.heap.size,1,none⟩=some (.int .i64 pn):=cell_of_row w1 _ 1 _ _ (0,0) hx1
    have y2:w1.cell? ⟨wr.heap.size,2,none⟩=some (.slice p1 p2 p3):=cell_of_row w1 _ 2 _ _ (0,0) hx1
    have hbb:Below w.heap.size wr w1:=hb0.trans ((hb1.mono (Nat.le_trans hsW hb0.size)).trans hbw1)
    have hfin:∀(v2:Value) (w2:World),Below w1.heap.size w1 w2→w2.ownsRow w1.heap.size 118 4 v2 (brkP pk pn (p1,p2,p3) pf).length ((brkP pk pn (p1,p2,p3) pf).flatMap pcC)→
      ∃v3 w3,(app_ #[119,119] 119 #[v1,v2]).run Tryz.prog w2 = .ok v3 w3∧Hid (w3.ownsRow w.heap.size 118 4 v3 ([pcS [40]]++tupT true (f.take (j+1))).length (([pcS [40]]++tupT true (f.take (j+1))).flatMap pcC)∧Below w.heap.size w w3):=by
     intro v2 w2 hb2 hown2
     obtain ⟨v3,w3,hrun3,hown3,hb3,_⟩:=app_pc w2 w.heap.size v1 _ (own_below hown1 hb2) v2 _ (Rd.of_own hown2) (by simp at htl1 ⊢;omega) (Nat.le_trans hsW (Nat.le_trans hbb.size hb2.size))
     refine ⟨v3,w3,hrun3,kI ⟨?_,HBW.out.trans (hbb.trans ((hb2.mono (Nat.le_trans hsW hbb.size)).trans hb3))⟩⟩
     have e:[pcS [40]]++tupT true (f.take (j+1))=[pcS [40]]++tupT true (f.take j) ++ [pcS [32,42,32]]++brkP pk pn (p1,p2,p3) pf:=by
      rw [HTS.out,tupT_app,HTK.out]
      have:¬ j=0:=by omega
      simp [tupT,this]
     rw [e]
     exact hown3
    have HFIN:=kI hfin
    rw [hW1,hW0] at hrun1
    rw [World.size_alloc] at hrun1
    clear hfin own0 hx0 hb0 htl1 hbl own1 rd1 hown1 hbw1 hkt1 hx1 hbb hb1 hW1 hW0
    go_wp2_with (go_at_call 106;refine (bracketed_any pk pn (p1,p2,p3) pf _).mono ?_;rintro e w2 ⟨v2,rfl,hown2,hb2⟩;obtain ⟨v3,w3,hrun3,HR⟩:=HFIN.out v2 w2 hb2 hown2;clear hown2 hb2)
    go_roundw
    case rel=>exact ⟨j+1,by omega,by go_num,HR.out.1,HR.out.2⟩
    case measure=>simp [intOf];omega
  ·obtain rfl:j=q:=by omega
   have hT:f.take j=f:=by rw [←HQ.out];exact f.take_len
   obtain ⟨W1,hW1⟩:∃W1,W1=wr.alloc (.cells #[.string ⟨#[41]⟩,.int .i64 0,.int .i64 0,.slice none 0 0] 118):=⟨_,rfl⟩
   have rd1:Rd W1 4 (.slice (some ⟨wr.heap.size,0,none⟩) 1 1) 1 ([pcS [41]].flatMap pcC):=by
    rw [hW1];exact rd_new wr [.string ⟨#[41]⟩,.int .i64 0,.int .i64 0,.slice none 0 0] 118 4 1 rfl (by unfold maxLen;omega)
   have own1:=HOW.out.alloc (.cells #[.string ⟨#[41]⟩,.int .i64 0,.int .i64 0,.slice none 0 0] 118)
   rw [←hW1,hT] at own1
   rw [hT] at htl
   have hb1:Below w.heap.size wr W1:=by rw [hW1];exact (Below.refl _ _).alloc hsW _
   obtain ⟨v1,w1,hrun1,hown1,hbw1,_⟩:=app_pc W1 w.heap.size u3 _ own1 _ [pcS [41]] rd1 (by have:=HQ.out;simp;omega) (Nat.le_trans hsW hb1.size)
   have HF:=kI (aI hown1 (HBW.out.trans (hb1.trans hbw1)))
   rw [hW1] at hrun1
   clear own1 rd1 hown1 hbw1 hb1 hW1 hT
   go_wp2_with fail
   go_ret
   exact ⟨_,rfl,HF.out.1,HF.out.2⟩
end
section
open Go.RowKit Go.Shelf
attribute [local go_sem ↓] builtin_app
attribute [local go_sem] Oper.semAt_some
def PcsOf (B:Nat) (k n:Int) (ps:Fo) (w w':World) (v:Value):Prop:=∃L:List Pc,w'.ownsRow w.heap.size 118 4 v L.length (L.flatMap pcC)∧Below w.heap.size w w'∧L.flatMap ptx=oneT k n ps.txts∧pws L<(if k=0 then 1 else 3+6*ps.size)∧(∀p∈L,PcOk B w p)∧L.length≤5000000
theorem nameB_len (n:Int):(nameB n).length≤40:=by
 unfold nameB
 split
 ·rename_i h
  simp only [Bool.and_eq_true,decide_eq_true_eq] at h
  have:=Lib.itoa_length_le (n / 26) (by omega) (by omega)
  split<;>simp<;>omega
 ·simp
theorem one_pc (B:Nat) (k n:Int) (ps:Fo) (w W:World) (s:List UInt8) (hs:s.length≤40) (hb:Below w.heap.size w W) (ht:oneT k n ps.txts=s) (hk:k≠0):
  PcsOf B k n ps w (W.alloc (.cells #[strB s,.int .i64 0,.int .i64 0,.slice none 0 0] 118)) (.slice (some ⟨W.heap.size,0,none⟩) 1 1):=by
 refine ⟨[pcS s],?_,hb.trans ((Below.refl _ _).alloc hb.size _),by rw [List.flatMap_cons,ptx_str,ht];simp,?_,?_,by simp⟩
 ·exact own_new W 118 4 1 ([pcS s].flatMap pcC) rfl (by unfold maxLen;omega) w hb
 ·rw [if_neg hk];simp [pws,pw];omega
 ·intro p hp
  obtain rfl:=List.mem_singleton.1 hp
  exact PcOk.str _ _ _ hs
set_option maxHeartbeats 2000000 in
set_option maxRecDepth 100000 in
theorem pieces4 (B:Nat) (n:Int) (u:Sl) (ps:Fo) (w:World) (ha:alone 4 n ps.len=true) (ho:ps.ok=true) (hB_:B≤w.heap.size) (hps:TyV B w ps (slv u)):
  Calls Tryz.prog 74 #[tyVal 4 n (slv u)] w fun e w'=>∃v,e = .returned v∧PcsOf B 4 n ps w w' v:=by
 obtain ⟨u1,u2,u3⟩:=u
 have hb:=(Below.refl w.heap.size w).alloc (Nat.le_refl _) (.cells #[.int .i64 4,.int .i64 n,.slice u1 u2 u3] 25)
 dsimp only [tyVal,slv] at hps ⊢
 refine (callsIn_wide (n:=3)).1 ?_
 refine callsIn_of_wp Tryz.func74 rfl trivial ?_ rfl
 simp only [Tryz.ntmps74,List.size_toArray,List.length_cons,List.length_nil,Nat.reduceAdd,Nat.reduceSub,Array.replicate_succ,Array.replicate_zero,List.push_toArray,List.append_toArray,List.nil_append,List.cons_append]
 have hl2:ps.len=2:=by
  simp [alone] at ha
  omega
 obtain ⟨k0,n0,⟨a1,a2,a3⟩,ps0,k1,n1,⟨b1,b2,b3⟩,ps1,rfl⟩:∃k0 n0 ua ps0 k1 n1 ub ps1,ps = .cons k0 n0 ua ps0 (.cons k1 n1 ub ps1 .nil):=by
  match ps,hl2 with
  | .cons k0 n0 ua ps0 (.cons k1 n1 ub ps1 .nil),_=>exact ⟨_,_,_,_,_,_,_,_,rfl⟩
  | .cons _ _ _ _ (.cons _ _ _ _ (.cons _ _ _ _ r)),h=>simp [Fo.len] at h
 obtain ⟨b,off,cap,hv,hc1,hc2,hlt,hC⟩:=hps.form (by rw [hl2];omega)
 rw [hl2] at hv
 injection hv with hA hB hcc
 subst hA;subst hB;subst hcc
 replace hlt:=Nat.lt_of_lt_of_le hlt hB_
 obtain ⟨d0,d1,d2,e1,hC2⟩:=tyC_cons.1 hC
 obtain ⟨d3,d4,d5,e2,_⟩:=tyC_cons.1 hC2
 simp only [Fo.ok,Bool.and_eq_true] at ho
 obtain ⟨W,hW⟩:∃W,W=w.alloc (.cells #[.int .i64 4,.int .i64 n,.slice (some ⟨b,off,none⟩) 2 u3] 25):=⟨_,rfl⟩
 rw [←hW] at hb
 have c0:=(hb.cell (p:=⟨b,off,none⟩) hlt).trans d0
 have c1:=(hb.cell (p:=⟨b,off+1,none⟩) hlt).trans d1
 have c2:=(hb.cell (p:=⟨b,off+2,none⟩) hlt).trans d2
 have c3:=(hb.cell (p:=⟨b,off+3,none⟩) hlt).trans d3
 have c4:=(hb.cell (p:=⟨b,off+3+1,none⟩) hlt).trans d4
 have c5:=(hb.cell (p:=⟨b,off+3+2,none⟩) hlt).trans d5
 dsimp only [slv] at c2 c5 d2 d5
  -- the two that come behind
 have hL2:∀(W0 w2:World) (v2 vx:Value),Below W.heap.size W W0→Below W0.heap.size W0 w2→w2.ownsRow W0.heap.size 118 4 v2 (brkP k0 n0 (a1,a2,a3) ps0).length ((brkP k0 n0 (a1,a2,a3) ps0).flatMap pcC)→Rd w2 4 vx 2 ([pcS [32,45,62,32],pcT k1 n1 (b1,b2,b3) ps1].flatMap pcC)→
   ∃v3 w3,(app_ #[119,119] 119 #[v2,vx]).run Tryz.prog w2 = .ok v3 w3∧Hid (PcsOf B 4 n (.cons k0 n0 (a1,a2,a3) ps0 (.cons k1 n1 (b1,b2,b3) ps1 .nil)) w w3 v3):=by
  intro W0 w2 v2 vx hb0 hb2 hown2 hrd
  have hz:=brkP_len k0 n0 (a1,a2,a3) ps0
  have hown2':w2.ownsRow w.heap.size 118 4 v2 (brkP k0 n0 (a1,a2,a3) ps0).length ((brkP k0 n0 (a1,a2,a3) ps0).flatMap pcC):=by
   refine ⟨hown2.1,?_⟩
   rcases hown2.2 with h|⟨g,cp,cur,h1,h2,h3⟩
   ·exact .inl h
   ·exact .inr ⟨g,cp,cur,h1,Nat.le_trans (Nat.le_trans hb.size hb0.size) h2,h3⟩
  have hw2:Below w.heap.size w w2:=hb.trans ((hb0.mono hb.size).trans (hb2.mono (Nat.le_trans hb.size hb0.size)))
  obtain ⟨v3,w3,hrun3,hown3,hb3,_⟩:=app_pc w2 w.heap.size v2 _ hown2' vx [pcS [32,45,62,32],pcT k1 n1 (b1,b2,b3) ps1] hrd (by simp;omega) hw2.size
  refine ⟨v3,w3,hrun3,kI ⟨_,hown3,hw2.trans hb3,?_,?_,?_,by simp;omega⟩⟩
  ·rw [List.flatMap_append,brkP_txt]
   simp [Fo.txts,oneT,ptx]
  ·rw [pws_app,if_neg (by omega)]
   have h1:=brkP_pw k0 n0 (a1,a2,a3) ps0
   have hp1:pw (pcS [32,45,62,32])=1:=by simp [pw]
   have hp2:pw (pcT k1 n1 (b1,b2,b3) ps1)≤3+6*ps1.size:=by simp only [pw];split<;>omega
   simp only [pws,List.map_cons,List.map_nil,List.sum_cons,List.sum_nil,Fo.size] at h1 ⊢
   omega
  ·intro p hp
   rcases List.mem_append.1 hp with hp|hp
   ·exact brkP_ok ⟨e1,.inr ⟨ho.1.1,ho.1.2⟩,by simp⟩ p hp
   ·simp only [List.mem_cons,List.not_mem_nil,or_false] at hp
    rcases hp with rfl|rfl
    ·exact PcOk.str _ _ _ (by simp)
    ·exact ⟨e2,.inr ⟨ho.2.1.1,ho.2.1.2⟩,by simp⟩
 have HL2:=kI hL2
 have HBB:=kI hb
 have HWW:=kI hW
 clear hps hC hC2 d0 d1 d2 d3 d4 d5 e1 e2 hL2 ha ho hb hc1 hc2 hl2
 rw [hW] at c0 c1 c2 c3 c4 c5
 clear hW
 have c4':(w.alloc (.cells #[.int .i64 4,.int .i64 n,.slice (some ⟨b,off,none⟩) 2 u3] 25)).cell? ⟨b,off+4,none⟩=some (.int .i64 n1):=c4
 have c5':(w.alloc (.cells #[.int .i64 4,.int .i64 n,.slice (some ⟨b,off,none⟩) 2 u3] 25)).cell? ⟨b,off+5,none⟩=some (.slice b1 b2 b3):=c5
 have hWs:W.heap.size=w.heap.size+1:=by rw [HWW.out];simp
 have hMM:∀w2:World,Below W.heap.size W w2→w2.cell? ⟨w.heap.size,2,none⟩=some (.slice (some ⟨b,off,none⟩) 2 u3)∧w2.cell? ⟨b,off+3,none⟩=some (.int .i64 k1)∧w2.cell? ⟨b,off+4,none⟩=some (.int .i64 n1)∧w2.cell? ⟨b,off+5,none⟩=some (.slice b1 b2 b3):=by
  intro w2 h
  have hlt2:b<W.heap.size:=by omega
  refine ⟨(h.cell (p:=⟨w.heap.size,2,none⟩) (by simp only;omega)).trans ?_,(h.cell (p:=⟨b,off+3,none⟩) hlt2).trans ?_,(h.cell (p:=⟨b,off+4,none⟩) hlt2).trans ?_,(h.cell (p:=⟨b,off+5,none⟩) hlt2).trans ?_⟩
  ·rw [HWW.out];exact cell_of_row _ w.heap.size 2 _ _ (0,0) (heap_alloc_new w _)
  ·rw [HWW.out];exact c3
  ·rw [HWW.out];exact c4
  ·rw [HWW.out];exact c5
  -- the slice laid behind the call
 have hBA:∀(v2:Value) (w2:World),Below W.drew.heap.size W.drew w2→w2.ownsRow W.drew.heap.size 118 4 v2 (brkP k0 n0 (a1,a2,a3) ps0).length ((brkP k0 n0 (a1,a2,a3) ps0).flatMap pcC)→
   w2.cell? ⟨w.heap.size,2,none⟩=some (.slice (some ⟨b,off,none⟩) 2 u3)∧w2.cell? ⟨b,off+3,none⟩=some (.int .i64 k1)∧w2.cell? ⟨b,off+4,none⟩=some (.int .i64 n1)∧w2.cell? ⟨b,off+5,none⟩=some (.slice b1 b2 b3)∧∃v3 w3,(app_ #[119,119] 119 #[v2,.slice (some ⟨w2.heap.size,0,none⟩) 2 2]).run Tryz.prog (w2.alloc (.cells #[.string ⟨#[32,45,62,32]⟩,.int .i64 0,.int .i64 0,.slice none 0 0,.string ⟨#[]⟩,.int .i64 k1,.int .i64 n1,.slice b1 b2 b3] 118)) = .ok v3 w3∧Hid (PcsOf B 4 n (.cons k0 n0 (a1,a2,a3) ps0 (.cons k1 n1 (b1,b2,b3) ps1 .nil)) w w3 v3):=by
  intro v2 w2 hb2 hown2
  obtain ⟨m0,m1,m2,m3⟩:=hMM w2 ((Below.refl _ W).drew.trans hb2)
  refine ⟨m0,m1,m2,m3,?_⟩
  refine HL2.out W.drew _ v2 _ (Below.refl _ W).drew (hb2.alloc hb2.size _) (hown2.alloc _) ?_
  exact rd_new w2 ([pcS [32,45,62,32],pcT k1 n1 (b1,b2,b3) ps1].flatMap pcC) 118 4 2 rfl (by unfold maxLen;omega)
  -- the slice laid ahead of it
 have hAB:∀(v2:Value) (w2:World),Below (W.alloc (.cells #[.string ⟨#[32,45,62,32]⟩,.int .i64 0,.int .i64 0,.slice none 0 0,.string ⟨#[]⟩,.int .i64 k1,.int .i64 n1,.slice b1 b2 b3] 118)).drew.heap.size (W.alloc (.cells #[.string ⟨#[32,45,62,32]⟩,.int .i64 0,.int .i64 0,.slice none 0 0,.string ⟨#[]⟩,.int .i64 k1,.int .i64 n1,.slice b1 b2 b3] 118)).drew w2→w2.ownsRow (W.alloc (.cells #[.string ⟨#[32,45,62,32]⟩,.int .i64 0,.int .i64 0,.slice none 0 0,.string ⟨#[]⟩,.int .i64 k1,.int .i64 n1,.slice b1 b2 b3] 118)).drew.heap.size 118 4 v2 (brkP k0 n0 (a1,a2,a3) ps0).length ((brkP k0 n0 (a1,a2,a3) ps0).flatMap pcC)→
   w2.cell? ⟨w.heap.size,2,none⟩=some (.slice (some ⟨b,off,none⟩) 2 u3)∧w2.cell? ⟨b,off+3,none⟩=some (.int .i64 k1)∧w2.cell? ⟨b,off+4,none⟩=some (.int .i64 n1)∧w2.cell? ⟨b,off+5,none⟩=some (.slice b1 b2 b3)∧∃v3 w3,(app_ #[119,119] 119 #[v2,.slice (some ⟨w.heap.size+1,0,none⟩) 2 2]).run Tryz.prog w2 = .ok v3 w3∧Hid (PcsOf B 4 n (.cons k0 n0 (a1,a2,a3) ps0 (.cons k1 n1 (b1,b2,b3) ps1 .nil)) w w3 v3):=by
  intro v2 w2 hb2 hown2
  obtain ⟨m0,m1,m2,m3⟩:=hMM w2 ((((Below.refl _ W).alloc (Nat.le_refl _) _).drew).trans (hb2.mono (by show W.heap.size≤(W.alloc _).heap.size;simp)))
  refine ⟨m0,m1,m2,m3,?_⟩
  refine HL2.out (W.alloc (.cells #[.string ⟨#[32,45,62,32]⟩,.int .i64 0,.int .i64 0,.slice none 0 0,.string ⟨#[]⟩,.int .i64 k1,.int .i64 n1,.slice b1 b2 b3] 118)).drew w2 v2 _ ((Below.refl _ W).alloc (Nat.le_refl _) _).drew hb2 hown2 ?_
  rw [←hWs]
  have hr:Rd (W.alloc (.cells #[.string ⟨#[32,45,62,32]⟩,.int .i64 0,.int .i64 0,.slice none 0 0,.string ⟨#[]⟩,.int .i64 k1,.int .i64 n1,.slice b1 b2 b3] 118)).drew 4 (.slice (some ⟨W.heap.size,0,none⟩) 2 2) 2 ([pcS [32,45,62,32],pcT k1 n1 (b1,b2,b3) ps1].flatMap pcC):=(rd_new W ([pcS [32,45,62,32],pcT k1 n1 (b1,b2,b3) ps1].flatMap pcC) 118 4 2 rfl (by unfold maxLen;omega)).drew
  exact hr.below hb2
 rw [HWW.out] at hBA hAB
 have HBA:=kI hBA
 have HAB:=kI hAB
 clear hBA hAB hWs hMM
 have hmix:Tryz.prog.follows Departure.mixedOrders=true:=by kernel_rfl
 gi_wp2
 gi_region_with_o (refine ⟨trivial,?_⟩;gi_at_call 106;refine (callsIn_wide.2 (bracketed_any k0 n0 (a1,a2,a3) ps0 _)).mono ?_;rintro e w2 ⟨v2,rfl,hown2,hb2⟩;(first|(have hh:=HBA.out v2 w2 hb2 hown2)|(have hh:=HAB.out v2 w2 hb2 hown2));obtain ⟨m0,m1,m2,m3,v3,w3,hrun3,HR⟩:=hh)
 all_goals gi_wp2
 all_goals
  refine bodyPost_ret (results_tmp rfl _ _ _) rfl ?_
  exact ⟨_,rfl,HR.out⟩
set_option maxHeartbeats 2000000 in
set_option maxRecDepth 100000 in
theorem pieces_any (B:Nat) (k n:Int) (u:Sl) (ps:Fo) (w:World) (hok:k=0∧ps = .nil∨alone k n ps.len=true∧ps.ok=true) (hB_:B≤w.heap.size) (hps:TyV B w ps (slv u)) (ht:Tab w) (hs:ps.size<1000000):
  Calls Tryz.prog 74 #[tyVal k n (slv u)] w fun e w'=>∃v,e = .returned v∧PcsOf B k n ps w w' v:=by
 obtain ⟨u1,u2,u3⟩:=u
 have hll:=ps.len_le_size
 have hb:=(Below.refl w.heap.size w).alloc (Nat.le_refl _) (.cells #[.int .i64 k,.int .i64 n,.slice u1 u2 u3] 25)
 by_cases h4:k=4
 ·subst h4
  obtain ⟨ha,ho⟩:=hok.resolve_left (by rintro ⟨h,_⟩;omega)
  exact pieces4 B n (u1,u2,u3) ps w ha ho hB_ hps
 dsimp only [tyVal,slv] at hps ⊢
 go_enter Tryz.func74,Tryz.ntmps74
 by_cases h1:k=1
 ·subst h1
  have HN:=kI (name_any n (w.alloc (.cells #[.int .i64 1,.int .i64 n,.slice u1 u2 u3] 25)) (ht.below hb))
  have HB:=kI hb
  clear hok hps ht hb
  go_wp2_with (go_at_call 105;refine HN.out.mono ?_;rintro e w2 ⟨rfl,hb2⟩)
  go_ret
  exact ⟨_,rfl,one_pc B 1 n ps w w2 (nameB n) (nameB_len n) (HB.out.trans (hb2.mono HB.out.size)) (by simp [oneT]) (by omega)⟩
 by_cases h2:k=2
 ·subst h2
  have hp:=one_pc B 2 n ps w (w.alloc (.cells #[.int .i64 2,.int .i64 n,.slice u1 u2 u3] 25)) [105,110,116] (by simp) hb (by simp [oneT]) (by omega)
  rw [World.size_alloc] at hp
  have HP:=kI hp
  clear hp hok hps ht hb
  go_wp2_with fail
  go_ret
  exact ⟨_,rfl,HP.out⟩
 by_cases h3:k=3
 ·subst h3
  have hp:=one_pc B 3 n ps w (w.alloc (.cells #[.int .i64 3,.int .i64 n,.slice u1 u2 u3] 25)) [98,111,111,108] (by simp) hb (by simp [oneT]) (by omega)
  rw [World.size_alloc] at hp
  have HP:=kI hp
  clear hp hok hps ht hb
  go_wp2_with fail
  go_ret
  exact ⟨_,rfl,HP.out⟩
 by_cases h5:k=5
 ·subst h5
  obtain ⟨ha,ho⟩:=hok.resolve_left (by rintro ⟨h,_⟩;omega)
  have HC:=kI (tuple_any ps (.slice u1 u2 u3) (w.alloc (.cells #[.int .i64 5,.int .i64 n,.slice u1 u2 u3] 25)) (hps.keep (Nat.le_trans hB_ hb.size) fun b off hlt=>hb.cell (p:=⟨b,off,none⟩) (Nat.lt_of_lt_of_le hlt hB_)) (by omega))
  have hfin:∀(v:Value) (w2:World),w2.ownsRow (w.alloc (.cells #[.int .i64 5,.int .i64 n,.slice u1 u2 u3] 25)).heap.size 118 4 v ([pcS [40]]++tupT true ps ++ [pcS [41]]).length (([pcS [40]]++tupT true ps ++ [pcS [41]]).flatMap pcC)→Below (w.alloc (.cells #[.int .i64 5,.int .i64 n,.slice u1 u2 u3] 25)).heap.size (w.alloc (.cells #[.int .i64 5,.int .i64 n,.slice u1 u2 u3] 25)) w2→PcsOf B 5 n ps w w2 v:=by
   intro v w2 hown hb2
   refine ⟨_,⟨hown.1,?_⟩,hb.trans (hb2.mono hb.size),?_,?_,?_,by have:=tupT_len ps true;simp;omega⟩
   ·rcases hown.2 with h|⟨g,cp,cur,h1,h2,h3⟩
    ·exact .inl h
    ·exact .inr ⟨g,cp,cur,h1,Nat.le_trans hb.size h2,h3⟩
   ·rw [List.flatMap_append,List.flatMap_append,(tupT_txt ps).1]
    simp [oneT,ptx]
   ·rw [pws_app,pws_app,if_neg (by omega)]
    have:=tupT_pw ps true
    simp [pws,pw] at this ⊢
    omega
   ·intro p hp
    rcases List.mem_append.1 hp with hp|hp
    ·rcases List.mem_append.1 hp with hp|hp
     ·obtain rfl:=List.mem_singleton.1 hp
      exact PcOk.str _ _ _ (by simp)
     ·exact tupT_ok hps.list ho true p hp
    ·obtain rfl:=List.mem_singleton.1 hp
     exact PcOk.str _ _ _ (by simp)
  have HF:=kI hfin
  clear hfin hps hok ha ho ht hb
  go_wp2_with (go_at_call 107;refine HC.out.mono ?_;rintro e w2 ⟨v,rfl,hown,hb2⟩)
  go_ret
  exact ⟨_,rfl,HF.out _ _ hown hb2⟩
 rcases hok with ⟨h0,rfl⟩|⟨h6,_⟩
 ·subst h0
  have hp:PcsOf B 0 n .nil w (w.alloc (.cells #[.int .i64 0,.int .i64 n,.slice u1 u2 u3] 25)) (.slice none 0 0):=⟨[],⟨rfl,.inl ⟨rfl,rfl⟩⟩,hb,by simp [oneT],by simp [pws],(fun p hp=>by cases hp),by simp⟩
  have HP:=kI hp
  clear hp hps ht hb h1 h2 h3 h4 h5
  go_wp2_with fail
  go_ret
  exact ⟨_,rfl,HP.out⟩
 ·exfalso
  simp [alone,h1,h2,h3,h4,h5] at h6
end
end Go.Proofs.YtmamdiggjghjkaaGreatDoor
