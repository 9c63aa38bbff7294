/- Texts of one proof, one behind the other. -/
import Derived.Test.YtgjlmjlfghodmaaGreatDoorMgSolveSat1
import Derived.Test.YtgjlmjlfghodmaaGreatDoorMgSolveSat5
import Derived.Deep.RegionWith
import Derived.Test.YtgjlmjlfghodmaaGreatDoorMgSolveSat4
import Derived.Lib.OthersKept
set_option linter.unusedVariables false
namespace Go.Proofs.YtgjlmjlfghodmaaGreatDoor
open Go.RowKit Go.Shelf
attribute [local go_sem ↓] builtin_app
attribute [local go_sem] Oper.semAt_some
def PcsOf (B:Nat) (k n:Int) (ps:Fo) (w w':World) (v:Value):Prop:=∃L:List Pc,w'.ownsRow w.heap.size 110 4 v L.length (L.flatMap pcC)∧Below w.heap.size w w'∧L.flatMap ptx=oneT k n ps.txts∧pws L<(if k=0 then 1 else 3+6*ps.size)∧(∀p∈L,PcOk B w p)∧L.length≤5000000
theorem nameB_len (n:Int):(nameB n).length≤40:=by
 unfold nameB
 split
 ·rename_i h
  simp only [Bool.and_eq_true,decide_eq_true_eq] at h
  have:=Lib.itoa_length_le (n / 26) (by omega) (by omega)
  split<;>simp<;>omega
 ·simp
theorem one_pc (B:Nat) (k n:Int) (ps:Fo) (w W:World) (s:List UInt8) (hs:s.length≤40) (hb:Below w.heap.size w W) (ht:oneT k n ps.txts=s) (hk:k≠0):
  PcsOf B k n ps w (W.alloc (.cells #[strB s,.int .i64 0,.int .i64 0,.slice none 0 0] 110)) (.slice (some ⟨W.heap.size,0,none⟩) 1 1):=by
 refine ⟨[pcS s],?_,hb.trans ((Below.refl _ _).alloc hb.size _),by rw [List.flatMap_cons,ptx_str,ht];simp,?_,?_,by simp⟩
 ·exact own_new W 110 4 1 ([pcS s].flatMap pcC) rfl (by unfold maxLen;omega) w hb
 ·rw [if_neg hk];simp [pws,pw];omega
 ·intro p hp
  obtain rfl:=List.mem_singleton.1 hp
  exact PcOk.str _ _ _ hs
set_option maxHeartbeats 2000000 in
set_option maxRecDepth 100000 in
theorem pieces4 (B:Nat) (n:Int) (u:Sl) (ps:Fo) (w:World) (ha:alone 4 n ps.len=true) (ho:ps.ok=true) (hB_:B≤w.heap.size) (hps:TyV B w ps (slv u)):
  Calls Tryz.prog 73 #[tyVal 4 n (slv u)] w fun e w'=>∃v,e = .returned v∧PcsOf B 4 n ps w w' v:=by
 obtain ⟨u1,u2,u3⟩:=u
 have hb:=(Below.refl w.heap.size w).alloc (Nat.le_refl _) (.cells #[.int .i64 4,.int .i64 n,.slice u1 u2 u3] 28)
 dsimp only [tyVal,slv] at hps ⊢
 refine (callsIn_wide (n:=3)).1 ?_
 refine callsIn_of_wp Tryz.func73 rfl trivial ?_ rfl
 simp only [Tryz.ntmps73,List.size_toArray,List.length_cons,List.length_nil,Nat.reduceAdd,Nat.reduceSub,Array.replicate_succ,Array.replicate_zero,List.push_toArray,List.append_toArray,List.nil_append,List.cons_append]
 have hl2:ps.len=2:=by
  simp [alone] at ha
  omega
 obtain ⟨k0,n0,⟨a1,a2,a3⟩,ps0,k1,n1,⟨b1,b2,b3⟩,ps1,rfl⟩:∃k0 n0 ua ps0 k1 n1 ub ps1,ps = .cons k0 n0 ua ps0 (.cons k1 n1 ub ps1 .nil):=by
  match ps,hl2 with
  | .cons k0 n0 ua ps0 (.cons k1 n1 ub ps1 .nil),_=>exact ⟨_,_,_,_,_,_,_,_,rfl⟩
  | .cons _ _ _ _ (.cons _ _ _ _ (.cons _ _ _ _ r)),h=>simp [Fo.len] at h
 obtain ⟨b,off,cap,hv,hc1,hc2,hlt,hC⟩:=hps.form (by rw [hl2];omega)
 rw [hl2] at hv
 injection hv with hA hB hcc
 subst hA;subst hB;subst hcc
 replace hlt:=Nat.lt_of_lt_of_le hlt hB_
 obtain ⟨d0,d1,d2,e1,hC2⟩:=tyC_cons.1 hC
 obtain ⟨d3,d4,d5,e2,_⟩:=tyC_cons.1 hC2
 simp only [Fo.ok,Bool.and_eq_true] at ho
 obtain ⟨W,hW⟩:∃W,W=w.alloc (.cells #[.int .i64 4,.int .i64 n,.slice (some ⟨b,off,none⟩) 2 u3] 28):=⟨_,rfl⟩
 rw [←hW] at hb
 have c0:=(hb.cell (p:=⟨b,off,none⟩) hlt).trans d0
 have c1:=(hb.cell (p:=⟨b,off+1,none⟩) hlt).trans d1
 have c2:=(hb.cell (p:=⟨b,off+2,none⟩) hlt).trans d2
 have c3:=(hb.cell (p:=⟨b,off+3,none⟩) hlt).trans d3
 have c4:=(hb.cell (p:=⟨b,off+3+1,none⟩) hlt).trans d4
 have c5:=(hb.cell (p:=⟨b,off+3+2,none⟩) hlt).trans d5
 dsimp only [slv] at c2 c5 d2 d5
  -- the two that come behind
 have hL2:∀(W0 w2:World) (v2 vx:Value),Below W.heap.size W W0→Below W0.heap.size W0 w2→w2.ownsRow W0.heap.size 110 4 v2 (brkP k0 n0 (a1,a2,a3) ps0).length ((brkP k0 n0 (a1,a2,a3) ps0).flatMap pcC)→Rd w2 4 vx 2 ([pcS [32,45,62,32],pcT k1 n1 (b1,b2,b3) ps1].flatMap pcC)→
   ∃v3 w3,(app_ #[111,111] 111 #[v2,vx]).run Tryz.prog w2 = .ok v3 w3∧Hid (PcsOf B 4 n (.cons k0 n0 (a1,a2,a3) ps0 (.cons k1 n1 (b1,b2,b3) ps1 .nil)) w w3 v3):=by
  intro W0 w2 v2 vx hb0 hb2 hown2 hrd
  have hz:=brkP_len k0 n0 (a1,a2,a3) ps0
  have hown2':w2.ownsRow w.heap.size 110 4 v2 (brkP k0 n0 (a1,a2,a3) ps0).length ((brkP k0 n0 (a1,a2,a3) ps0).flatMap pcC):=by
   refine ⟨hown2.1,?_⟩
   rcases hown2.2 with h|⟨g,cp,cur,h1,h2,h3⟩
   ·exact .inl h
   ·exact .inr ⟨g,cp,cur,h1,Nat.le_trans (Nat.le_trans hb.size hb0.size) h2,h3⟩
  have hw2:Below w.heap.size w w2:=hb.trans ((hb0.mono hb.size).trans (hb2.mono (Nat.le_trans hb.size hb0.size)))
  obtain ⟨v3,w3,hrun3,hown3,hb3,_⟩:=app_pc w2 w.heap.size v2 _ hown2' vx [pcS [32,45,62,32],pcT k1 n1 (b1,b2,b3) ps1] hrd (by simp;omega) hw2.size
  refine ⟨v3,w3,hrun3,kI ⟨_,hown3,hw2.trans hb3,?_,?_,?_,by simp;omega⟩⟩
  ·rw [List.flatMap_append,brkP_txt]
   simp [Fo.txts,oneT,ptx]
  ·rw [pws_app,if_neg (by omega)]
   have h1:=brkP_pw k0 n0 (a1,a2,a3) ps0
   have hp1:pw (pcS [32,45,62,32])=1:=by simp [pw]
   have hp2:pw (pcT k1 n1 (b1,b2,b3) ps1)≤3+6*ps1.size:=by simp only [pw];split<;>omega
   simp only [pws,List.map_cons,List.map_nil,List.sum_cons,List.sum_nil,Fo.size] at h1 ⊢
   omega
  ·intro p hp
   rcases List.mem_append.1 hp with hp|hp
   ·exact brkP_ok ⟨e1,.inr ⟨ho.1.1,ho.1.2⟩,by simp⟩ p hp
   ·simp only [List.mem_cons,List.not_mem_nil,or_false] at hp
    rcases hp with rfl|rfl
    ·exact PcOk.str _ _ _ (by simp)
    ·exact ⟨e2,.inr ⟨ho.2.1.1,ho.2.1.2⟩,by simp⟩
 have HL2:=kI hL2
 have HBB:=kI hb
 have HWW:=kI hW
 clear hps hC hC2 d0 d1 d2 d3 d4 d5 e1 e2 hL2 ha ho hb hc1 hc2 hl2
 rw [hW] at c0 c1 c2 c3 c4 c5
 clear hW
 have c4':(w.alloc (.cells #[.int .i64 4,.int .i64 n,.slice (some ⟨b,off,none⟩) 2 u3] 28)).cell? ⟨b,off+4,none⟩=some (.int .i64 n1):=c4
 have c5':(w.alloc (.cells #[.int .i64 4,.int .i64 n,.slice (some ⟨b,off,none⟩) 2 u3] 28)).cell? ⟨b,off+5,none⟩=some (.slice b1 b2 b3):=c5
 have hWs:W.heap.size=w.heap.size+1:=by rw [HWW.out];simp
 have hMM:∀w2:World,Below W.heap.size W w2→w2.cell? ⟨w.heap.size,2,none⟩=some (.slice (some ⟨b,off,none⟩) 2 u3)∧w2.cell? ⟨b,off+3,none⟩=some (.int .i64 k1)∧w2.cell? ⟨b,off+4,none⟩=some (.int .i64 n1)∧w2.cell? ⟨b,off+5,none⟩=some (.slice b1 b2 b3):=by
  intro w2 h
  have hlt2:b<W.heap.size:=by omega
  refine ⟨(h.cell (p:=⟨w.heap.size,2,none⟩) (by simp only;omega)).trans ?_,(h.cell (p:=⟨b,off+3,none⟩) hlt2).trans ?_,(h.cell (p:=⟨b,off+4,none⟩) hlt2).trans ?_,(h.cell (p:=⟨b,off+5,none⟩) hlt2).trans ?_⟩
  ·rw [HWW.out];exact cell_of_row _ w.heap.size 2 _ _ (0,0) (heap_alloc_new w _)
  ·rw [HWW.out];exact c3
  ·rw [HWW.out];exact c4
  ·rw [HWW.out];exact c5
  -- the slice laid behind the call
 have hBA:∀(v2:Value) (w2:World),Below W.drew.heap.size W.drew w2→w2.ownsRow W.drew.heap.size 110 4 v2 (brkP k0 n0 (a1,a2,a3) ps0).length ((brkP k0 n0 (a1,a2,a3) ps0).flatMap pcC)→
   w2.cell? ⟨w.heap.size,2,none⟩=some (.slice (some ⟨b,off,none⟩) 2 u3)∧w2.cell? ⟨b,off+3,none⟩=some (.int .i64 k1)∧w2.cell? ⟨b,off+4,none⟩=some (.int .i64 n1)∧w2.cell? ⟨b,off+5,none⟩=some (.slice b1 b2 b3)∧∃v3 w3,(app_ #[111,111] 111 #[v2,.slice (some ⟨w2.heap.size,0,none⟩) 2 2]).run Tryz.prog (w2.alloc (.cells #[.string ⟨#[32,45,62,32]⟩,.int .i64 0,.int .i64 0,.slice none 0 0,.string ⟨#[]⟩,.int .i64 k1,.int .i64 n1,.slice b1 b2 b3] 110)) = .ok v3 w3∧Hid (PcsOf B 4 n (.cons k0 n0 (a1,a2,a3) ps0 (.cons k1 n1 (b1,b2,b3) ps1 .nil)) w w3 v3):=by
  intro v2 w2 hb2 hown2
  obtain ⟨m0,m1,m2,m3⟩:=hMM w2 ((Below.refl _ W).drew.trans hb2)
  refine ⟨m0,m1,m2,m3,?_⟩
  refine HL2.out W.drew _ v2 _ (Below.refl _ W).drew (hb2.alloc hb2.size _) (hown2.alloc _) ?_
  exact rd_new w2 ([pcS [32,45,62,32],pcT k1 n1 (b1,b2,b3) ps1].flatMap pcC) 110 4 2 rfl (by unfold maxLen;omega)
  -- the slice laid ahead of it
 have hAB:∀(v2:Value) (w2:World),Below (W.alloc (.cells #[.string ⟨#[32,45,62,32]⟩,.int .i64 0,.int .i64 0,.slice none 0 0,.string ⟨#[]⟩,.int .i64 k1,.int .i64 n1,.slice b1 b2 b3] 110)).drew.heap.size (W.alloc (.cells #[.string ⟨#[32,45,62,32]⟩,.int .i64 0,.int .i64 0,.slice none 0 0,.string ⟨#[]⟩,.int .i64 k1,.int .i64 n1,.slice b1 b2 b3] 110)).drew w2→w2.ownsRow (W.alloc (.cells #[.string ⟨#[32,45,62,32]⟩,.int .i64 0,.int .i64 0,.slice none 0 0,.string ⟨#[]⟩,.int .i64 k1,.int .i64 n1,.slice b1 b2 b3] 110)).drew.heap.size 110 4 v2 (brkP k0 n0 (a1,a2,a3) ps0).length ((brkP k0 n0 (a1,a2,a3) ps0).flatMap pcC)→
   w2.cell? ⟨w.heap.size,2,none⟩=some (.slice (some ⟨b,off,none⟩) 2 u3)∧w2.cell? ⟨b,off+3,none⟩=some (.int .i64 k1)∧w2.cell? ⟨b,off+4,none⟩=some (.int .i64 n1)∧w2.cell? ⟨b,off+5,none⟩=some (.slice b1 b2 b3)∧∃v3 w3,(app_ #[111,111] 111 #[v2,.slice (some ⟨w.heap.size+1,0,none⟩) 2 2]).run Tryz.prog w2 = .ok v3 w3∧Hid (PcsOf B 4 n (.cons k0 n0 (a1,a2,a3) ps0 (.cons k1 n1 (b1,b2,b3) ps1 .nil)) w w3 v3):=by
  intro v2 w2 hb2 hown2
  obtain ⟨m0,m1,m2,m3⟩:=hMM w2 ((((Below.refl _ W).alloc (Nat.le_refl _) _).drew).trans (hb2.mono (by show W.heap.size≤(W.alloc _).heap.size;simp)))
  refine ⟨m0,m1,m2,m3,?_⟩
  refine HL2.out (W.alloc (.cells #[.string ⟨#[32,45,62,32]⟩,.int .i64 0,.int .i64 0,.slice none 0 0,.string ⟨#[]⟩,.int .i64 k1,.int .i64 n1,.slice b1 b2 b3] 110)).drew w2 v2 _ ((Below.refl _ W).alloc (Nat.le_refl _) _).drew hb2 hown2 ?_
  rw [←hWs]
  have hr:Rd (W.alloc (.cells #[.string ⟨#[32,45,62,32]⟩,.int .i64 0,.int .i64 0,.slice none 0 0,.string ⟨#[]⟩,.int .i64 k1,.int .i64 n1,.slice b1 b2 b3] 110)).drew 4 (.slice (some ⟨W.heap.size,0,none⟩) 2 2) 2 ([pcS [32,45,62,32],pcT k1 n1 (b1,b2,b3) ps1].flatMap pcC):=(rd_new W ([pcS [32,45,62,32],pcT k1 n1 (b1,b2,b3) ps1].flatMap pcC) 110 4 2 rfl (by unfold maxLen;omega)).drew
  exact hr.below hb2
 rw [HWW.out] at hBA hAB
 have HBA:=kI hBA
 have HAB:=kI hAB
 clear hBA hAB hWs hMM
 have hmix:Tryz.prog.follows Departure.mixedOrders=true:=by kernel_rfl
 gi_wp2
 gi_region_with_o (refine ⟨trivial,?_⟩;gi_at_call 106;refine (callsIn_wide.2 (bracketed_any k0 n0 (a1,a2,a3) ps0 _)).mono ?_;rintro e w2 ⟨v2,rfl,hown2,hb2⟩;(first|(have hh:=HBA.out v2 w2 hb2 hown2)|(have hh:=HAB.out v2 w2 hb2 hown2));obtain ⟨m0,m1,m2,m3,v3,w3,hrun3,HR⟩:=hh)
 all_goals gi_wp2
 all_goals
  refine bodyPost_ret (results_tmp rfl _ _ _) rfl ?_
  exact ⟨_,rfl,HR.out⟩
set_option maxHeartbeats 2000000 in
set_option maxRecDepth 100000 in
theorem pieces_any (B:Nat) (k n:Int) (u:Sl) (ps:Fo) (w:World) (hok:k=0∧ps = .nil∨alone k n ps.len=true∧ps.ok=true) (hB_:B≤w.heap.size) (hps:TyV B w ps (slv u)) (ht:Tab w) (hs:ps.size<1000000):
  Calls Tryz.prog 73 #[tyVal k n (slv u)] w fun e w'=>∃v,e = .returned v∧PcsOf B k n ps w w' v:=by
 obtain ⟨u1,u2,u3⟩:=u
 have hll:=ps.len_le_size
 have hb:=(Below.refl w.heap.size w).alloc (Nat.le_refl _) (.cells #[.int .i64 k,.int .i64 n,.slice u1 u2 u3] 28)
 by_cases h4:k=4
 ·subst h4
  obtain ⟨ha,ho⟩:=hok.resolve_left (by rintro ⟨h,_⟩;omega)
  exact pieces4 B n (u1,u2,u3) ps w ha ho hB_ hps
 dsimp only [tyVal,slv] at hps ⊢
 go_enter Tryz.func73,Tryz.ntmps73
 by_cases h1:k=1
 ·subst h1
  have HN:=kI (name_any n (w.alloc (.cells #[.int .i64 1,.int .i64 n,.slice u1 u2 u3] 28)) (ht.below hb))
  have HB:=kI hb
  clear hok hps ht hb
  go_wp2_with (go_at_call 105;refine HN.out.mono ?_;rintro e w2 ⟨rfl,hb2⟩)
  go_ret
  exact ⟨_,rfl,one_pc B 1 n ps w w2 (nameB n) (nameB_len n) (HB.out.trans (hb2.mono HB.out.size)) (by simp [oneT]) (by omega)⟩
 by_cases h2:k=2
 ·subst h2
  have hp:=one_pc B 2 n ps w (w.alloc (.cells #[.int .i64 2,.int .i64 n,.slice u1 u2 u3] 28)) [105,110,116] (by simp) hb (by simp [oneT]) (by omega)
  rw [World.size_alloc] at hp
  have HP:=kI hp
  clear hp hok hps ht hb
  go_wp2_with fail
  go_ret
  exact ⟨_,rfl,HP.out⟩
 by_cases h3:k=3
 ·subst h3
  have hp:=one_pc B 3 n ps w (w.alloc (.cells #[.int .i64 3,.int .i64 n,.slice u1 u2 u3] 28)) [98,111,111,108] (by simp) hb (by simp [oneT]) (by omega)
  rw [World.size_alloc] at hp
  have HP:=kI hp
  clear hp hok hps ht hb
  go_wp2_with fail
  go_ret
  exact ⟨_,rfl,HP.out⟩
 by_cases h5:k=5
 ·subst h5
  obtain ⟨ha,ho⟩:=hok.resolve_left (by rintro ⟨h,_⟩;omega)
  have HC:=kI (tuple_any ps (.slice u1 u2 u3) (w.alloc (.cells #[.int .i64 5,.int .i64 n,.slice u1 u2 u3] 28)) (hps.keep (Nat.le_trans hB_ hb.size) fun b off hlt=>hb.cell (p:=⟨b,off,none⟩) (Nat.lt_of_lt_of_le hlt hB_)) (by omega))
  have hfin:∀(v:Value) (w2:World),w2.ownsRow (w.alloc (.cells #[.int .i64 5,.int .i64 n,.slice u1 u2 u3] 28)).heap.size 110 4 v ([pcS [40]]++tupT true ps ++ [pcS [41]]).length (([pcS [40]]++tupT true ps ++ [pcS [41]]).flatMap pcC)→Below (w.alloc (.cells #[.int .i64 5,.int .i64 n,.slice u1 u2 u3] 28)).heap.size (w.alloc (.cells #[.int .i64 5,.int .i64 n,.slice u1 u2 u3] 28)) w2→PcsOf B 5 n ps w w2 v:=by
   intro v w2 hown hb2
   refine ⟨_,⟨hown.1,?_⟩,hb.trans (hb2.mono hb.size),?_,?_,?_,by have:=tupT_len ps true;simp;omega⟩
   ·rcases hown.2 with h|⟨g,cp,cur,h1,h2,h3⟩
    ·exact .inl h
    ·exact .inr ⟨g,cp,cur,h1,Nat.le_trans hb.size h2,h3⟩
   ·rw [List.flatMap_append,List.flatMap_append,(tupT_txt ps).1]
    simp [oneT,ptx]
   ·rw [pws_app,pws_app,if_neg (by omega)]
    have:=tupT_pw ps true
    simp [pws,pw] at this ⊢
    omega
   ·intro p hp
    rcases List.mem_append.1 hp with hp|hp
    ·rcases List.mem_append.1 hp with hp|hp
     ·obtain rfl:=List.mem_singleton.1 hp
      exact PcOk.str _ _ _ (by simp)
     ·exact tupT_ok hps.list ho true p hp
    ·obtain rfl:=List.mem_singleton.1 hp
     exact PcOk.str _ _ _ (by simp)
  have HF:=kI hfin
  clear hfin hps hok ha ho ht hb
  go_wp2_with (go_at_call 107;refine HC.out.mono ?_;rintro e w2 ⟨v,rfl,hown,hb2⟩)
  go_ret
  exact ⟨_,rfl,HF.out _ _ hown hb2⟩
 rcases hok with ⟨h0,rfl⟩|⟨h6,_⟩
 ·subst h0
  have hp:PcsOf B 0 n .nil w (w.alloc (.cells #[.int .i64 0,.int .i64 n,.slice u1 u2 u3] 28)) (.slice none 0 0):=⟨[],⟨rfl,.inl ⟨rfl,rfl⟩⟩,hb,by simp [oneT],by simp [pws],(fun p hp=>by cases hp),by simp⟩
  have HP:=kI hp
  clear hp hps ht hb h1 h2 h3 h4 h5
  go_wp2_with fail
  go_ret
  exact ⟨_,rfl,HP.out⟩
 ·exfalso
  simp [alone,h1,h2,h3,h4,h5] at h6
end Go.Proofs.YtgjlmjlfghodmaaGreatDoor
namespace Go.Proofs.YtgjlmjlfghodmaaGreatDoor
open Go.RowKit Go.Shelf
attribute [local go_sem] Oper.semAt_some
def KpQ (ks:List Nat) (W W':World):Prop:=∀k∈ks,∀o,W.heap[k]? = some o→o.isCells=true→W'.heap[k]? = some o
theorem KpQ.t {ks:List Nat}{X Y Z:World}(h:KpQ ks X Y) (k:KpQ ks Y Z):KpQ ks X Z:=fun i hi o ho hc=>k i hi o (h i hi o ho hc) hc
theorem KpQ.b {ks:List Nat}{w:World}(W:World) (l:Nat) (o o':Obj) (_:w.heap.size≤l) (h:W.heap[l]? = some o) (h1:o.isCells=false) (_:o.isWalk=false):KpQ ks W (W.putObj l o'):=by
 intro k _ o2 ho hc
 have hne:k≠l:=by
  rintro rfl
  rw [h] at ho
  injection ho with ho
  subst ho
  rw [h1] at hc;cases hc
 exact ((grownBy_putObj' W l o').block k (gL ho).1 (fun e=>hne (by cases e;rfl))).trans ho
def RdO (gp:Nat) (W:World) (v:Value) (L:List Pc):Prop:=(L=[]∧v = .slice none 0 0)∨∃cap cur,v = .slice (some ⟨gp,0,none⟩) L.length cap∧W.heap[gp]? = some (Obj.cells cur 110)∧cur.toList.take (L.length*4)=L.flatMap pcC
theorem RdO.of_own {W:World}{base:Nat}{v:Value}{L:List Pc}(g0:Nat) (h:W.ownsRow base 110 4 v L.length (L.flatMap pcC)):∃gp,RdO gp W v L∧(gp=g0∨base≤gp∧gp<W.heap.size):=by
 rcases h.2 with ⟨h0,h1⟩|⟨g,cap,cur,h0,h1,h2,h3,h4,h5,h6⟩
 ·exact ⟨g0,.inl ⟨List.eq_nil_of_length_eq_zero h1,h0⟩,.inl rfl⟩
 ·exact ⟨g,.inr ⟨cap,cur,h0,h2,h6⟩,.inr ⟨h1,(gL h2).1⟩⟩
theorem RdO.keep {gp:Nat}{W W':World}{v:Value}{L:List Pc}(h:RdO gp W v L) (hk:∀o,W.heap[gp]? = some o→o.isCells=true→W'.heap[gp]? = some o):RdO gp W' v L:=by
 rcases h with h|⟨cap,cur,h1,h2,h3⟩
 ·exact .inl h
 ·exact .inr ⟨cap,cur,h1,hk _ h2 rfl,h3⟩
theorem flat_pc (L:List Pc) (i j:Nat) (hi:i<L.length) (u:Value) (hu:(pcC L[i])[j]? = some u):(L.flatMap pcC)[i*4+j]? = some u:=by
 induction L generalizing i with
 | nil=>simp at hi
 | cons x l ih=>
  cases i with
  | zero=>
   simp only [List.getElem_cons_zero] at hu
   rw [List.flatMap_cons,List.getElem?_append_left (by have:=(List.getElem?_eq_some_iff.1 hu).1;omega)]
   simpa using hu
  | succ i=>
   simp only [List.getElem_cons_succ] at hu
   have:=ih i (by simpa using hi) hu
   rw [List.flatMap_cons,List.getElem?_append_right (by simp [pcC];omega)]
   rw [show (pcC x).length=4 from rfl,show (i+1)*4+j-4=i*4+j by omega]
   exact this
theorem RdO.cell {gp:Nat}{W:World}{A:Option Addr}{n c:Nat}{L:List Pc}(h:RdO gp W (.slice A n c) L) (i:Nat) (hi:i<L.length):n=L.length∧A=some ⟨gp,0,none⟩∧W.cell? ⟨gp,i*4,none⟩=some (strB L[i].s)∧W.cell? ⟨gp,i*4+1,none⟩=some (.int .i64 L[i].k)∧W.cell? ⟨gp,i*4+2,none⟩=some (.int .i64 L[i].n)∧W.cell? ⟨gp,i*4+3,none⟩=some (slv L[i].u):=by
 rcases h with ⟨h,_⟩|⟨cap,cur,h1,h2,h3⟩
 ·subst h;simp at hi
 ·injection h1 with e1 e2 e3
  have key:∀j u,(pcC L[i])[j]? = some u→W.cell? ⟨gp,i*4+j,none⟩=some u:=by
   intro j u hu
   have hj:j<4:=(List.getElem?_eq_some_iff.1 hu).1
   have hf:=flat_pc L i j hi u hu
   rw [←h3,List.getElem?_take,if_pos (by omega)] at hf
   rw [cell_of_row W gp (i*4+j) cur _ (0,0) h2]
   simpa using hf
  exact ⟨e2,e1,key 0 _ rfl,key 1 _ rfl,key 2 _ rfl,key 3 _ rfl⟩
set_option maxRecDepth 100000 in
set_option maxHeartbeats 2000000 in
theorem back1P (n:Nat) (hn:1≤n) (l Bs gp:Nat) (A:Option Addr) (c:Nat) (L:List Pc) (hL:L.length≤10000000) (J Jx:List (Int×Pc)→World→Prop)
  (hY:∀pre x W,J pre W→pre.length<L.length→YieldAt Fence.wide (n-1) Tryz.prog l #[.int .i64 x.1,pcV x.2] W fun e W'=>
   (e = .returned (.bool true)∧J (pre ++ [x]) W'∧KpQ [gp,Bs] W W')∨(e = .returned (.bool false)∧Jx (pre ++ [x]) W'))
  (W:World) (hBs:Boxed W Bs 111 (.slice A L.length c)) (hR:RdO gp W (.slice A L.length c) L) (h0:J [] W):
  CallsIn Fence.wide n Tryz.prog 104 #[.func (.yield l) #[] #[],.pointer (some ⟨Bs,0,none⟩)] W fun e W'=>(∃v,e = .returned v)∧
   ((∃ys:List (Int×Pc),ys.map (·.2)=L.reverse∧J ys W')∨(∃pre,Jx pre W')):=by
 refine callsIn_of_wp Tryz.func104 rfl trivial ?_ rfl
 simp only [Tryz.ntmps104,List.size_toArray,List.length_cons,List.length_nil,Nat.reduceAdd,Nat.reduceSub,Array.replicate_succ,Array.replicate_zero,List.push_toArray,List.append_toArray,List.nil_append,List.cons_append]
 have e00:W.cell? ⟨Bs,0,none⟩=some (.slice A L.length c):=hBs.cell
 have HBS:=kI hBs
 have HR0:=kI hR
 clear hBs hR
 gi_wp2
 gi_loopw [3] (fun i wr=>∃(k:Nat) (z:Int) (pre:List (Int×Pc)),k≤L.length∧i = .int .i64 z∧z+1=k∧pre.map (·.2)=(L.drop k).reverse∧J pre wr∧RdO gp wr (.slice A L.length c) L∧Boxed wr Bs 111 (.slice A L.length c))
  (fun i _=>(intOf i+1).toNat)
 case atStart=>exact ⟨L.length,_,[],Nat.le_refl _,rfl,by omega,by simp,h0,HR0.out,HBS.out⟩
 case round=>
  obtain ⟨k,z,pre,hk,rfl,hz,hpre,hJs,hRd,hbx⟩:=hrel
  have e0:wr.cell? ⟨Bs,0,none⟩=some (.slice A L.length c):=hbx.cell
  have HBX:=kI hbx
  have HRD:=kI hRd
  clear hbx hRd
  by_cases hk0:1≤k
  ·obtain ⟨_,rfl,c0,c1,c2,c3⟩:=HRD.out.cell (k-1) (by omega)
   have hdrop:L.drop (k-1)=L[k-1] :: L.drop k:=by
    have:=List.drop_eq_getElem_cons (l:=L) (i:=k-1) (by omega)
    rwa [show k-1+1=k by omega] at this
   have hpl:pre.length<L.length:=by
    have:(pre.map (·.2)).length=pre.length:=by simp
    rw [hpre] at this
    simp at this
    omega
   obtain ⟨x,hx⟩:∃x,L[k-1]=x:=⟨_,rfl⟩
   rw [hx] at c0 c1 c2 c3 hdrop
   obtain ⟨s,k',n',⟨x1,x2,x3⟩,ps'⟩:=x
   dsimp only [slv,strB] at c0 c1 c2 c3
   obtain ⟨fn,tmps,assign,body,hy,hR2⟩:=hY pre (z,⟨s,k',n',(x1,x2,x3),ps'⟩) wr hJs hpl
   dsimp only [pcV,slv,strB] at hy
   have f1:(0:Int)≤z:=by omega
   have f2:z<(L.length:Int):=by omega
   have f3:z.toNat=k-1:=by omega
   have f4:decide ((0:Int)≤z)=true:=decide_eq_true f1
   have HZ:=kI hz
   have HP:=kI hpre
   have HD:=kI hdrop
   clear hz hpre hdrop hx hpl
   gi_wp2
   refine hR2.mono ?_
   rintro e W3 (⟨rfl,hJ3,hk3⟩|⟨rfl,hJx3⟩)
   ·have hq1:RdO gp W3 (.slice (some ⟨gp,0,none⟩) L.length c) L:=HRD.out.keep (hk3 gp (by simp))
    have hq2:Boxed W3 Bs 111 (.slice (some ⟨gp,0,none⟩) L.length c):=hk3 Bs (by simp) _ HBX.out rfl
    have HQ1:=kI hq1
    have HQ2:=kI hq2
    clear hq1 hq2
    gi_wp2
    go_roundw
    case rel=>exact ⟨k-1,z-1,pre ++ [(z,⟨s,k',n',(x1,x2,x3),ps'⟩)],by omega,by go_num,by have:=HZ.out;omega,by simp [HP.out,HD.out],hJ3,HQ1.out,HQ2.out⟩
    case measure=>simp [intOf];omega
   ·gi_wp2
    refine bodyPost_ret (results_none rfl _ _ _) rfl ?_
    exact ⟨⟨_,rfl⟩,.inr ⟨_,hJx3⟩⟩
  ·obtain rfl:k=0:=by omega
   have f1:¬ (0:Int)≤z:=by omega
   have f4:decide ((0:Int)≤z)=false:=decide_eq_false f1
   have HP:=kI hpre
   clear hz hpre
   gi_wp2
   go_end0
   exact ⟨⟨_,rfl⟩,.inl ⟨pre,by simpa using HP.out,hJs⟩⟩
set_option maxHeartbeats 1000000 in
theorem back_makeP (A:Option Addr) (n c:Nat) (w:World):
  Calls Tryz.prog 72 #[.slice A n c] w fun e w'=>e = .returned (.func (.func 104) #[] #[.pointer (some ⟨w.heap.size,0,none⟩)])∧w'=w.alloc (.cells #[.slice A n c] 111):=by
 go_enter Tryz.func72,Tryz.ntmps72
 go_wp2
 go_ret
 exact ⟨rfl,rfl⟩
theorem back_seqP (n:Nat) (hn:1≤n) (Bs gp:Nat) (t:TypeId) (A:Option Addr) (c:Nat) (L:List Pc) (hL:L.length≤10000000) (w:World) (hBs:Boxed w Bs 111 (.slice A L.length c)) (hR:RdO gp w (.slice A L.length c) L):
  SeqG n Tryz.prog 104 #[.pointer (some ⟨Bs,0,none⟩)] t (fun x:Int×Pc=>#[Value.int .i64 x.1,pcV x.2]) (KpQ [gp,Bs]) (fun ys=>ys.map (·.2)=L.reverse) (fun _=>True) (fun pre _=>pre.length<L.length) w:=fun l J Jx W hW _ _ hY h0=>by
 have hbs:Boxed W Bs 111 (.slice A L.length c):=(hW.block Bs hBs.lt).trans hBs
 refine (back1P n hn l Bs gp A c L hL J Jx hY W hbs (hR.keep fun o ho _=>(hW.block gp (gL ho).1).trans ho) h0).mono ?_
 rintro e W' ⟨he,⟨ys,hy,hj⟩|⟨pre,hj⟩⟩
 ·exact ⟨he,.inl ⟨ys,hy,hj⟩⟩
 ·exact ⟨he,.inr ⟨pre,trivial,hj⟩⟩
end Go.Proofs.YtgjlmjlfghodmaaGreatDoor
namespace Go.Proofs.YtgjlmjlfghodmaaGreatDoor
open Go.RowKit Go.Shelf
def mark (r:Nat):Deferred:={ target:=.collected r,args:=#[] }
theorem builder_kept {B b:Nat}{bs:List Value}{W W':World}(h:Lib.IsBuilderF 108 5 B b bs W)
  (hk:∀(k:Nat) (cs:Array Value) (t:TypeId) (fz:Nat×Nat),t=108∨t=5→W.heap[k]? = some (Obj.cells cs t fz)→W'.heap[k]? = some (Obj.cells cs t fz)):Lib.IsBuilderF 108 5 B b bs W':=by
 have one:∀p,Lib.BuilderAtF 108 5 B b p bs W→Lib.BuilderAtF 108 5 B b p bs W':=by
  rintro p ⟨hB,v,hb,hown,hne⟩
  refine ⟨hB,v,hk _ _ _ _ (.inl rfl) hb,⟨hown.1,?_⟩,hne⟩
  rcases hown.2 with h|⟨g,cap,cur,fz,h1,h2,h3,h4⟩
  ·exact .inl h
  ·exact .inr ⟨g,cap,cur,fz,h1,h2,hk _ _ _ _ (.inr rfl) h3,h4⟩
 exact h.elim (fun x=>.inl (one _ x)) (fun x=>.inr (one _ x))
structure PrI (w:World) (Bb b4:Nat) (v:Value) (L:List Pc) (acc:List UInt8) (rs:List Nat) (W:World):Prop where
 box:Boxed W b4 111 v
 row:W.ownsRow Bb 110 4 v L.length (L.flatMap pcC)
 bld:Lib.IsBuilderF 108 5 Bb Bb (Lib.byteCells acc) W
 marks:∀r∈rs,W.heap[r]? = some (Obj.deferred (some []))
 bel:Below w.heap.size w W
theorem row_kept {W W':World}{base:Nat}{e:TypeId}{size:Nat}{v:Value}{n:Nat}{xs:List Value}(h:W.ownsRow base e size v n xs) (hk:∀(k:Nat) (cs:Array Value),W.heap[k]? = some (Obj.cells cs e)→W'.heap[k]? = some (Obj.cells cs e)):W'.ownsRow base e size v n xs:=by
 refine ⟨h.1,?_⟩
 rcases h.2 with h0|⟨g,cap,cur,h1,h2,h3,h4⟩
 ·exact .inl h0
 ·exact .inr ⟨g,cap,cur,h1,h2,hk _ _ h3,h4⟩
theorem PrI.turn {w:World}{Bb b4:Nat}{v v':Value}{L L':List Pc}{acc:List UInt8}{rs:List Nat}{W W':World}(h:PrI w Bb b4 v L acc rs W) (hbox:Boxed W' b4 111 v') (hrow:W'.ownsRow Bb 110 4 v' L'.length (L'.flatMap pcC))
  (hk:∀(k:Nat) (cs:Array Value) (t:TypeId) (fz:Nat×Nat),t=108∨t=5→W.heap[k]? = some (Obj.cells cs t fz)→W'.heap[k]? = some (Obj.cells cs t fz)) (hm:∀r∈rs,W.heap[r]? = some (Obj.deferred (some []))→W'.heap[r]? = some (Obj.deferred (some []))) (hb:Below w.heap.size W W'):PrI w Bb b4 v' L' acc rs W':=
 ⟨hbox,hrow,builder_kept h.bld hk,fun r hr=>hm r hr (h.marks r hr),h.bel.trans hb⟩
theorem PrI.below {w:World}{Bb b4:Nat}{v:Value}{L:List Pc}{acc:List UInt8}{rs:List Nat}{W W':World}(h:PrI w Bb b4 v L acc rs W) (hb:Below W.heap.size W W'):PrI w Bb b4 v L acc rs W':=by
 have k:∀(b:Nat) (o:Obj),W.heap[b]? = some o→W'.heap[b]? = some o:=fun b o ho=>(hb.block b (gL ho).1).trans ho
 exact h.turn (k _ _ h.box) (row_kept h.row fun _ _ hc=>k _ _ hc) (fun _ _ _ _ _ hc=>k _ _ hc) (fun _ _ hr=>k _ _ hr) (hb.mono h.bel.size)
theorem PrI.own {w:World}{Bb b4:Nat}{v:Value}{L:List Pc}{acc:List UInt8}{rs:List Nat}{W W':World}{B:Nat}(h:PrI w Bb b4 v L acc rs W) (hwB:w.heap.size≤B) (hrs:∀r∈rs,r<B) (hs:W.heap.size≤W'.heap.size) (row:Option Nat) (hg:W.grownBy W' row) (hr:∀r,row=some r→B≤r∧∃o:Obj,W.heap[r]? = some o∧o.isCells=false):PrI w Bb b4 v L acc rs W':=by
 have k:∀(b:Nat) (o:Obj),W.heap[b]? = some o→o.isCells=true∨b<B→W'.heap[b]? = some o:=by
  intro b o ho hx
  refine (hg.block b (gL ho).1 fun e=>?_).trans ho
  obtain ⟨h1,o',h2,h3⟩:=hr b e.symm
  rcases hx with hx|hx
  ·rw [ho] at h2;injection h2 with h2;subst h2;rw [hx] at h3;cases h3
  ·omega
 refine h.turn (k _ _ h.box (.inl rfl)) (row_kept h.row fun _ _ hc=>k _ _ hc (.inl rfl)) (fun _ _ _ _ _ hc=>k _ _ hc (.inl rfl)) (fun r hr' hc=>k _ _ hc (.inr (hrs r hr'))) ?_
 exact ⟨hg.os,hg.tape,hg.output,hs,fun b hb=>hg.block b (Nat.lt_of_lt_of_le hb h.bel.size) (fun e=>by have:=(hr b e.symm).1;omega)⟩
theorem PrI.wrote {w:World}{Bb b4:Nat}{v:Value}{L:List Pc}{acc s:List UInt8}{rs:List Nat}{W W':World}(h:PrI w Bb b4 v L acc rs W) (hB:w.heap.size≤Bb) (hb4:b4≠Bb) (hrs:∀r∈rs,r≠Bb) (hbd:Lib.BuilderAtF 108 5 Bb Bb (.pointer (some ⟨Bb,0,none⟩)) (Lib.byteCells acc++Lib.strCells ⟨s.toArray⟩) W') (hb:Below Bb W W') (ho:Lib.OthersKept 5 (some Bb) W W'):PrI w Bb b4 v L (acc++s) rs W':=by
 refine ⟨ho _ _ h.box (by simpa using hb4) (by intro c fz e;cases e),?_,?_,fun r hr=>ho _ _ (h.marks r hr) (by simpa using hrs r hr) (by intro c fz e;cases e),h.bel.trans (hb.mono hB)⟩
 ·refine ⟨h.row.1,?_⟩
  rcases h.row.2 with h0|⟨g,cap,cur,h1,h2,h3,h4⟩
  ·exact .inl h0
  ·refine .inr ⟨g,cap,cur,h1,h2,ho _ _ h3 ?_ (by intro c fz e;cases e),h4⟩
   intro e
   injection e with e
   rcases h.bld with ⟨_,_,hb,_⟩|⟨_,_,hb,_⟩<;>(rw [←e,h3] at hb;cases hb)
 ·refine .inr ?_
  have e:Lib.byteCells (acc++s)=Lib.byteCells acc++Lib.strCells ⟨s.toArray⟩:=by rw [Lib.byteCells_append];rfl
  rw [e];exact hbd
theorem leaves_marks {P:Program}{F:Fence}{n:Nat}{fn:Func}{tmps:Array Value}{R:Ending→World→Prop}(rs:List Nat) (w:World) (hnd:rs.Nodup) (hm:∀r∈rs,w.heap[r]? = some (Obj.deferred (some [])))
  (hfin:∀w':World,w'.heap.size=w.heap.size→w'.os=w.os→w'.tape=w.tape→w'.output=w.output→(∀k,k ∉ rs→w'.heap[k]? = w.heap[k]?)→LeavesInM F n P fn tmps R [] .returning w'):LeavesInM F n P fn tmps R (rs.map mark) .returning w:=by
 induction rs generalizing w with
 | nil=>exact hfin w rfl rfl rfl rfl fun _ _=>rfl
 | cons r rs ih=>
  have h0:=hm r List.mem_cons_self
  have hne:=(List.nodup_cons.1 hnd).1
  have hgp:=grownBy_putObj' w r (.deferred none)
  have hsz:(w.putObj r (.deferred none)).heap.size=w.heap.size:=by simp [World.putObj]
  refine ⟨by simp,.inl ⟨r,_,rfl,run_takeDeferred h0,ih _ (List.nodup_cons.1 hnd).2 (fun k hk=>?_) fun w' h1 h2 h3 h4 h5=>?_⟩⟩
  ·have hkr:k≠r:=by rintro rfl;exact hne hk
   have hk0:=hm k (List.mem_cons_of_mem _ hk)
   exact (hgp.block k (gL hk0).1 (by simpa using hkr)).trans hk0
  ·refine hfin w' (h1.trans hsz) (h2.trans hgp.os) (h3.trans hgp.tape) (h4.trans hgp.output) fun k hk=>?_
   simp only [List.mem_cons,not_or] at hk
   refine (h5 k hk.2).trans ?_
   simp only [World.putObj]
   rw [Array.getElem?_setIfInBounds_ne (by omega)]
theorem sepT_len (l:List (Int×List UInt8)):(sepT l).length≤(l.map fun x=>x.2.length+5).sum:=by
 induction l with
 | nil=>simp [sepT]
 | cons x l ih=>
  have hb:(brk x).length≤x.2.length+2:=by unfold brk;split<;>simp
  cases l with
  | nil=>simp [sepT];omega
  | cons y r=>
   simp only [sepT,List.length_append,List.length_cons,List.map_cons,List.sum_cons] at ih ⊢
   omega
theorem oneT_len (k n:Int) (l:List (Int×List UInt8)):(oneT k n l).length≤40+(l.map fun x=>x.2.length+5).sum:=by
 unfold oneT
 split
 ·have:=nameB_len n;omega
 split
 ·simp;omega
 split
 ·simp;omega
 split
 ·split
  ·rename_i x y
   have hb:(brk x).length≤x.2.length+2:=by unfold brk;split<;>simp
   simp;omega
  ·simp
 split
 ·have:=sepT_len l
  simp;omega
 ·simp
theorem txts_len (f:Fo):(f.txts.map fun x=>x.2.length+5).sum≤48*f.size:=by
 induction f with
 | nil=>simp [Fo.txts]
 | cons k n u ps r ih1 ih2=>
  have:=oneT_len k n ps.txts
  simp only [Fo.txts,List.map_cons,List.sum_cons,Fo.size]
  omega
theorem pw_pos (p:Pc):1≤pw p:=by unfold pw;split<;>omega
theorem pws_len (L:List Pc):L.length≤pws L:=by
 induction L with
 | nil=>simp
 | cons x l ih=>have:=pw_pos x;simp only [pws,List.map_cons,List.sum_cons,List.length_cons] at ih ⊢;omega
theorem allAlone_app (a b:List Tr):allAlone (a++b)=(allAlone a && allAlone b):=by simp [allAlone]
theorem allAlone_ok {B:Nat}{w:World}(f:Fo) (h:TyL B w f):allAlone f.pre=f.ok:=by
 induction f with
 | nil=>rfl
 | cons k n u ps r ih1 ih2=>
  obtain ⟨A,c,hs⟩:=h.1.slice
  have hu:u.2.1=ps.len:=by
   obtain ⟨u1,u2,u3⟩:=u
   unfold slv at hs
   injection hs
  have e:(Fo.cons k n u ps r).pre=(k,n,u) :: (ps.pre++r.pre):=rfl
  have e2:allAlone ((k,n,u) :: (ps.pre++r.pre))=(alone k n u.2.1 && allAlone (ps.pre++r.pre)):=by simp [allAlone]
  rw [e,e2,allAlone_app,ih1 h.1.list,ih2 h.2,hu,Fo.ok,Bool.and_assoc]
theorem mark_inj {a b:List Nat}(h:a.map mark=b.map mark):a=b:=by
 induction a generalizing b with
 | nil=>cases b<;>simp_all
 | cons x a ih=>
  cases b with
  | nil=>simp at h
  | cons y b=>
   simp only [List.map_cons,List.cons.injEq] at h
   have hxy:x=y:=by
    have:=h.1
    simp only [mark] at this
    injection this with this
    injection this
   rw [hxy,ih h.2]
theorem PrI.ab {w:World}{Bb b4:Nat}{v:Value}{L:List Pc}{acc:List UInt8}{rs:List Nat}{W W':World}{B:Nat}(h:PrI w Bb b4 v L acc rs W) (hwB:w.heap.size≤B) (hc:CStep B 106 W W'):PrI w Bb b4 v L acc rs W':=by
 have hb:=hc.below hwB h.bel.size
 obtain ⟨row,hg,hr⟩:=hc
 have k:∀(b:Nat) (o:Obj),W.heap[b]? = some o→(∀cs,o≠Obj.cells cs 106)→W'.heap[b]? = some o:=by
  intro b o ho hx
  refine (hg.block b (gL ho).1 fun e=>?_).trans ho
  obtain ⟨_,cs,h2⟩:=hr b e.symm
  rw [ho] at h2;injection h2 with h2
  exact hx cs h2
 refine h.turn (k _ _ h.box (by intro cs e;injection e with _ e;exact absurd e (by decide))) (row_kept h.row fun _ _ hc=>k _ _ hc (by intro cs e;injection e with _ e;exact absurd e (by decide))) (fun _ _ t _ ht hc=>k _ _ hc (by
  intro cs e
  injection e with _ e
  rcases ht with h|h<;>(rw [h] at e;exact absurd e (by decide)))) (fun r hr' hc=>k _ _ hc (by intro cs e;cases e)) hb
theorem pr_fin {w:World}{Bb b4 gp Bs:Nat}{vt v':Value}{L:List Pc}{x:Pc}{acc:List UInt8}{rs:List Nat}{W W2:World}{C:Obj}(h:PrI w Bb b4 vt L acc rs W) (hwB:w.heap.size≤Bb) (hb4:Bb<b4) (hg:(W.alloc C).grownBy W2 vt.ownBlock)
  (hown:W2.ownsRow Bb 110 4 v' (L ++ [x]).length ((L ++ [x]).flatMap pcC)) (hgp:∀r,vt.ownBlock=some r→r≠gp) (hbs4:Bs≠b4) (hgp4:gp≠b4) (hBs:∃vb,Boxed W Bs 111 vb) (hgl:gp<W.heap.size) (hat:v'.ownBlock=vt.ownBlock∨v'.ownBlock=some (W.alloc C).heap.size) (B0:Nat) (hbB:b4<B0):
  KeepsFrom B0 W (W2.setCell ⟨b4,0,none⟩ v')∧KpQ [gp,Bs] W (W2.setCell ⟨b4,0,none⟩ v')∧PrI w Bb b4 v' (L ++ [x]) acc rs (W2.setCell ⟨b4,0,none⟩ v')∧(∀r,v'.ownBlock=some r→r≠gp)∧Below Bb W (W2.setCell ⟨b4,0,none⟩ v'):=by
 have hrow:=row_not h.row (T:=111) (by decide)
 have all:∀(b:Nat) (o:Obj),W.heap[b]? = some o→some b≠vt.ownBlock→b≠b4→(W2.setCell ⟨b4,0,none⟩ v').heap[b]? = some o:=by
  intro b o ho hne hb
  have hl:=(gL ho).1
  rw [Below.heap_setCell _ _ _ _ (by simpa using hb),hg.block b (by simp;omega) hne,Below.heap_alloc _ _ _ hl,ho]
 have hsz:W.heap.size≤W2.heap.size:=by have:=hg.size;simp at this;omega
 have hbox2:Boxed W2 b4 111 vt:=(hg.block b4 (by simp;have:=h.box.lt;omega) (h.box.not_row (by decide) h.row)).trans ((Below.heap_alloc _ _ _ h.box.lt).trans h.box)
 have hbel:Below Bb W (W2.setCell ⟨b4,0,none⟩ v'):=by
  have hW:Bb≤W.heap.size:=by have:=h.box.lt;omega
  have h1:Below Bb W W2:=((Below.refl _ W).alloc hW C).trans ((Below.refl _ _).grown hg (by simp;omega) (fun k e=>(h.row.lt k e).1))
  exact h1.setCell (p:=⟨b4,0,none⟩) (by simp only;omega) v'
 have cells_ne:∀(b:Nat) (cs:Array Value) (t:TypeId) (fz:Nat×Nat),t≠110→W.heap[b]? = some (Obj.cells cs t fz)→some b≠vt.ownBlock:=by
  intro b cs t fz ht hb e
  rcases h.row.2 with ⟨h0,_⟩|⟨g,cap,cur,h0,_,hgg,_⟩
  ·rw [h0] at e;cases e
  ·rw [h0] at e
   obtain rfl:b=g:=by simpa [Value.ownBlock] using e
   rw [hgg] at hb
   injection hb with hb
   injection hb with _ hb
   exact ht hb.symm
 have other:∀(b:Nat) (o:Obj),W.heap[b]? = some o→o.isCells=false→some b≠vt.ownBlock:=by
  intro b o hb ho e
  rcases h.row.2 with ⟨h0,_⟩|⟨g,cap,cur,h0,_,hgg,_⟩
  ·rw [h0] at e;cases e
  ·rw [h0] at e
   obtain rfl:b=g:=by simpa [Value.ownBlock] using e
   rw [hgg] at hb
   cases hb
   cases ho
 refine ⟨⟨by simp [World.setCell];omega,fun j o hj ho hc=>all j o ho (other j o ho hc) (by omega)⟩,?_,h.turn (hbox2.set _) ?_ (fun b cs t fz ht hc=>all b _ hc (cells_ne b cs t fz (by rcases ht with h|h<;>(rw [h];decide)) hc) (fun e=>?_)) (fun r hr hc=>all r _ hc (other r _ hc rfl) (fun e=>?_)) (hbel.mono hwB),?_,hbel⟩
 ·intro k hk o ho hc
  simp only [List.mem_cons,List.not_mem_nil,or_false] at hk
  rcases hk with rfl|rfl
  ·exact all k o ho (fun e=>hgp k e.symm rfl) hgp4
  ·obtain ⟨vb,hvb⟩:=hBs
   refine all k o ho ?_ hbs4
   exact cells_ne k _ _ _ (by decide) hvb
 ·refine hown.kept (grownBy_setCell' W2 b4 v') (.inr fun e=>?_)
  have:=row_not hown (T:=111) (by decide) b4 e
  exact this _ hbox2
 ·subst e
  rw [show W.heap[b]? = _ from h.box] at hc
  injection hc with hc
  injection hc with _ h2
  rcases ht with h|h<;>(rw [h] at h2;exact absurd h2 (by decide))
 ·subst e
  rw [show W.heap[r]? = _ from h.box] at hc
  cases hc
 ·intro r hr e
  rcases hat with h|h
  ·exact hgp r (h ▸ hr) e
  ·rw [h] at hr
   injection hr with hr
   simp at hr
   omega
def PrW (w:World) (Bb:Nat) (TX:List UInt8) (t4:Value) (rs:List Nat) (W:World) (s:Nat):Prop:=
 ∃(b4:Nat) (v:Value) (L:List Pc) (acc:List UInt8),t4 = .pointer (some ⟨b4,0,none⟩)∧pws L=s∧s≤700000∧PrI w Bb b4 v L acc rs W∧acc++L.reverse.flatMap ptx=TX∧(∀p∈L,PcOk w.heap.size w p)∧Bb<b4∧w.heap.size≤Bb∧rs.Nodup∧(∀r∈rs,Bb<r)
end Go.Proofs.YtgjlmjlfghodmaaGreatDoor
