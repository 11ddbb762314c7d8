import Derived.Test.YtckmppkdpnhodaaGreatDoorT01
import Derived.Deep.RegionLaw
import Derived.Test.YtckmppkdpnhodaaGreatDoorT00
set_option maxRecDepth 100000
set_option maxHeartbeats 8000000
set_option linter.unusedVariables false
set_option linter.unusedSimpArgs false
open Go.World renaming block_lt_of_cell?→Cy,cell?_of_block→CE
open Nat renaming zero_le→CB
open Array renaming getElem?_eq_some_iff→Cn
open List renaming getElem_mem→CN,getElem?_eq_getElem→Cr
open Go.RowKit.Below renaming heap_alloc→CF
namespace Go.Proofs.YtckmppkdpnhodaaGreatDoor
open Go.RowKit
attribute [local go_sem ↓] Go.wp_at_zero Go.wp_at_succ
theorem uC(wb rb lb kb fb k:Nat)(C KB FB:Array Value)(T Tk Tf:TypeId)(tv osv kov u:Value)(nl capl nk capk nf capf N m:Nat)(us ks:List Value)(tr:List Dn)(ids:List Nat)(P:Nat→Prop)(w:World)(hwb:w.heap[wb]?=some (.cells C T (0,0)))(hC:C.size=14)(h1:C[1]?=some (.slice (some ⟨lb,0,none⟩) nl capl))(h2:C[2]?=some tv)(h3:C[3]?=some (.slice (some ⟨kb,0,none⟩) nk capk))(h6:C[6]?=some (.slice (some ⟨fb,0,none⟩) nf capf))(h10:C[10]?=some osv)(h11:C[11]?=some kov)(hkl:k<nl)(hkk:k<nk)(hkf:k<nf)(hlb:w.cell? ⟨lb,k,none⟩=some (.pointer (some ⟨rb,0,none⟩)))(hkb:w.heap[kb]?=some (.cells KB Tk (0,0)))(hKB:KB[k]?=some u)(hu:w.ownsRow 0 3 1 u m (ints (ids.take m)))(hfb:w.heap[fb]?=some (.cells FB Tf (0,0)))(hFB:FB[k]?=some (.bool true))(hT:dX P w tv tr)(hTl:tr.length≤1000000000000)(hil:ids.length≤10000000000)(hos:w.ownsRow 0 62 1 osv N us)(hko:w.ownsRow 0 3 1 kov N ks)(hN:N≤100000000000)(told:Told tr ids)(hm:m≤ids.length)(e1:wb≠kb)(e2:wb≠fb)(e3:kb≠fb)(u1:u.ownBlock≠some wb)(u2:u.ownBlock≠some kb)(u3:u.ownBlock≠some fb)(o1:osv.ownBlock≠some wb)(o2:osv.ownBlock≠some kb)(o3:osv.ownBlock≠some fb)(o4:∀b,osv.ownBlock=some b→u.ownBlock≠some b)(q1:kov.ownBlock≠some wb)(q2:kov.ownBlock≠some kb)(q3:kov.ownBlock≠some fb)(q4:∀b,kov.ownBlock=some b→u.ownBlock≠some b)(q5:∀b,osv.ownBlock=some b→kov.ownBlock≠some b)(hP:∀b,P b→b≠wb∧b≠kb∧b≠fb∧u.ownBlock≠some b)(hKn:Calls Tryz.prog 28 #[.pointer (some ⟨rb,0,none⟩)] w fun e w'=>∃p cap,e=.returned (.slice p ids.length cap)∧w'.ownsRow w.heap.size 68 3 (.slice p ids.length cap) ids.length (cR tr ids)∧Below w.heap.size w w'):Calls Tryz.prog 35 #[.pointer (some ⟨wb,0,none⟩),.int .i64 (k:Int)] w fun e w'=>e=.returned (.bool true)∧iO w w' wb kb fb k C KB FB T Tk Tf osv kov u N us ks ids:=by
 have HKN:=hid hKn;clear hKn;obtain⟨pu,capu,rfl⟩:∃pu capu,u=.slice pu m capu:=by
  rcases hu.2 with⟨rfl,rfl⟩|⟨g,cap',_,rfl,_⟩
  ·exact⟨_,_,rfl⟩
  exact⟨_,_,rfl⟩
 have c1:w.cell? ⟨wb,1,none⟩=some (.slice (some ⟨lb,0,none⟩) nl capl):=by rw[cell_of_heap hwb,h1]
 have c2:w.cell? ⟨wb,2,none⟩=some tv:=by rw[cell_of_heap hwb,h2]
 have c3:w.cell? ⟨wb,3,none⟩=some (.slice (some ⟨kb,0,none⟩) nk capk):=by rw[cell_of_heap hwb,h3]
 have c6:w.cell? ⟨wb,6,none⟩=some (.slice (some ⟨fb,0,none⟩) nf capf):=by rw[cell_of_heap hwb,h6]
 have ck:w.cell? ⟨kb,k,none⟩=some (.slice pu m capu):=by rw[cell_of_heap hkb,hKB]
 have cf:w.cell? ⟨fb,k,none⟩=some (.bool true):=by rw[cell_of_heap hfb,hFB]
 have ff:w.frozen? ⟨fb,k,none⟩=false:=frozen_of_heap hfb k;have hwl:=Cy w _ c1;have hkbl:=Cy w _ ck;have hfbl:=Cy w _ cf;have hub:∀b,(Value.slice pu m capu).ownBlock=some b→b<w.heap.size:=fun b hb=>(hu.lt b hb).2
 have HP:Hid (∀b,P b→b≠wb∧b≠kb∧b≠fb∧(Value.slice pu m capu).ownBlock≠some b):=hP;have HTO:=hid told;have HT:=hid hT;clear hP told hT;have hdm:decide (ids.length<m)=false:=by simp;omega
 go_enter Tryz.func35,Tryz.ntmps35
 ·skip
  go_wp2_with (go_at_call 28;refine HKN.out.mono ?_;rintro e w1 ⟨pl,capl1,rfl,hown1,hb1⟩;have a1:=aa hb1 c1;have a2:=aa hb1 c2;have a3:=aa hb1 c3;have a6:=aa hb1 c6;have ak:=aa hb1 ck;have af:=aa hb1 cf;have aff:=(hb1.frozen (p:=⟨fb,k,none⟩) hfbl).trans ff)
  have hkb1:w1.heap[kb]?=some (.cells KB Tk (0,0)):=(hb1.block kb hkbl).trans hkb;have hfb1:w1.heap[fb]?=some (.cells FB Tf (0,0)):=(hb1.block fb hfbl).trans hfb;have hu1:w1.ownsRow 0 3 1 (.slice pu m capu) m (ints (ids.take m)):=(an.of_below (S:=[]) hb1).owns hu (by simp);have hs1:=hb1.size;go_loopw [6] (fun i wr=>∃j:Nat,j≤ids.length∧i=.int .i64 j∧dV (w1.setCell ⟨fb,k,none⟩ (.bool false)) [some kb,(Value.slice pu m capu).ownBlock] kb k KB Tk (.slice pu m capu) ids (max m j) wr) (fun i _=>ids.length-(intOf i).toNat)
  case atStart =>
   refine⟨0,CB _,rfl,an.refl _ _,.slice pu m capu,?_,?_,fun b hb=>.inl hb⟩
   ·rw[Below.heap_setCell _ _ _ _ e3,hkb1];congr 2
    apply Array.ext_getElem?
    intro i;by_cases hi:i=k
    ·subst hi;rw[Array.getElem?_setIfInBounds_self_of_lt (Cn.1 hKB).1,hKB]
    rw[Array.getElem?_setIfInBounds_ne (fun e=>hi e.symm)]
   rw[Nat.max_eq_left (CB _)];exact ai hu1 (fun b hb e=>u3 (by rw[hb,e])) _
  case round =>
   obtain⟨j,hj,rfl,am⟩:=hrel;obtain⟨wa,hwa⟩:∃x,x=wr:=⟨_,rfl⟩
   subst hwa;by_cases hlt:j<ids.length
   ·by_cases hjm:j<m
    ·rw[show max m j=m by omega]at am;obtain⟨u',af',hkr,hub'⟩:=am.facts hKB HT.out hb1 HP.out e1 e2 u1 hfbl hkbl hub a2 a3 hown1;have HAM:Hid (dV (w1.setCell ⟨fb,k,none⟩ (.bool false)) [some kb,(Value.slice pu m capu).ownBlock] kb k KB Tk (.slice pu m capu) ids m wa):=am;clear am;obtain⟨pu',capu',rfl⟩:∃p c,u'=.slice p m c:=by
      rcases af'.row.2 with⟨rfl,h0⟩|⟨g,cap',_,rfl,_⟩
      ·rw[h0];exact⟨_,_,rfl⟩
      exact⟨_,_,rfl⟩
     obtain⟨gl,rfl,l0,l1,l2⟩:=af'.A5 hlt;have HPL:Hid (∀W,Below wa.heap.size wa W→Calls Tryz.prog 65 #[.pointer (some ⟨wb,0,none⟩),.agg #[.int .i64 ((dq tr ids[j]).org:Int),.int .i64 ((dq tr ids[j]).seq:Int),.string (dq tr ids[j]).text]] W fun e w'=>e=.returned (.int .i64 (ids[j]:Int))∧Below W.heap.size W w'):=fun W hW=>(af'.below hW).place HTO.out (by unfold maxLen;omega) hlt
     obtain⟨gq,rfl,cq⟩:=af'.BD hlt hjm hm;obtain⟨-,r3,rk,-,-,-,-⟩:=af';generalize dq tr ids[j]=D at *;generalize ids[j]=pp at *;clear hkr hub' hown1 hu hu1 hkb1 hfb1 hwb hkb hfb hos hko;go_wp2_with (go_at_call 65;refine(HPL.out _ (Below.refl _ _)).mono ?_;rintro e w3 ⟨rfl,hb3⟩;have b3:=aa hb3 r3;have bk:=aa hb3 rk;have bq:=aa hb3 cq)
     go_roundw
     case rel =>
      have R:j+1≤ids.length∧Value.int .i64 ((j:Int)+1)=.int .i64 ((j+1:Nat):Int)∧dV (w1.setCell ⟨fb,k,none⟩ (.bool false)) [some kb,(Value.slice pu m capu).ownBlock] kb k KB Tk (.slice pu m capu) ids (max m (j+1)) w3:=⟨by omega,by go_num,by rw[show max m (j+1)=m by omega];exact HAM.out.below hb3⟩
      first
       |exact⟨j+1,R⟩
       |((repeat apply Exists.intro);exact⟨⟨j+1,R⟩,rfl⟩)
     case measure=>simp[intOf];omega
    rw[show max m j=j by omega]at am;obtain⟨u',af',hkr,hub'⟩:=am.facts hKB HT.out hb1 HP.out e1 e2 u1 hfbl hkbl hub a2 a3 hown1;have HAM:Hid (dV (w1.setCell ⟨fb,k,none⟩ (.bool false)) [some kb,(Value.slice pu m capu).ownBlock] kb k KB Tk (.slice pu m capu) ids j wa):=am;clear am;obtain⟨pu',capu',rfl⟩:∃p c,u'=.slice p j c:=by
     rcases af'.row.2 with⟨rfl,h0⟩|⟨g,cap',_,rfl,_⟩
     ·rw[h0];exact⟨_,_,rfl⟩
     exact⟨_,_,rfl⟩
    obtain⟨gl,rfl,l0,l1,l2⟩:=af'.A5 hlt;have HPL:Hid (∀W,Below wa.heap.size wa W→Calls Tryz.prog 65 #[.pointer (some ⟨wb,0,none⟩),.agg #[.int .i64 ((dq tr ids[j]).org:Int),.int .i64 ((dq tr ids[j]).seq:Int),.string (dq tr ids[j]).text]] W fun e w'=>e=.returned (.int .i64 (ids[j]:Int))∧Below W.heap.size W w'):=fun W hW=>(af'.below hW).place HTO.out (by unfold maxLen;omega) hlt
    have HIN:Hid (∀W (n:Nat),Below wa.heap.size wa W→Calls Tryz.prog 66 #[.slice pu' j capu',.int .i64 (n:Int)] W fun e w'=>e=.returned (.bool (iI (ids.take j) n))∧w'=W):=fun W n hW=>wg _ (ids.take j) n W (by simp;unfold maxLen;omega) ((aT.AH hj af'.row).below hW)
    have HNI:Hid (iI (ids.take j) ids[j]=false):=by
     show _=false
     simp only[iI,decide_eq_false_iff_not];exact o6 HTO.out.nodup hlt
    have hpl:ids[j]<tr.length:=HTO.out.lt _ (CN hlt);have hbf:=HTO.out.bef j hlt;obtain⟨r2,r3,rk,rf,rt,rrow,-⟩:=af';obtain⟨pt,capt,hvt,hct⟩:=rt;obtain⟨gt,bv,hgt,-,-,-,-,-,-,-,t6,tn,-,tl⟩:=hct ids[j] tr[ids[j]] (Cr hpl);subst hvt hgt;rw[←iK hpl]at tn tl
    generalize dq tr ids[j]=D at *;obtain⟨pb,capb,rfl,hcb⟩:=tn;clear hct;have HBF:Hid (∀y∈D.bef,iI (ids.take j) y=true):=fun y hy=>qI (hbf y hy)
    clear hbf;have HSN:Hid (ids.take (j+1)=ids.take j++[ids[j]]):=cF ids j hlt;have hgtl:=Cy wa _ t6;generalize hp0:ids[j]=pp at *;clear hp0;unfold maxLen at tl;have HKR:Hid (wa.heap[kb]?=some (.cells (KB.setIfInBounds k (.slice pu' j capu')) Tk (0,0))):=hkr;have HUB:Hid (∀b,(Value.slice pu' j capu').ownBlock=some b→(Value.slice pu m capu).ownBlock=some b∨w1.heap.size≤b):=hub';have HRW:Hid (wa.ownsRow 0 3 1 (.slice pu' j capu') j (ints (ids.take j))):=rrow;clear hkr hub' rrow hown1 hu hu1 hkb1 hfb1 hwb hkb hfb hos hko;go_wp2_with (first
     |(go_at_call 65;refine(HPL.out _ (Below.refl _ _)).mono ?_;rintro e w3 ⟨rfl,hb3⟩;have b2:=aa hb3 r2;have b3:=aa hb3 r3;have bk:=aa hb3 rk;have b6:=aa hb3 t6)
     |(go_at_call 66;refine(HIN.out _ _ hb3).mono ?_;rintro e w' ⟨rfl,hw'⟩;have hw'':=hw'.symm;clear hw';subst hw'';have hni:=HNI.out))
    go_loopw [9] (fun i wr=>∃y n:Nat,y≤D.bef.length∧i=.int .i64 y∧wr=w3.drewN n) (fun i _=>D.bef.length-(intOf i).toNat)
    case atStart=>exact⟨0,0,CB _,rfl,rfl⟩
    case round =>
     obtain⟨y,nd,hy,rfl,rfl⟩:=hrel;have pp0:(0:Int)≤(pp:Int):=by omega
     have pp1:(pp:Int)<(tr.length:Int):=by omega
     have kk0:(0:Int)≤(k:Int):=by omega
     have kk1:(k:Int)<(nk:Int):=by omega
     have hb4:Below wa.heap.size wa (w3.drewN nd):=below_drewN hb3 nd;have q2:=aa hb4 r2;have q3:=aa hb4 r3;have qk:=aa hb4 rk;have q6:=aa hb4 t6;have HR4:Hid ((w3.drewN nd).ownsRow 0 3 1 (.slice pu' j capu') j (ints (ids.take j))):=(an.of_below (S:=[]) hb4).owns HRW.out (by simp);have HK4:Hid ((w3.drewN nd).heap[kb]?=some (.cells (KB.setIfInBounds k (.slice pu' j capu')) Tk (0,0))):=(hb4.block kb (Cn.1 HKR.out).1).trans HKR.out;have qf:(w3.drewN nd).frozen? ⟨kb,k,none⟩=false:=frozen_of_heap HK4.out k;have HIN4:Hid (∀n m:Nat,Calls Tryz.prog 66 #[.slice pu' j capu',.int .i64 (n:Int)] ((w3.drewN nd).drewN m) fun e w'=>e=.returned (.bool (iI (ids.take j) n))∧w'=(w3.drewN nd).drewN m):=fun n m=>HIN.out _ n (below_drewN hb4 m)
     have HCB:Hid (∀(i x:Nat),D.bef[i]?=some x→∃g,pb=some ⟨g,0,none⟩∧(w3.drewN nd).cell? ⟨g,i,none⟩=some (.int .i64 (x:Int))):=fun i x hx=>by
      obtain⟨g,hg,hc⟩:=hcb i x hx;exact⟨g,hg,aa hb4 hc⟩
     have HW4:Hid (w3.drewN nd=w3.drewN nd):=rfl;clear b2 b3 bk b6 hni hcb l0 l1 l2 r2 r3 rk t6 hb3 HIN HPL HKR HRW rf;generalize hw4:w3.drewN nd=w4 at *;replace HW4:Hid (w4=w3.drewN nd):=hw4.symm;clear hw4;clear c1 c2 c3 c6 ck cf ff a1 a2 a3 a6 ak af aff hub o1 o2 o3 o4 q1 q4 q5 h1 h2 h3 h6 h10 h11 hKB hFB hdm;by_cases hyl:y<D.bef.length
     ·obtain⟨gb,rfl,cy⟩:=HCB.out y D.bef[y] (Cr hyl);have hin:=HBF.out D.bef[y] (CN hyl);have y0:(0:Int)≤(y:Int):=by omega
      have y1:(y:Int)<(D.bef.length:Int):=by omega
      clear HCB;generalize D.bef[y]=yy at *;go_wp2
      go_quiet ((go_at_call 66;exact Calls.quiet_of_same (HIN4.out _ _)))
      go_wp2
      go_roundw
      case rel=>exact⟨y+1,nd+nq,by omega,by go_num,by rw[HW4.out];exact World.drewN_drewN _ _ _⟩
      case measure=>simp[intOf];omega
     clear HCB HIN4;go_wp2
     have l3:wb<w4.heap.size:=Cy w4 _ q3;have lk:kb<w4.heap.size:=Cy w4 _ qk;have n3:=World.new_ne w4 _ q3;have nk':=World.new_ne w4 _ qk;have agw:(Value.slice pu' j capu').ownBlock≠some wb:=fun e=>by
      rcases HUB.out _ e with h|h
      ·exact u1 h
      omega
     have agk:(Value.slice pu' j capu').ownBlock≠some kb:=fun e=>by
      rcases HUB.out _ e with h|h
      ·exact u2 h
      omega
     obtain⟨i2,hi2,hx0,hx1,hx2⟩:=info_parts Tryz.AJ;have k3:∀o,(w4.alloc o).cell? ⟨wb,3,none⟩=some (.slice (some ⟨kb,0,none⟩) nk capk):=fun o=>(CE (a:=⟨wb,3,none⟩) (CF w4 o wb l3)).trans q3
     have kk:∀o,(w4.alloc o).cell? ⟨kb,k,none⟩=some (.slice pu' j capu'):=fun o=>(CE (a:=⟨kb,k,none⟩) (CF w4 o kb lk)).trans qk
     have kf:∀o,(w4.alloc o).frozen? ⟨kb,k,none⟩=false:=fun o=>(World.frozen?_of_block (a:=⟨kb,k,none⟩) (CF w4 o kb lk)).trans qf
     go_region_law ((refine step_append_lies _ (by rfl) _ _ _ (by rfl) 0 3 i2 _ 1 8 Tryz.underlying75 hi2 hx0 hx1 hx2 rfl (by omega) (.slice pu' j capu') j (ints (ids.take j)) (by rfl) (an.owns (S:=[]) (an.drew (an.alloc (an.refl _ _) _)) HR4.out (by simp)) ⟨w4.heap.size,0,none⟩ 1 1 [.int .i64 (pp:Int)] (by rfl) (by rfl) (World.news_of_block (cs:=#[.int .i64 (pp:Int)]) (t:=3) (fr:=(0,0)) (heap_alloc_new w4 _)) (by simp[Value.oneCell']) (by omega) (by unfold maxLen;omega) (by omega) (by first|(simp;done)|(simp;omega)) (w4.heap.size+1) (by simp) ?_;intro g5 cap5 w5 hown5 hgrow hat5 hlt5;have s5:w5.cell? ⟨kb,k,none⟩=some (.slice pu' j capu'):=(hgrow.cell_far ⟨kb,k,none⟩ (by first|(simp;done)|(simp;omega)) (Ne.symm agk)).trans (kk _);have s3:w5.cell? ⟨wb,3,none⟩=some (.slice (some ⟨kb,0,none⟩) nk capk):=(hgrow.cell_far ⟨wb,3,none⟩ (by first|(simp;done)|(simp;omega)) (Ne.symm agw)).trans (k3 _);have sf:w5.frozen? ⟨kb,k,none⟩=false:=(hgrow.frozen_far ⟨kb,k,none⟩ (by first|(simp;done)|(simp;omega)) (Ne.symm agk)).trans (kf _)))
     all_goals go_wp2
     all_goals
      go_roundw
      case rel =>
       have R:j+1≤ids.length∧Value.int .i64 ((j:Int)+1)=.int .i64 ((j+1:Nat):Int)∧dV (w1.setCell ⟨fb,k,none⟩ (.bool false)) [some kb,(Value.slice pu m capu).ownBlock] kb k KB Tk (.slice pu m capu) ids (max m (j+1)) (w5.setCell ⟨kb,k,none⟩ (.slice (some ⟨g5,0,none⟩) (j+1) cap5)):=⟨by omega,by go_num,by
         rw[show max m (j+1)=j+1 by omega];exact HAM.out.push hb4 HK4.out HUB.out (by simp[World.setCell]) u2 (by omega) (((an.refl _ _).alloc _).drew) hgrow hat5 (by omega) hown5 HSN.out⟩
       first
        |exact⟨j+1,R⟩
        |((repeat apply Exists.intro);exact⟨⟨j+1,R⟩,rfl⟩)
      case measure=>simp[intOf];omega
   obtain rfl:j=ids.length:=by omega
   rw[show max m ids.length=ids.length by omega]at am;have HOPS:Hid (Calls Tryz.prog 67 #[.pointer (some ⟨wb,8,none⟩),.slice pl ids.length capl1] wa fun e w'=>e=.returned (.tuple #[])∧iO w w' wb kb fb k C KB FB T Tk Tf osv kov (.slice pu m capu) N us ks ids):=td hwb hC h10 h11 hkb hfb hos hko hub hN hil e1 e2 e3 u1 u2 u3 o1 o2 o3 o4 q1 q2 q3 q4 q5 hb1 hown1 am;clear am hown1 hu hu1 hkb1 hfb1 hwb hkb hfb hos hko hb1 a1 a2 a3 a6 ak af aff c1 c2 c3 c6 ck cf ff;go_wp2_with (go_at_call 67;refine HOPS.out.mono ?_;rintro e w' ⟨rfl,hpost⟩)
   go_ret
   exact⟨rfl,hpost⟩
end Go.Proofs.YtckmppkdpnhodaaGreatDoor
