import Derived.Test.YtckmppkdpnhodaaGreatDoorT01
import Derived.Test.YtckmppkdpnhodaaGreatDoorT00
set_option maxRecDepth 100000
set_option maxHeartbeats 8000000
set_option linter.unusedVariables false
set_option linter.unusedSimpArgs false
open Go.World renaming block_lt_of_cell?→Cy
open Nat renaming zero_le→CB,lt_or_ge→D6
namespace Go.Proofs.YtckmppkdpnhodaaGreatDoor
section
open Go.RowKit
attribute [local go_sem ↓] Go.wp_at_zero Go.wp_at_succ
theorem sC(wb rb lb kb fb k:Nat)(C KB FB:Array Value)(T Tk Tf:TypeId)(tv osv kov u:Value)(nl capl nk capk nf capf N m:Nat)(us ks:List Value)(tr:List Dn)(ids:List Nat)(P:Nat→Prop)(w:World)(hwb:w.heap[wb]?=some (.cells C T (0,0)))(hC:C.size=14)(h1:C[1]?=some (.slice (some ⟨lb,0,none⟩) nl capl))(h2:C[2]?=some tv)(h3:C[3]?=some (.slice (some ⟨kb,0,none⟩) nk capk))(h6:C[6]?=some (.slice (some ⟨fb,0,none⟩) nf capf))(h10:C[10]?=some osv)(h11:C[11]?=some kov)(hkl:k<nl)(hkk:k<nk)(hkf:k<nf)(hlb:w.cell? ⟨lb,k,none⟩=some (.pointer (some ⟨rb,0,none⟩)))(hkb:w.heap[kb]?=some (.cells KB Tk (0,0)))(hKB:KB[k]?=some u)(hu:w.ownsRow 0 3 1 u m (ints (ids.take m)))(hfb:w.heap[fb]?=some (.cells FB Tf (0,0)))(hFB:FB[k]?=some (.bool false))(hT:dX P w tv tr)(hTl:tr.length≤1000000000000)(hil:ids.length≤10000000000)(hos:w.ownsRow 0 62 1 osv N us)(hko:w.ownsRow 0 3 1 kov N ks)(hN:N≤100000000000)(told:Told tr ids)(hmi:m=ids.length)(e1:wb≠kb)(e2:wb≠fb)(e3:kb≠fb)(u1:u.ownBlock≠some wb)(u2:u.ownBlock≠some kb)(u3:u.ownBlock≠some fb)(o1:osv.ownBlock≠some wb)(o2:osv.ownBlock≠some kb)(o3:osv.ownBlock≠some fb)(o4:∀b,osv.ownBlock=some b→u.ownBlock≠some b)(q1:kov.ownBlock≠some wb)(q2:kov.ownBlock≠some kb)(q3:kov.ownBlock≠some fb)(q4:∀b,kov.ownBlock=some b→u.ownBlock≠some b)(q5:∀b,osv.ownBlock=some b→kov.ownBlock≠some b)(hP:∀b,P b→b≠wb∧b≠kb∧b≠fb∧u.ownBlock≠some b)(hKn:Calls Tryz.prog 28 #[.pointer (some ⟨rb,0,none⟩)] w fun e w'=>∃p cap,e=.returned (.slice p ids.length cap)∧w'.ownsRow w.heap.size 68 3 (.slice p ids.length cap) ids.length (cR tr ids)∧Below w.heap.size w w'):Calls Tryz.prog 35 #[.pointer (some ⟨wb,0,none⟩),.int .i64 (k:Int)] w fun e w'=>e=.returned (.bool true)∧iO w w' wb kb fb k C KB FB T Tk Tf osv kov u N us ks ids:=by
 have HKN:=hid hKn;clear hKn;obtain⟨pu,capu,rfl⟩:∃pu capu,u=.slice pu m capu:=by
  rcases hu.2 with⟨rfl,rfl⟩|⟨g,cap',_,rfl,_⟩
  ·exact⟨_,_,rfl⟩
  exact⟨_,_,rfl⟩
 have c1:w.cell? ⟨wb,1,none⟩=some (.slice (some ⟨lb,0,none⟩) nl capl):=by rw[cell_of_heap hwb,h1]
 have c2:w.cell? ⟨wb,2,none⟩=some tv:=by rw[cell_of_heap hwb,h2]
 have c3:w.cell? ⟨wb,3,none⟩=some (.slice (some ⟨kb,0,none⟩) nk capk):=by rw[cell_of_heap hwb,h3]
 have c6:w.cell? ⟨wb,6,none⟩=some (.slice (some ⟨fb,0,none⟩) nf capf):=by rw[cell_of_heap hwb,h6]
 have ck:w.cell? ⟨kb,k,none⟩=some (.slice pu m capu):=by rw[cell_of_heap hkb,hKB]
 have cf:w.cell? ⟨fb,k,none⟩=some (.bool false):=by rw[cell_of_heap hfb,hFB]
 have ff:w.frozen? ⟨fb,k,none⟩=false:=frozen_of_heap hfb k;have hwl:=Cy w _ c1;have hkbl:=Cy w _ ck;have hfbl:=Cy w _ cf;have hub:∀b,(Value.slice pu m capu).ownBlock=some b→b<w.heap.size:=fun b hb=>(hu.lt b hb).2
 have HP:Hid (∀b,P b→b≠wb∧b≠kb∧b≠fb∧(Value.slice pu m capu).ownBlock≠some b):=hP;have HTO:=hid told;have HT:=hid hT;clear hP told hT;have hm:m≤ids.length:=by omega
 have hdm:decide (ids.length<m)=false:=by simp;omega
 have hdm2:decide (m<ids.length)=false:=by simp;omega
 have HMI:=hid hmi;clear hmi;go_enter Tryz.func35,Tryz.ntmps35
 ·skip
  go_wp2_with (go_at_call 28;refine HKN.out.mono ?_;rintro e w1 ⟨pl,capl1,rfl,hown1,hb1⟩;have a1:=aa hb1 c1;have a2:=aa hb1 c2;have a3:=aa hb1 c3;have a6:=aa hb1 c6;have ak:=aa hb1 ck;have af:=aa hb1 cf;have aff:=(hb1.frozen (p:=⟨fb,k,none⟩) hfbl).trans ff)
  have hkb1:w1.heap[kb]?=some (.cells KB Tk (0,0)):=(hb1.block kb hkbl).trans hkb;have hfb1:w1.heap[fb]?=some (.cells FB Tf (0,0)):=(hb1.block fb hfbl).trans hfb;have hu1:w1.ownsRow 0 3 1 (.slice pu m capu) m (ints (ids.take m)):=(an.of_below (S:=[]) hb1).owns hu (by simp);have hs1:=hb1.size;go_loopw [6] (fun i wr=>∃j:Nat,j≤ids.length∧i=.int .i64 j∧dV (w1.setCell ⟨fb,k,none⟩ (.bool false)) [some kb,(Value.slice pu m capu).ownBlock] kb k KB Tk (.slice pu m capu) ids (max m j) wr) (fun i _=>ids.length-(intOf i).toNat)
  case atStart =>
   refine⟨0,CB _,rfl,an.refl _ _,.slice pu m capu,?_,?_,fun b hb=>.inl hb⟩
   ·rw[Below.heap_setCell _ _ _ _ e3,hkb1];congr 2
    apply Array.ext_getElem?
    intro i;by_cases hi:i=k
    ·subst hi;rw[Array.getElem?_setIfInBounds_self_of_lt (Array.getElem?_eq_some_iff.1 hKB).1,hKB]
    rw[Array.getElem?_setIfInBounds_ne (fun e=>hi e.symm)]
   rw[Nat.max_eq_left (CB _)];exact ai hu1 (fun b hb e=>u3 (by rw[hb,e])) _
  case round =>
   obtain⟨j,hj,rfl,am⟩:=hrel;obtain⟨wa,hwa⟩:∃x,x=wr:=⟨_,rfl⟩
   subst hwa;by_cases hlt:j<ids.length
   ·by_cases hjm:j<m
    ·rw[show max m j=m by omega]at am;obtain⟨u',af',hkr,hub'⟩:=am.facts hKB HT.out hb1 HP.out e1 e2 u1 hfbl hkbl hub a2 a3 hown1;have HAM:Hid (dV (w1.setCell ⟨fb,k,none⟩ (.bool false)) [some kb,(Value.slice pu m capu).ownBlock] kb k KB Tk (.slice pu m capu) ids m wa):=am;clear am;obtain⟨pu',capu',rfl⟩:∃p c,u'=.slice p m c:=by
      rcases af'.row.2 with⟨rfl,h0⟩|⟨g,cap',_,rfl,_⟩
      ·rw[h0];exact⟨_,_,rfl⟩
      exact⟨_,_,rfl⟩
     obtain⟨gl,rfl,l0,l1,l2⟩:=af'.A5 hlt;have HPL:Hid (∀W,Below wa.heap.size wa W→Calls Tryz.prog 65 #[.pointer (some ⟨wb,0,none⟩),.agg #[.int .i64 ((dq tr ids[j]).org:Int),.int .i64 ((dq tr ids[j]).seq:Int),.string (dq tr ids[j]).text]] W fun e w'=>e=.returned (.int .i64 (ids[j]:Int))∧Below W.heap.size W w'):=fun W hW=>(af'.below hW).place HTO.out (by unfold maxLen;omega) hlt
     obtain⟨gq,rfl,cq⟩:=af'.BD hlt hjm hm;obtain⟨-,r3,rk,-,-,-,-⟩:=af';generalize dq tr ids[j]=D at *;generalize ids[j]=pp at *;clear hkr hub' hown1 hu hu1 hkb1 hfb1 hwb hkb hfb hos hko;go_wp2_with (go_at_call 65;refine(HPL.out _ (Below.refl _ _)).mono ?_;rintro e w3 ⟨rfl,hb3⟩;have b3:=aa hb3 r3;have bk:=aa hb3 rk;have bq:=aa hb3 cq)
     go_roundw
     case rel =>
      have R:j+1≤ids.length∧Value.int .i64 ((j:Int)+1)=.int .i64 ((j+1:Nat):Int)∧dV (w1.setCell ⟨fb,k,none⟩ (.bool false)) [some kb,(Value.slice pu m capu).ownBlock] kb k KB Tk (.slice pu m capu) ids (max m (j+1)) w3:=⟨by omega,by go_num,by rw[show max m (j+1)=m by omega];exact HAM.out.below hb3⟩
      first
       |exact⟨j+1,R⟩
       |((repeat apply Exists.intro);exact⟨⟨j+1,R⟩,rfl⟩)
     case measure=>simp[intOf];omega
    exact absurd hlt (by have:=HMI.out;omega)
   obtain rfl:j=ids.length:=by omega
   rw[show max m ids.length=ids.length by omega]at am;have HOPS:Hid (Calls Tryz.prog 67 #[.pointer (some ⟨wb,8,none⟩),.slice pl ids.length capl1] wa fun e w'=>e=.returned (.tuple #[])∧iO w w' wb kb fb k C KB FB T Tk Tf osv kov (.slice pu m capu) N us ks ids):=td hwb hC h10 h11 hkb hfb hos hko hub hN hil e1 e2 e3 u1 u2 u3 o1 o2 o3 o4 q1 q2 q3 q4 q5 hb1 hown1 am;clear am hown1 hu hu1 hkb1 hfb1 hwb hkb hfb hos hko hb1 a1 a2 a3 a6 ak af aff c1 c2 c3 c6 ck cf ff;go_wp2_with (go_at_call 67;refine HOPS.out.mono ?_;rintro e w' ⟨rfl,hpost⟩)
   go_ret
   exact⟨rfl,hpost⟩
end
section
open Go.RowKit
variable {k:Nat} {s:ByteArray}
def eT(c:UInt8):Bool:=decide (97≤c.toNat) && decide (c.toNat≤122)
def bd(s:ByteArray):Bool:=decide (1≤s.size) && decide (s.size≤8) && s.data.toList.all eT
theorem nK(s:ByteArray)(k:Nat)(h:k<s.size):s.data.toList.take (k+1)=s.data.toList.take k++[s[k]]:=by
 rw[List.take_succ_eq_append_getElem (by simpa using h)];rfl
theorem ma(s:ByteArray)(k:Nat)(h:k<s.size):s[k]∈s.data.toList:=by
 have:s.data.toList[k]'(by simpa using h)∈s.data.toList:=List.getElem_mem _;exact this
theorem cr(s:ByteArray)(w:World)(hs:s.size≤maxLen):Calls Tryz.prog 75 #[.string s] w fun e w'=>e=.returned (.bool (bd s))∧w'=w:=by
 unfold maxLen at hs;by_cases h1:s.size<1
 ·have HW:Hid (bd s=false):=by simp[Hid,bd];omega
  go_enter Tryz.func75,Tryz.ntmps75
  go_wp2
  go_ret
  exact⟨aF HW.out.symm,rfl⟩
 by_cases h8:8<s.size
 ·have HW:Hid (bd s=false):=by simp[Hid,bd];omega
  go_enter Tryz.func75,Tryz.ntmps75
  go_wp2
  go_ret
  exact⟨aF HW.out.symm,rfl⟩
 have HW:Hid (bd s=s.data.toList.all eT):=by
  have a:1≤s.size:=by omega
  have b:s.size≤8:=by omega
  simp[Hid,bd,a,b]
 go_enter Tryz.func75,Tryz.ntmps75
 go_wp2
 go_loop [3] (fun i=>∃k:Nat,k≤s.size∧i=.int .i64 k∧Hid ((s.data.toList.take k).all eT=true)) (fun i=>s.size-(intOf i).toNat)
 case atStart=>exact⟨0,CB _,rfl,by simp[Hid]⟩
 case round =>
  obtain⟨k,hk,rfl,HA⟩:=hrel;by_cases hlt:k<s.size
  ·have HSN:Hid ((s.data.toList.take (k+1)).all eT=((s.data.toList.take k).all eT && eT s[k])):=by
    show _=_
    rw[nK s k hlt,List.all_append];simp
   have hm:=ma s k hlt;by_cases ha:s[k].toNat<97
   ·go_wp2
    go_ret
    exact⟨aF (by rw[HW.out,eq_comm,List.all_eq_false];exact⟨s[k],hm,by simp[eT];omega⟩),rfl⟩
   by_cases hb:122<s[k].toNat
   ·go_wp2
    go_ret
    exact⟨aF (by rw[HW.out,eq_comm,List.all_eq_false];exact⟨s[k],hm,by simp[eT];omega⟩),rfl⟩
   go_wp2
   go_round
   case rel=>exact⟨k+1,by omega,by go_num,by show _=true;rw[HSN.out,HA.out];simp[eT];omega⟩
   case measure=>simp[intOf];omega
  go_wp2
  go_ret
  exact⟨aF (by rw[HW.out,←HA.out,List.take_of_length_le (by simp;omega)]),rfl⟩
def blank(s:ByteArray):Nat:=s.data.toList.findIdx (· == 32)
theorem wK(s:ByteArray):blank s≤s.size:=by
 have:=List.findIdx_le_length (p:=(· == 32)) (xs:=s.data.toList);simpa[blank] using this
theorem sA(hlt:k<s.size)(h:k≤blank s)(hne:¬ s[k].toNat=32):k+1≤blank s:=by
 rcases D6 k (blank s) with h1|h1
 ·exact h1
 exfalso
 have e:blank s=k:=by omega
 have hk:s.data.toList.findIdx (· == 32)<s.data.toList.length:=by rw[←blank,e];simpa using hlt
 have:=List.findIdx_getElem (p:=(· == 32)) (xs:=s.data.toList) (w:=hk);have e2:s.data.toList.findIdx (· == 32)=k:=e;simp only[e2]at this;apply hne
 have h3:s.data[k]'(by simpa using hlt)=32:=by simpa using this
 have h4:s[k]=32:=h3;rw[h4];rfl
theorem wL(hlt:k<s.size)(h:k≤blank s)(he:s[k].toNat=32):blank s=k:=by
 rcases D6 k (blank s) with h1|h1
 ·exfalso
  have:=List.not_of_lt_findIdx (p:=(· == 32)) (xs:=s.data.toList) h1;have h3:s[k]=32:=UInt8.toNat_inj.1 (by rw[he];rfl);have h5:s.data.toList[k]'(by simpa using hlt)=32:=h3;rw[h5]at this
  simp at this
 omega
theorem rE(s:ByteArray)(w:World)(hs:s.size≤maxLen):Calls Tryz.prog 74 #[.string s] w fun e w'=>(blank s<s.size∧e=.returned (.tuple #[.string (s.extract 0 (blank s)),.string (s.extract (blank s+1) s.size),.bool true])∧w'=w.drew)∨(blank s=s.size∧e=.returned (.tuple #[.string s,.string ByteArray.empty,.bool false])∧w'=w):=by
 unfold maxLen at hs;go_enter Tryz.func74,Tryz.ntmps74
 go_wp2
 go_loop [5] (fun i=>∃k:Nat,k≤s.size∧i=.int .i64 k∧Hid (k≤blank s)) (fun i=>s.size-(intOf i).toNat)
 case atStart=>exact⟨0,CB _,rfl,by simp[Hid]⟩
 case round =>
  obtain⟨k,hk,rfl,HA⟩:=hrel;by_cases hlt:k<s.size
  ·by_cases he:s[k].toNat=32
   ·have HB:Hid (blank s=k):=wL hlt HA.out he;have i0:(0:Int)≤(k:Int):=by omega
    have i1:(k:Int)≤(s.size:Int):=by omega
    have i2:(k:Int)+1≤(s.size:Int):=by omega
    have i3:(0:Int)≤(k:Int)+1:=by omega
    go_wp2
    go_region
    all_goals go_wp2
    all_goals go_ret3
    all_goals exact .inl ⟨by rw[HB.out];exact hlt,by rw[HB.out];rfl,rfl⟩
   go_wp2
   go_round
   case rel=>exact⟨k+1,by omega,by go_num,sA hlt HA.out he⟩
   case measure=>simp[intOf];omega
  go_wp2
  go_ret3
  have:=wK s;exact .inr ⟨by have:=HA.out;omega,rfl,rfl⟩
def countGo:List UInt8→Nat→Nat
 |[],n=>n
 |c::r,n=>if c.toNat<48∨57<c.toNat then 0 else if 10*n+(c.toNat-48)=0∨99<10*n+(c.toNat-48) then 0 else countGo r (10*n+(c.toNat-48))
def aZ(s:ByteArray):Nat:=countGo s.data.toList 0
theorem kE(s:ByteArray)(k:Nat)(h:k<s.size):s.data.toList.drop k=s[k]::s.data.toList.drop (k+1):=by
 rw[List.drop_eq_getElem_cons (by simpa using h)];rfl
theorem js:∀(l:List UInt8) (n:Nat),n≤99→countGo l n≤99
 |[],n,h=>h
 |c::r,n,h=>by
  unfold countGo;split
  ·omega
  split
  ·omega
  exact js r _ (by omega)
theorem dm(s:ByteArray)(w:World)(hs:s.size≤maxLen):Calls Tryz.prog 76 #[.string s] w fun e w'=>e=.returned (.int .i64 (aZ s:Int))∧w'=w:=by
 unfold maxLen at hs;go_enter Tryz.func76,Tryz.ntmps76
 go_wp2
 go_loop [3,4] (fun n i=>∃k m:Nat,k≤s.size∧m≤99∧i=.int .i64 k∧n=.int .i64 m∧Hid (aZ s=countGo (s.data.toList.drop k) m)) (fun _ i=>s.size-(intOf i).toNat)
 case atStart=>exact⟨0,0,CB _,by omega,rfl,rfl,by simp[Hid,aZ]⟩
 case round =>
  obtain⟨k,m,hk,hm,rfl,rfl,HA⟩:=hrel;by_cases hlt:k<s.size
  ·have HD:Hid (aZ s=if s[k].toNat<48∨57<s[k].toNat then 0 else if 10*m+(s[k].toNat-48)=0∨99<10*m+(s[k].toNat-48) then 0 else countGo (s.data.toList.drop (k+1)) (10*m+(s[k].toNat-48))):=by
    show _=_
    rw[HA.out,kE s k hlt,countGo]
   clear HA;by_cases ha:s[k].toNat<48
   ·go_wp2
    go_ret
    exact⟨cM (by rw[HD.out,if_pos (.inl ha)];rfl),rfl⟩
   by_cases hb:57<s[k].toNat
   ·go_wp2
    go_ret
    exact⟨cM (by rw[HD.out,if_pos (.inr hb)];rfl),rfl⟩
   have hb':s[k].toNat≤57:=by omega
   have hb1:48≤s[k].toNat:=by omega
   by_cases hz:10*m+(s[k].toNat-48)=0∨99<10*m+(s[k].toNat-48)
   ·have HZ:Hid (aZ s=0):=by show _=_;rw[HD.out,if_neg (by omega),if_pos hz]
    rcases hz with hz|hz
    ·have hm0:m=0:=by omega
     have hc0:s[k].toNat=48:=by omega
     go_wp2
     go_ret
     exact⟨cM (by rw[HZ.out];rfl),rfl⟩
    go_wp2
    all_goals go_ret
    all_goals exact⟨cM (by rw[HZ.out];rfl),rfl⟩
   have HZ:Hid (aZ s=countGo (s.data.toList.drop (k+1)) (10*m+(s[k].toNat-48))):=by show _=_;rw[HD.out,if_neg (by omega),if_neg hz]
   have hz1:(0:Int)<10*(m:Int)+((s[k].toNat:Int)-48):=by omega
   have hz2:10*(m:Int)+((s[k].toNat:Int)-48)≤99:=by omega
   have hzb:(10*(m:Int)+((s[k].toNat:Int)-48) == 0)=false:=by rw[beq_eq_false_iff_ne];omega
   clear hz;go_wp2
   go_round
   case rel=>exact⟨k+1,10*m+(s[k].toNat-48),by omega,by omega,by go_num,by go_num,HZ.out⟩
   case measure=>simp[intOf];omega
  go_wp2
  go_ret
  exact⟨cM (by rw[HA.out,List.drop_of_length_le (by simp;omega)];rfl),rfl⟩
end
end Go.Proofs.YtckmppkdpnhodaaGreatDoor
