import Derived.Conc.MuLone
import Derived.KernelRfl
import Derived.Test.YtckmppkdpnhodaaGreatDoorT10
import Derived.Test.YtckmppkdpnhodaaGreatDoorT09
import Derived.Test.YtckmppkdpnhodaaGreatDoorShelf
import Derived.Test.YtckmppkdpnhodaaGreatDoorT00
set_option maxRecDepth 100000
set_option maxHeartbeats 8000000
set_option linter.unusedVariables false
set_option linter.unusedSimpArgs false
open Nat renaming zero_le→CB,le_refl→Cl,le_trans→CC
open Array renaming length_toList→Dm
open ByteArray renaming empty→CL
open Go.RowKit.Below renaming refl→Ck,drew→C3,setCell→C0,alloc→C4
open Bool renaming and_eq_true→C1
open Option renaming map_some→Dk,getD_some→D7
namespace Go.Proofs.YtckmppkdpnhodaaGreatDoor
section
abbrev yA:Go.Conc.Locks.MuLink:={lock:=44,unlock:=45,ilock:=78,iunlock:=79,lockSlow:=121,unlockSlow:=124,disable:=117,enable:=119,acquire:=120,relMerge:=122,cas32:=118,add32:=123,tMutex:=100,tIMutex:=98,tPMutex:=164,tPIMutex:=214,tPI32:=216,tUP:=218,tNoCopy:=95,tU32:=96}
theorem dQ:Go.Conc.Locks.MuLib Tryz.prog yA:=⟨Tryz.func44,Tryz.func45,Tryz.func78,Tryz.func79,Tryz.func117,Tryz.func119,Tryz.func120,Tryz.func122,Tryz.func118,Tryz.func123,Tryz.underlying98,Tryz.runUnderlying98,Tryz.sizeOf98,Tryz.isAgg98,Tryz.zeroValue98,Tryz.underlying100,Tryz.runUnderlying100,Tryz.sizeOf100,Tryz.isAgg100,Tryz.zeroValue100,Tryz.underlying164,Tryz.runUnderlying164,Tryz.sizeOf164,Tryz.isAgg164,Tryz.zeroValue164,Tryz.underlying214,Tryz.runUnderlying214,Tryz.sizeOf214,Tryz.isAgg214,Tryz.zeroValue214,Tryz.underlying216,Tryz.runUnderlying216,Tryz.sizeOf216,Tryz.isAgg216,Tryz.zeroValue216,Tryz.underlying218,Tryz.runUnderlying218,Tryz.sizeOf218,Tryz.isAgg218,Tryz.zeroValue218,Tryz.underlying95,Tryz.runUnderlying95,Tryz.sizeOf95,Tryz.isAgg95,Tryz.zeroValue95,Tryz.underlying21,Tryz.runUnderlying21,Tryz.sizeOf21,Tryz.isAgg21,Tryz.zeroValue21,(by kernel_rfl)⟩
end
section
open Go.RowKit Go.Proofs
attribute [local go_sem ↓] Go.wp_at_zero Go.wp_at_succ
variable {t:ByteArray} {w':World}
def Kd.num:Kd→Nat
 |.closed=>0
 |.listen=>1
 |.established=>2
 |.finWait=>3
 |.closeWait=>4
theorem Kd.Bk(k:Kd):k.num<5:=by cases k <;> decide
theorem gF(s:ByteArray)(w:World)(hs:s.size≤maxLen):Calls Tryz.prog 83 #[.string s] w fun e w'=>e=.returned (.bool (bd s))∧w'=w:=by
 unfold maxLen at hs;by_cases h1:s.size<1
 ·have HW:Hid (bd s=false):=by simp[Hid,bd];omega
  go_enter Tryz.func83,Tryz.ntmps83
  go_wp2
  go_ret
  exact⟨aF HW.out.symm,rfl⟩
 by_cases h8:8<s.size
 ·have HW:Hid (bd s=false):=by simp[Hid,bd];omega
  go_enter Tryz.func83,Tryz.ntmps83
  go_wp2
  go_ret
  exact⟨aF HW.out.symm,rfl⟩
 have HW:Hid (bd s=s.data.toList.all eT):=by
  have a:1≤s.size:=by omega
  have b:s.size≤8:=by omega
  simp[Hid,bd,a,b]
 go_enter Tryz.func83,Tryz.ntmps83
 go_wp2
 go_loop [14] (fun i=>∃k:Nat,k≤s.size∧i=.int .i64 k∧Hid ((s.data.toList.take k).all eT=true)) (fun i=>s.size-(intOf i).toNat)
 case atStart=>exact⟨0,CB _,rfl,by simp[Hid]⟩
 case round =>
  obtain⟨k,hk,rfl,HA⟩:=hrel;by_cases hlt:k<s.size
  ·have HSN:Hid ((s.data.toList.take (k+1)).all eT=((s.data.toList.take k).all eT && eT s[k])):=by
    show _=_
    rw[nK s k hlt,List.all_append];simp
   have hm:=ma s k hlt;by_cases ha:s[k].toNat<97
   ·go_wp2
    go_ret
    exact⟨aF (by rw[HW.out,eq_comm,List.all_eq_false];exact⟨s[k],hm,by simp[eT];omega⟩),rfl⟩
   by_cases hb:122<s[k].toNat
   ·go_wp2
    go_ret
    exact⟨aF (by rw[HW.out,eq_comm,List.all_eq_false];exact⟨s[k],hm,by simp[eT];omega⟩),rfl⟩
   go_wp2
   go_round
   case rel=>exact⟨k+1,by omega,by go_num,by show _=true;rw[HSN.out,HA.out];simp[eT];omega⟩
   case measure=>simp[intOf];omega
  go_wp2
  go_ret
  exact⟨aF (by rw[HW.out,←HA.out,List.take_of_length_le (by simp;omega)]),rfl⟩
theorem qT{s:ByteArray}(h:2<s.size):aZ s=0:=by
 rcases Nat.eq_zero_or_pos (aZ s) with h0|h0
 ·exact h0
 have hd:=jR _ _ rfl h0;have hl:s.size=(dE (aZ s)).size:=by
  have:=congrArg List.length hd;rw[Dm,Dm]at this
  exact this
 have h99:aZ s≤99:=js _ 0 (by omega);have:=eE 1 (aZ s) (by omega);omega
theorem nz{s:ByteArray}(h:0<s.size)(h0:s[0].toNat=48):aZ s=0:=by
 unfold aZ;have e:=kE s 0 h;rw[List.drop_zero]at e
 rw[e,countGo,if_neg (by omega),if_pos (.inl (by omega))]
theorem lr(s:ByteArray)(w:World)(hs:s.size≤maxLen):Calls Tryz.prog 126 #[.string s] w fun e w'=>e=.returned (.int .i64 (aZ s:Int))∧w'=w:=by
 unfold maxLen at hs;by_cases h1:s.size<1
 ·have HW:Hid (aZ s=0):=by
   have e:s.data.toList=[]:=List.eq_nil_of_length_eq_zero (by rw[Dm];exact Nat.lt_one_iff.1 h1);show countGo _ 0=0
   rw[e,countGo]
  go_enter Tryz.func126,Tryz.ntmps126
  go_wp2
  go_ret
  exact⟨cM (by rw[HW.out];rfl),rfl⟩
 by_cases h2:2<s.size
 ·have HW:Hid (aZ s=0):=qT h2;go_enter Tryz.func126,Tryz.ntmps126
  go_wp2
  go_ret
  exact⟨cM (by rw[HW.out];rfl),rfl⟩
 have hp:0<s.size:=by omega
 by_cases h48:s[0].toNat=48
 ·have HW:Hid (aZ s=0):=nz hp h48;go_enter Tryz.func126,Tryz.ntmps126
  go_wp2
  go_ret
  exact⟨cM (by rw[HW.out];rfl),rfl⟩
 have hb48:((s[0].toNat:Int) == 48)=false:=by rw[beq_eq_false_iff_ne];omega
 go_enter Tryz.func126,Tryz.ntmps126
 go_wp2
 go_loop [3,20] (fun n i=>∃k m:Nat,k≤s.size∧m≤99∧(k=0→m=0)∧(k=1→1≤m∧m≤9)∧i=.int .i64 k∧n=.int .i64 m∧Hid (aZ s=countGo (s.data.toList.drop k) m)) (fun _ i=>s.size-(intOf i).toNat)
 case atStart=>exact⟨0,0,CB _,by omega,fun _=>rfl,by omega,rfl,rfl,by simp[Hid,aZ]⟩
 case round =>
  obtain⟨k,m,hk,hm,hk0,hk1,rfl,rfl,HA⟩:=hrel;by_cases hlt:k<s.size
  ·have HD:Hid (aZ s=if s[k].toNat<48∨57<s[k].toNat then 0 else if 10*m+(s[k].toNat-48)=0∨99<10*m+(s[k].toNat-48) then 0 else countGo (s.data.toList.drop (k+1)) (10*m+(s[k].toNat-48))):=by
    show _=_
    rw[HA.out,kE s k hlt,countGo]
   have hne:k=0→s[k].toNat≠48:=fun e=>by subst e;exact h48
   clear HA;by_cases ha:s[k].toNat<48
   ·go_wp2
    go_ret
    exact⟨cM (by rw[HD.out,if_pos (.inl ha)];rfl),rfl⟩
   by_cases hb:57<s[k].toNat
   ·go_wp2
    go_ret
    exact⟨cM (by rw[HD.out,if_pos (.inr hb)];rfl),rfl⟩
   have hb':s[k].toNat≤57:=by omega
   have hb1:48≤s[k].toNat:=by omega
   have hz:¬ (10*m+(s[k].toNat-48)=0∨99<10*m+(s[k].toNat-48)):=by
    rcases(show k=0∨k=1 by omega) with e|e
    ·have:=hk0 e;have:=hne e;omega
    have:=hk1 e;omega
   have HZ:Hid (aZ s=countGo (s.data.toList.drop (k+1)) (10*m+(s[k].toNat-48))):=by show _=_;rw[HD.out,if_neg (by omega),if_neg hz]
   have HK1:Hid (k+1=1→1≤10*m+(s[k].toNat-48)∧10*m+(s[k].toNat-48)≤9):=fun e=>by
    have e0:k=0:=by omega
    have:=hk0 e0;have:=hne e0;omega
   clear hne hk0 hk1 h48 hb48;go_wp2
   go_round
   case rel=>exact⟨k+1,10*m+(s[k].toNat-48),by omega,by omega,by omega,HK1.out,by go_num,by go_num,HZ.out⟩
   case measure=>simp[intOf];omega
  go_wp2
  go_ret
  exact⟨cM (by rw[HA.out,List.drop_of_length_le (by simp;omega)];rfl),rfl⟩
def ba(w:World):Prop:=∀k:Kd,w.cell? ⟨0,k.num,none⟩=some (.string k.bs)
def ku(s:ByteArray):Option Kd:=if s=(Kd.bs Go.Tcp.closed) then some .closed else if s=(Kd.bs Go.Tcp.listen) then some .listen else if s=(Kd.bs Go.Tcp.established) then some .established else if s=(Kd.bs Go.Tcp.finWait) then some .finWait else if s=(Kd.bs Go.Tcp.closeWait) then some .closeWait else none
def sV(q:Option Kd):Value:=.tuple #[.int .i64 ((q.map Kd.num).getD 0:Nat),.bool q.isSome]
theorem r8(s:ByteArray)(w:World)(hv:ba w):Calls Tryz.prog 81 #[.string s] w fun e w'=>e=.returned (sV (ku s))∧w'=w:=by
 have c0:w.cell? ⟨0,0,none⟩=some (.string (Kd.bs Go.Tcp.closed)):=hv .closed;have c1:w.cell? ⟨0,1,none⟩=some (.string (Kd.bs Go.Tcp.listen)):=hv .listen;have c2:w.cell? ⟨0,2,none⟩=some (.string (Kd.bs Go.Tcp.established)):=hv .established;have c3:w.cell? ⟨0,3,none⟩=some (.string (Kd.bs Go.Tcp.finWait)):=hv .finWait;have c4:w.cell? ⟨0,4,none⟩=some (.string (Kd.bs Go.Tcp.closeWait)):=hv .closeWait;clear hv;have i0:∀w,(Instr.index 221 (.agg #[.string (Kd.bs Go.Tcp.closed),.string (Kd.bs Go.Tcp.listen),.string (Kd.bs Go.Tcp.established),.string (Kd.bs Go.Tcp.finWait),.string (Kd.bs Go.Tcp.closeWait)]) (.int .i64 0)).run Tryz.prog w=.ok (.string (Kd.bs Go.Tcp.closed)) w:=fun _=>by kernel_rfl
 have i1:∀w,(Instr.index 221 (.agg #[.string (Kd.bs Go.Tcp.closed),.string (Kd.bs Go.Tcp.listen),.string (Kd.bs Go.Tcp.established),.string (Kd.bs Go.Tcp.finWait),.string (Kd.bs Go.Tcp.closeWait)]) (.int .i64 1)).run Tryz.prog w=.ok (.string (Kd.bs Go.Tcp.listen)) w:=fun _=>by kernel_rfl
 have i2:∀w,(Instr.index 221 (.agg #[.string (Kd.bs Go.Tcp.closed),.string (Kd.bs Go.Tcp.listen),.string (Kd.bs Go.Tcp.established),.string (Kd.bs Go.Tcp.finWait),.string (Kd.bs Go.Tcp.closeWait)]) (.int .i64 2)).run Tryz.prog w=.ok (.string (Kd.bs Go.Tcp.established)) w:=fun _=>by kernel_rfl
 have i3:∀w,(Instr.index 221 (.agg #[.string (Kd.bs Go.Tcp.closed),.string (Kd.bs Go.Tcp.listen),.string (Kd.bs Go.Tcp.established),.string (Kd.bs Go.Tcp.finWait),.string (Kd.bs Go.Tcp.closeWait)]) (.int .i64 3)).run Tryz.prog w=.ok (.string (Kd.bs Go.Tcp.finWait)) w:=fun _=>by kernel_rfl
 have i4:∀w,(Instr.index 221 (.agg #[.string (Kd.bs Go.Tcp.closed),.string (Kd.bs Go.Tcp.listen),.string (Kd.bs Go.Tcp.established),.string (Kd.bs Go.Tcp.finWait),.string (Kd.bs Go.Tcp.closeWait)]) (.int .i64 4)).run Tryz.prog w=.ok (.string (Kd.bs Go.Tcp.closeWait)) w:=fun _=>by kernel_rfl
 generalize hq:ku s=q;have HQ:Hid (ku s=q):=hq;clear hq;go_enter Tryz.func81,Tryz.ntmps81
 go_wp2
 go_loop [7] (fun i=>∃k:Nat,k≤5∧i=.int .i64 k∧Hid (∀kd:Kd,kd.num<k→s≠kd.bs)) (fun i=>5-(intOf i).toNat)
 case atStart=>exact⟨0,by omega,rfl,fun kd h=>by omega⟩
 case round =>
  obtain⟨k,hk,rfl,HA⟩:=hrel;have bt:∀kd:Kd,s=kd.bs→(kd.bs.toList == s.toList)=true:=fun kd h=>by rw[h];exact beq_self_eq_true _
  have bf:∀kd:Kd,¬ s=kd.bs→(kd.bs.toList == s.toList)=false:=fun kd h=>by
   rw[beq_eq_false_iff_ne];exact fun e=>h (toList_inj e).symm
  rcases(show k=0∨k=1∨k=2∨k=3∨k=4∨k=5 by omega) with rfl|rfl|rfl|rfl|rfl|rfl
  ·by_cases hs:s=(Kd.bs Go.Tcp.closed)
   ·have hb:=bt .closed hs;have HR:Hid (q=some .closed):=by
     show _=_
     rw[←HQ.out,ku,if_pos hs]
    clear bt bf hs;go_wp2
    go_ret2
    exact⟨by rw[HR.out];rfl,rfl⟩
   have hb:=bf .closed hs;have HN:Hid (∀kd:Kd,kd.num<0+1→s≠kd.bs):=fun kd h=>by
    by_cases e:kd=.closed
    ·subst e;exact hs
    exact HA.out kd (by cases kd <;> simp[Kd.num]at h e ⊢)
   clear bt bf hs;go_wp2
   go_round
   case rel=>exact⟨0+1,by omega,by go_num,HN.out⟩
   case measure=>simp[intOf]
  ·by_cases hs:s=(Kd.bs Go.Tcp.listen)
   ·have hb:=bt .listen hs;have HR:Hid (q=some .listen):=by
     show _=_
     rw[←HQ.out,ku,if_neg (HA.out .closed (by decide)),if_pos hs]
    clear bt bf hs;go_wp2
    go_ret2
    exact⟨by rw[HR.out];rfl,rfl⟩
   have hb:=bf .listen hs;have HN:Hid (∀kd:Kd,kd.num<1+1→s≠kd.bs):=fun kd h=>by
    by_cases e:kd=.listen
    ·subst e;exact hs
    exact HA.out kd (by cases kd <;> simp[Kd.num]at h e ⊢)
   clear bt bf hs;go_wp2
   go_round
   case rel=>exact⟨1+1,by omega,by go_num,HN.out⟩
   case measure=>simp[intOf]
  ·by_cases hs:s=(Kd.bs Go.Tcp.established)
   ·have hb:=bt .established hs;have HR:Hid (q=some .established):=by
     show _=_
     rw[←HQ.out,ku,if_neg (HA.out .closed (by decide)),if_neg (HA.out .listen (by decide)),if_pos hs]
    clear bt bf hs;go_wp2
    go_ret2
    exact⟨by rw[HR.out];rfl,rfl⟩
   have hb:=bf .established hs;have HN:Hid (∀kd:Kd,kd.num<2+1→s≠kd.bs):=fun kd h=>by
    by_cases e:kd=.established
    ·subst e;exact hs
    exact HA.out kd (by cases kd <;> simp[Kd.num]at h e ⊢)
   clear bt bf hs;go_wp2
   go_round
   case rel=>exact⟨2+1,by omega,by go_num,HN.out⟩
   case measure=>simp[intOf]
  ·by_cases hs:s=(Kd.bs Go.Tcp.finWait)
   ·have hb:=bt .finWait hs;have HR:Hid (q=some .finWait):=by
     show _=_
     rw[←HQ.out,ku,if_neg (HA.out .closed (by decide)),if_neg (HA.out .listen (by decide)),if_neg (HA.out .established (by decide)),if_pos hs]
    clear bt bf hs;go_wp2
    go_ret2
    exact⟨by rw[HR.out];rfl,rfl⟩
   have hb:=bf .finWait hs;have HN:Hid (∀kd:Kd,kd.num<3+1→s≠kd.bs):=fun kd h=>by
    by_cases e:kd=.finWait
    ·subst e;exact hs
    exact HA.out kd (by cases kd <;> simp[Kd.num]at h e ⊢)
   clear bt bf hs;go_wp2
   go_round
   case rel=>exact⟨3+1,by omega,by go_num,HN.out⟩
   case measure=>simp[intOf]
  ·by_cases hs:s=(Kd.bs Go.Tcp.closeWait)
   ·have hb:=bt .closeWait hs;have HR:Hid (q=some .closeWait):=by
     show _=_
     rw[←HQ.out,ku,if_neg (HA.out .closed (by decide)),if_neg (HA.out .listen (by decide)),if_neg (HA.out .established (by decide)),if_neg (HA.out .finWait (by decide)),if_pos hs]
    clear bt bf hs;go_wp2
    go_ret2
    exact⟨by rw[HR.out];rfl,rfl⟩
   have hb:=bf .closeWait hs;have HN:Hid (∀kd:Kd,kd.num<4+1→s≠kd.bs):=fun kd h=>by
    by_cases e:kd=.closeWait
    ·subst e;exact hs
    exact HA.out kd (by cases kd <;> simp[Kd.num]at h e ⊢)
   clear bt bf hs;go_wp2
   go_round
   case rel=>exact⟨4+1,by omega,by go_num,HN.out⟩
   case measure=>simp[intOf]
  have HR:Hid (q=none):=by
   show _=_
   rw[←HQ.out,ku,if_neg (HA.out .closed (by decide)),if_neg (HA.out .listen (by decide)),if_neg (HA.out .established (by decide)),if_neg (HA.out .finWait (by decide)),if_neg (HA.out .closeWait (by decide))]
  clear bt bf;go_wp2
  go_ret2
  exact⟨by rw[HR.out];rfl,rfl⟩
theorem im:∀(l:List UInt8),Lib.indexByte l 32=if l.findIdx (· == 32)<l.length then(l.findIdx (· == 32):Int) else -1
 |[]=>by simp[Lib.indexByte]
 |b::l=>by
  have ih:=im l;rw[Lib.indexByte,List.findIdx_cons];by_cases hb:(b == 32)=true
  ·simp[hb]
  have hb':(b == 32)=false:=by simpa using hb
  by_cases hl:l.findIdx (· == 32)<l.length
  ·rw[if_pos hl]at ih;have h1:((l.findIdx (· == 32):Int) == -1)=false:=by rw[beq_eq_false_iff_ne];omega
   simp[hb',ih,h1,hl]
  rw[if_neg hl]at ih;simp[hb',ih,hl]
theorem qH(s:ByteArray):Lib.indexByte s.data.toList 32=if blank s<s.size then(blank s:Int) else -1:=by
 rw[im,Dm];rfl
theorem vS(s:ByteArray)(w:World)(hs:s.size≤maxLen):Calls Tryz.prog 125 #[.string s,.string ⟨#[32]⟩] w fun e w'=>e=.returned (.tuple #[.string (al s),.string (ag s),.bool (aA s)])∧∃n,w'=w.drewN n:=by
 have HI:Hid (∀w,Calls Tryz.prog 157 #[.string s,.string ⟨#[32]⟩] w fun e w'=>e=.returned (.int .i64 (if blank s<s.size then(blank s:Int) else -1))∧w'=w):=fun w=>by
  rw[←qH];exact Tryz.stringslite_Index_one s 32 w
 unfold maxLen at hs;by_cases hb:blank s<s.size
 ·have HR:Hid (al s=s.extract 0 (blank s)∧ag s=s.extract (blank s+1) s.size∧aA s=true):=by
   refine⟨?_,?_,?_⟩ <;> simp[al,ag,aA,hb]
  rw[if_pos hb]at HI;generalize blank s=k at *;have i0:(0:Int)≤(k:Int):=by omega
  have i1:(k:Int)≤(s.size:Int):=by omega
  have i2:(k:Int)+1≤(s.size:Int):=by omega
  have i3:(0:Int)≤(k:Int)+1:=by omega
  go_enter Tryz.func125,Tryz.ntmps125
  go_wp2_with (go_at_call 157;refine(HI.out _).mono ?_;rintro e w' ⟨rfl,hw'⟩;have hw'':=hw'.symm;clear hw';subst hw'')
  go_region
  all_goals go_wp2
  all_goals go_ret3
  all_goals
   obtain⟨e1,e2,e3⟩:=HR.out;exact⟨by rw[e1,e2,e3];rfl,1,rfl⟩
 have HR:Hid (al s=s∧ag s=CL∧aA s=false):=by
  refine⟨?_,?_,?_⟩ <;> simp[al,ag,aA,hb]
 rw[if_neg hb]at HI;go_enter Tryz.func125,Tryz.ntmps125
 go_wp2_with (go_at_call 157;refine(HI.out _).mono ?_;rintro e w' ⟨rfl,hw'⟩;have hw'':=hw'.symm;clear hw';subst hw'')
 go_ret3
 obtain⟨e1,e2,e3⟩:=HR.out;exact⟨by rw[e1,e2,e3];rfl,0,rfl⟩
theorem gH(s:ByteArray)(w:World)(hs:s.size≤maxLen):Calls Tryz.prog 80 #[.string s,.string ⟨#[32]⟩] w fun e w'=>e=.returned (.tuple #[.string (al s),.string (ag s),.bool (aA s)])∧∃n,w'=w.drewN n:=by
 go_enter Tryz.func80,Tryz.ntmps80
 go_wp2_with (go_at_call 125;refine(vS s _ hs).mono ?_;rintro e w' ⟨rfl,nd,rfl⟩)
 go_ret3
 exact⟨rfl,nd,rfl⟩
theorem ux(s:ByteArray)(w:World)(hs:s.size≤281474976710656):Calls Tryz.prog 127 #[.string s] w fun e w'=>e=.returned (.string s)∧Below w.heap.size w w':=by
 go_enter Tryz.func127,Tryz.ntmps127
 go_wp2_with (go_at_call 158;refine(Tryz.stringslite_Clone s _ hs).mono ?_;rintro e w' ⟨rfl,hb⟩)
 go_ret
 exact⟨rfl,hb⟩
theorem lY(w:World)(cs:Array Value)(t:TypeId)(hb:Below (w.alloc (.cells cs t)).heap.size (w.alloc (.cells cs t)) w')(o:Nat)(v:Value)(hv:cs[o]?=some v):w'.cell? ⟨w.heap.size,o,none⟩=some v∧w'.frozen? ⟨w.heap.size,o,none⟩=false:=by
 have h:w'.heap[w.heap.size]?=some (.cells cs t (0,0)):=(hb.block _ (by simp)).trans (heap_alloc_new w _);exact⟨by rw[cell_of_heap h];exact hv,frozen_of_heap h o⟩
theorem vM{W:World}{b:Nat}{cs:Array Value}{t:TypeId}(hW:W.heap[b]?=some (.cells cs t (0,0)))(hb:Below W.heap.size W w')(o:Nat)(v:Value)(hv:cs[o]?=some v):w'.cell? ⟨b,o,none⟩=some v∧w'.frozen? ⟨b,o,none⟩=false:=by
 have h:w'.heap[b]?=some (.cells cs t (0,0)):=(hb.block _ (Array.getElem?_eq_some_iff.1 hW).1).trans hW;exact⟨by rw[cell_of_heap h];exact hv,frozen_of_heap h o⟩
theorem cP(w:World)(cs:Array Value)(t:TypeId)(n:Nat)(hb:Below ((w.alloc (.cells cs t)).drewN n).heap.size ((w.alloc (.cells cs t)).drewN n) w')(o:Nat)(v:Value)(hv:cs[o]?=some v):w'.cell? ⟨w.heap.size,o,none⟩=some v∧w'.frozen? ⟨w.heap.size,o,none⟩=false:=vM (W:=(w.alloc (.cells cs t)).drewN n) (heap_alloc_new w (.cells cs t)) hb o v hv
theorem ik(k c:Nat)(s:ByteArray)(w:World)(hs:s.size≤281474976710656):Calls Tryz.prog 84 #[.int .i64 (k:Int),.string s,.int .i64 (c:Int)] w fun e w'=>e=.returned (.agg #[.int .i64 (k:Int),.string s,.int .i64 (c:Int)])∧Below w.heap.size w w':=by
 have HC:Hid (∀W,Calls Tryz.prog 127 #[.string s] W fun e w'=>e=.returned (.string s)∧Below W.heap.size W w'):=fun W=>ux s W hs
 go_enter Tryz.func84,Tryz.ntmps84
 go_wp2_with (go_at_call 127;refine(HC.out _).mono ?_;rintro e w1 ⟨rfl,hb⟩;obtain⟨c0,f0⟩:=lY w _ _ hb 0 _ rfl;obtain⟨c1,f1⟩:=lY w _ _ hb 1 _ rfl;obtain⟨c2,f2⟩:=lY w _ _ hb 2 _ rfl;have hB:Below w.heap.size w w1:=((Ck _ w).alloc (Cl _) _).trans (hb.mono (by simp));clear hb)
 all_goals exact bodyPost_ret (v:=.agg #[.int .i64 (k:Int),.string s,.int .i64 (c:Int)]) (by simp[results,Tryz.results84,go_sem,c0,c1,c2]) rfl ⟨rfl,by repeat' first|exact hB|apply C3|refine C0 ?_ (by first|(simp;done)|(simp;omega)) _|refine C4 ?_ (by first|(simp;done)|(simp;omega)) _⟩
section
variable (s:ByteArray) (w:World)
theorem mW(hs:Hid (s.size≤maxLen))(hh:Hid ((al s).size≤maxLen))(ht:Hid ((ag s).size≤maxLen))(h1:bd (al s)=true)(h2:0<aZ (ag s)):Calls Tryz.prog 82 #[.string s] w fun e w'=>e=.returned (.tuple #[.agg #[.int .i64 0,.string (al s),.int .i64 (aZ (ag s):Int)],.bool true])∧Below w.heap.size w w':=by
 have hw8:(al s).size≤281474976710656:=by
  simp only[bd,C1,decide_eq_true_eq]at h1;omega
 have HN:Hid (∀W c,Calls Tryz.prog 84 #[.int .i64 0,.string (al s),.int .i64 ((c:Nat):Int)] W fun e w'=>e=.returned (.agg #[.int .i64 0,.string (al s),.int .i64 (c:Int)])∧Below W.heap.size W w'):=fun W c=>ik 0 c _ W hw8
 have hcb:((aZ (ag s):Int) == 0)=false:=by rw[beq_eq_false_iff_ne];omega
 clear hw8;go_enter Tryz.func82,Tryz.ntmps82
 go_wp2_with (first
  |(go_at_call 80;refine(gH _ _ hs.out).mono ?_;rintro e w' ⟨rfl,nd,rfl⟩)
  |(go_at_call 126;refine(lr _ _ ht.out).mono ?_;rintro e w' ⟨rfl,rfl⟩)
  |(go_at_call 83;refine(gF _ _ hh.out).mono ?_;rintro e w' ⟨rfl,rfl⟩)
  |(go_at_call 84;refine(HN.out _ _).mono ?_;rintro e w1 ⟨rfl,hb⟩;obtain⟨c0,f0⟩:=cP w _ _ _ hb 0 _ rfl;obtain⟨c1,f1⟩:=cP w _ _ _ hb 1 _ rfl;obtain⟨c2,f2⟩:=cP w _ _ _ hb 2 _ rfl;have hB:Below w.heap.size w w1:=(below_drewN ((Ck _ w).alloc (Cl _) _) _).trans (hb.mono (by simp));clear hb))
 all_goals exact bodyPost_ret (v:=.tuple #[.agg #[.int .i64 0,.string (al s),.int .i64 (aZ (ag s):Int)],.bool true]) (by simp[results,Tryz.results82,go_sem,c0,c1,c2]) rfl ⟨rfl,by repeat' first|exact hB|apply C3|refine C0 ?_ (by first|(simp;done)|(simp;omega)) _|refine C4 ?_ (by first|(simp;done)|(simp;omega)) _⟩
theorem oX(hs:Hid (s.size≤maxLen))(hh:Hid ((al s).size≤maxLen))(ht:Hid ((ag s).size≤maxLen))(h1:bd (al s)=false∨aZ (ag s)=0):Calls Tryz.prog 82 #[.string s] w fun e w'=>e=.returned (.tuple #[.agg #[.int .i64 0,.string ⟨#[]⟩,.int .i64 0],.bool false])∧Below w.heap.size w w':=by
 have hcb:bd (al s)=false∨(bd (al s)=true∧((aZ (ag s):Int) == 0)=true):=by
  cases hw:bd (al s) with
  |false=>exact .inl rfl
  |true =>
   rcases h1 with h|h
   ·rw[hw]at h;cases h
   exact .inr ⟨rfl,by rw[h];rfl⟩
 clear h1;rcases hcb with hcb|⟨hcb,hcc⟩
 all_goals
  go_enter Tryz.func82,Tryz.ntmps82
  go_wp2_with (first
   |(go_at_call 80;refine(gH _ _ hs.out).mono ?_;rintro e w' ⟨rfl,nd,rfl⟩)
   |(go_at_call 126;refine(lr _ _ ht.out).mono ?_;rintro e w' ⟨rfl,rfl⟩)
   |(go_at_call 83;refine(gF _ _ hh.out).mono ?_;rintro e w' ⟨rfl,rfl⟩))
  all_goals exact bodyPost_ret (v:=.tuple #[.agg #[.int .i64 0,.string ⟨#[]⟩,.int .i64 0],.bool false]) (by simp[results,Tryz.results82,go_sem]) rfl ⟨rfl,by repeat' first|exact Ck _ _|apply C3|refine below_drewN ?_ _|refine C0 ?_ (by first|(simp;done)|(simp;omega)) _|refine C4 ?_ (by first|(simp;done)|(simp;omega)) _⟩
end
theorem pL{s:ByteArray}(h:blank s<s.size):bd s=false:=by
 cases hw:bd s with
 |false=>rfl
 |true =>
  simp only[bd,C1,List.all_eq_true]at hw;have hm:=ma s (blank s) h;have:=hw.2 _ hm;rw[rh h]at this
  simp[eT]at this
theorem pK:bd CL=false:=by decide
theorem Kd.Ay(a b:Kd):a.bs=b.bs↔a=b:=⟨Kd.Bt,fun h=>by rw[h]⟩
theorem nL(h:¬ blank t<t.size):ag t=CL:=by unfold ag;rw[if_neg h]
theorem ud(h:¬ blank t<t.size):al t=t:=by unfold al;rw[if_neg h]
theorem xl(s:ByteArray):aY s=match ku (al s) with
  |none=>none
  |some k=>if k=.closed then(if bd (al (ag s))=true∧0<aZ (ag (ag s)) then some ⟨.closed,al (ag s),aZ (ag (ag s))⟩ else none)
   else if bd (ag s)=true then some ⟨k,ag s,0⟩ else none:=by
 have h0:al CL=CL:=rfl;have c0:aZ CL=0:=rfl;have e0:aA s=false→ag s=CL:=fun h=>nL (by simpa[aA] using h)
 have e1:aA (ag s)=false→al (ag s)=ag s∧ag (ag s)=CL:=fun h=>⟨ud (by simpa[aA] using h),nL (by simpa[aA] using h)⟩
 have e2:aA (ag s)=true→bd (ag s)=false:=fun h=>pL (by simpa[aA] using h)
 unfold aY ku;generalize al s=hd;cases hb:aA s with
 |false =>
  have he:=e0 hb;rw[he,h0,pK];by_cases a0:hd=(Kd.bs Go.Tcp.closed)
  ·subst a0;simp[Kd.Ay]
  by_cases a1:hd=(Kd.bs Go.Tcp.listen)
  ·subst a1;simp[Kd.Ay]
  by_cases a2:hd=(Kd.bs Go.Tcp.established)
  ·subst a2;simp[Kd.Ay]
  by_cases a3:hd=(Kd.bs Go.Tcp.finWait)
  ·subst a3;simp[Kd.Ay]
  by_cases a4:hd=(Kd.bs Go.Tcp.closeWait)
  ·subst a4;simp[Kd.Ay]
  simp[a0,a1,a2,a3,a4]
 |true =>
  cases hb2:aA (ag s) with
  |false =>
   obtain⟨f1,f2⟩:=e1 hb2;rw[f1,f2,c0];by_cases hw:bd (ag s)=true
   all_goals
    by_cases a0:hd=(Kd.bs Go.Tcp.closed)
    ·subst a0;simp[Kd.Ay,hw]
    by_cases a1:hd=(Kd.bs Go.Tcp.listen)
    ·subst a1;simp[Kd.Ay,hw]
    by_cases a2:hd=(Kd.bs Go.Tcp.established)
    ·subst a2;simp[Kd.Ay,hw]
    by_cases a3:hd=(Kd.bs Go.Tcp.finWait)
    ·subst a3;simp[Kd.Ay,hw]
    by_cases a4:hd=(Kd.bs Go.Tcp.closeWait)
    ·subst a4;simp[Kd.Ay,hw]
    simp[a0,a1,a2,a3,a4]
  |true =>
   have f1:=e2 hb2;rw[f1];by_cases hw:bd (al (ag s))=true
   all_goals
    by_cases a0:hd=(Kd.bs Go.Tcp.closed)
    ·subst a0;simp[Kd.Ay,hw]
    by_cases a1:hd=(Kd.bs Go.Tcp.listen)
    ·subst a1;simp[Kd.Ay,hw]
    by_cases a2:hd=(Kd.bs Go.Tcp.established)
    ·subst a2;simp[Kd.Ay,hw]
    by_cases a3:hd=(Kd.bs Go.Tcp.finWait)
    ·subst a3;simp[Kd.Ay,hw]
    by_cases a4:hd=(Kd.bs Go.Tcp.closeWait)
    ·subst a4;simp[Kd.Ay,hw]
    simp[a0,a1,a2,a3,a4]
def parseRes(o:Option Cm):Value:=.tuple #[.agg #[.int .i64 ((o.map (·.k.num)).getD 0:Nat),.string ((o.map (·.word)).getD ⟨#[]⟩),.int .i64 ((o.map (·.count)).getD 0:Nat)],.bool o.isSome]
theorem ba.below{w:World}(h:ba w)(hb:Below w.heap.size w w'):ba w':=fun k=>aa hb (h k)
theorem gw(s:ByteArray)(w:World)(hs:s.size≤maxLen)(hv:ba w):Calls Tryz.prog 46 #[.string s] w fun e w'=>e=.returned (parseRes (aY s))∧Below w.heap.size w w':=by
 have hS:=hid hs;have hT:Hid ((ag s).size≤maxLen):=CC (fS s) hs;have hTH:Hid ((al (ag s)).size≤maxLen):=CC (kX _) hT.out;have hTT:Hid ((ag (ag s)).size≤maxLen):=CC (fS _) hT.out;have HV:=hid hv;clear hs hv;have ra:=xl s;have HK:Hid (∀W,Below w.heap.size w W→Calls Tryz.prog 81 #[.string (al s)] W fun e w'=>e=.returned (sV (ku (al s)))∧w'=W):=fun W hW=>r8 _ W (HV.out.below hW)
 cases hq:ku (al s) with
 |none =>
  rw[hq]at ra HK;simp only at ra;rw[ra];clear ra hq;simp only[sV,Option.map_none,Option.getD_none,Option.isSome_none]at HK;simp only[parseRes,Option.map_none,Option.getD_none,Option.isSome_none];go_enter Tryz.func46,Tryz.ntmps46
  go_wp2_with (first
   |(go_at_call 80;refine(gH _ _ hS.out).mono ?_;rintro e w' ⟨rfl,nd,rfl⟩)
   |(go_at_call 81;refine(HK.out _ (below_drewN ((Ck _ w).alloc (Cl _) _) _)).mono ?_;rintro e w' ⟨rfl,rfl⟩))
  all_goals exact bodyPost_ret (v:=.tuple #[.agg #[.int .i64 0,.string ⟨#[]⟩,.int .i64 0],.bool false]) (by simp[results,Tryz.results46,go_sem]) rfl ⟨rfl,by repeat' first|exact Ck _ _|apply C3|refine below_drewN ?_ _|refine C0 ?_ (by first|(simp;done)|(simp;omega)) _|refine C4 ?_ (by first|(simp;done)|(simp;omega)) _⟩
 |some k =>
  rw[hq]at ra HK;simp only[sV,Dk,D7,Option.isSome_some]at HK;simp only at ra;have hbk:k≠.closed→((k.num:Int) == 0)=false:=fun h=>by cases k <;> first|exact absurd rfl h|rfl
  by_cases hk:k=.closed
  ·subst hk;rw[if_pos rfl]at ra
   simp only[Kd.num]at HK;by_cases hg:bd (al (ag s))=true∧0<aZ (ag (ag s))
   ·rw[if_pos hg]at ra;rw[ra];have HP:Hid (∀W,Calls Tryz.prog 82 #[.string (ag s)] W fun e w'=>e=.returned (.tuple #[.agg #[.int .i64 0,.string (al (ag s)),.int .i64 (aZ (ag (ag s)):Int)],.bool true])∧Below W.heap.size W w'):=fun W=>mW (ag s) W hT hTH hTT hg.1 hg.2
    simp only[parseRes,Dk,D7,Option.isSome_some,Kd.num];clear ra hq hbk hg;go_enter Tryz.func46,Tryz.ntmps46
    go_wp2_with (first
     |(go_at_call 80;refine(gH _ _ hS.out).mono ?_;rintro e w' ⟨rfl,nd,rfl⟩)
     |(go_at_call 81;refine(HK.out _ (below_drewN ((Ck _ w).alloc (Cl _) _) _)).mono ?_;rintro e w' ⟨rfl,rfl⟩)
     |(go_at_call 82;refine(HP.out _).mono ?_;rintro e w1 ⟨rfl,hb⟩;obtain⟨c0,f0⟩:=cP w _ _ _ hb 0 _ rfl;obtain⟨c1,f1⟩:=cP w _ _ _ hb 1 _ rfl;obtain⟨c2,f2⟩:=cP w _ _ _ hb 2 _ rfl;have hB:Below w.heap.size w w1:=(below_drewN ((Ck _ w).alloc (Cl _) _) _).trans (hb.mono (by simp));clear hb))
    all_goals exact bodyPost_ret (v:=.tuple #[.agg #[.int .i64 0,.string (al (ag s)),.int .i64 (aZ (ag (ag s)):Int)],.bool true]) (by simp[results,Tryz.results46,go_sem,c0,c1,c2]) rfl ⟨rfl,by repeat' first|exact hB|exact Ck _ _|apply C3|refine below_drewN ?_ _|refine C0 ?_ (by first|(simp;done)|(simp;omega)) _|refine C4 ?_ (by first|(simp;done)|(simp;omega)) _⟩
   rw[if_neg hg]at ra;rw[ra];have HP:Hid (∀W,Calls Tryz.prog 82 #[.string (ag s)] W fun e w'=>e=.returned (.tuple #[.agg #[.int .i64 0,.string ⟨#[]⟩,.int .i64 0],.bool false])∧Below W.heap.size W w'):=fun W=>oX (ag s) W hT hTH hTT (by
    cases hw:bd (al (ag s)) with
    |false=>exact .inl rfl
    |true=>exact .inr (by have:¬ 0<aZ (ag (ag s)):=fun h=>hg ⟨hw,h⟩;omega))
   simp only[parseRes,Option.map_none,Option.getD_none,Option.isSome_none];clear ra hq hbk hg;go_enter Tryz.func46,Tryz.ntmps46
   go_wp2_with (first
    |(go_at_call 80;refine(gH _ _ hS.out).mono ?_;rintro e w' ⟨rfl,nd,rfl⟩)
    |(go_at_call 81;refine(HK.out _ (below_drewN ((Ck _ w).alloc (Cl _) _) _)).mono ?_;rintro e w' ⟨rfl,rfl⟩)
    |(go_at_call 82;refine(HP.out _).mono ?_;rintro e w1 ⟨rfl,hb⟩;obtain⟨c0,f0⟩:=cP w _ _ _ hb 0 _ rfl;obtain⟨c1,f1⟩:=cP w _ _ _ hb 1 _ rfl;obtain⟨c2,f2⟩:=cP w _ _ _ hb 2 _ rfl;have hB:Below w.heap.size w w1:=(below_drewN ((Ck _ w).alloc (Cl _) _) _).trans (hb.mono (by simp));clear hb))
   all_goals exact bodyPost_ret (v:=.tuple #[.agg #[.int .i64 0,.string ⟨#[]⟩,.int .i64 0],.bool false]) (by simp[results,Tryz.results46,go_sem,c0,c1,c2]) rfl ⟨rfl,by repeat' first|exact hB|exact Ck _ _|apply C3|refine below_drewN ?_ _|refine C0 ?_ (by first|(simp;done)|(simp;omega)) _|refine C4 ?_ (by first|(simp;done)|(simp;omega)) _⟩
  rw[if_neg hk]at ra;have hb0:=hbk hk;clear hbk;cases hw:bd (ag s) with
  |true =>
   rw[if_pos hw]at ra;rw[ra];have hw8:(ag s).size≤281474976710656:=by
    simp only[bd,C1,decide_eq_true_eq]at hw;omega
   have HN:Hid (∀W,Calls Tryz.prog 84 #[.int .i64 (k.num:Int),.string (ag s),.int .i64 0] W fun e w'=>e=.returned (.agg #[.int .i64 (k.num:Int),.string (ag s),.int .i64 0])∧Below W.heap.size W w'):=fun W=>ik k.num 0 _ W hw8
   have HW:Hid (∀W,Calls Tryz.prog 83 #[.string (ag s)] W fun e w'=>e=.returned (.bool true)∧w'=W):=fun W=>by have:=gF (ag s) W hT.out;rwa[hw]at this
   simp only[parseRes,Dk,D7,Option.isSome_some];clear ra hq hw hw8;generalize k.num=kn at *;go_enter Tryz.func46,Tryz.ntmps46
   go_wp2_with (first
    |(go_at_call 80;refine(gH _ _ hS.out).mono ?_;rintro e w' ⟨rfl,nd,rfl⟩)
    |(go_at_call 81;refine(HK.out _ (below_drewN ((Ck _ w).alloc (Cl _) _) _)).mono ?_;rintro e w' ⟨rfl,rfl⟩)
    |(go_at_call 83;refine(HW.out _).mono ?_;rintro e w' ⟨rfl,rfl⟩)
    |(go_at_call 84;refine(HN.out _).mono ?_;rintro e w1 ⟨rfl,hb⟩;obtain⟨c0,f0⟩:=cP w _ _ _ hb 0 _ rfl;obtain⟨c1,f1⟩:=cP w _ _ _ hb 1 _ rfl;obtain⟨c2,f2⟩:=cP w _ _ _ hb 2 _ rfl;have hB:Below w.heap.size w w1:=(below_drewN ((Ck _ w).alloc (Cl _) _) _).trans (hb.mono (by simp));clear hb))
   all_goals exact bodyPost_ret (v:=.tuple #[.agg #[.int .i64 (kn:Int),.string (ag s),.int .i64 0],.bool true]) (by simp[results,Tryz.results46,go_sem,c0,c1,c2]) rfl ⟨rfl,by repeat' first|exact hB|exact Ck _ _|apply C3|refine below_drewN ?_ _|refine C0 ?_ (by first|(simp;done)|(simp;omega)) _|refine C4 ?_ (by first|(simp;done)|(simp;omega)) _⟩
  |false =>
   rw[if_neg (by rw[hw];decide)]at ra;rw[ra];have HW:Hid (∀W,Calls Tryz.prog 83 #[.string (ag s)] W fun e w'=>e=.returned (.bool false)∧w'=W):=fun W=>by have:=gF (ag s) W hT.out;rwa[hw]at this
   simp only[parseRes,Option.map_none,Option.getD_none,Option.isSome_none];clear ra hq hw;generalize k.num=kn at *;go_enter Tryz.func46,Tryz.ntmps46
   go_wp2_with (first
    |(go_at_call 80;refine(gH _ _ hS.out).mono ?_;rintro e w' ⟨rfl,nd,rfl⟩)
    |(go_at_call 81;refine(HK.out _ (below_drewN ((Ck _ w).alloc (Cl _) _) _)).mono ?_;rintro e w' ⟨rfl,rfl⟩)
    |(go_at_call 83;refine(HW.out _).mono ?_;rintro e w' ⟨rfl,rfl⟩))
   all_goals exact bodyPost_ret (v:=.tuple #[.agg #[.int .i64 0,.string ⟨#[]⟩,.int .i64 0],.bool false]) (by simp[results,Tryz.results46,go_sem]) rfl ⟨rfl,by repeat' first|exact Ck _ _|apply C3|refine below_drewN ?_ _|refine C0 ?_ (by first|(simp;done)|(simp;omega)) _|refine C4 ?_ (by first|(simp;done)|(simp;omega)) _⟩
theorem pP(c:Cm)(hc:nF c)(w:World)(hv:ba w):Calls Tryz.prog 100 #[.agg #[.int .i64 (c.k.num:Int),.string c.word,.int .i64 (c.count:Int)]] w fun e w'=>e=.returned (.string (aQ c))∧Below w.heap.size w w':=by
 have hw8:c.word.size≤8:=by
  have:=hc.word;simp only[bd,C1,decide_eq_true_eq]at this;omega
 have hb6:c.k.bs.size≤6:=by cases c.k <;> decide
 have hb5:c.k.num<5:=c.k.Bk;have hcell:∀o,(w.alloc o).cell? ⟨0,c.k.num,none⟩=some (.string c.k.bs):=fun o=>aa ((Ck _ w).alloc (Cl _) o) (hv c.k)
 have hcelld:∀o,(w.alloc o).drew.cell? ⟨0,c.k.num,none⟩=some (.string c.k.bs):=hcell
 by_cases hk:c.k=.closed
 ·have hcnt:=(hc.add hk).2;have HT:Hid (aQ c=c.k.bs++⟨#[32]⟩++c.word++(⟨#[32]⟩++dE c.count)):=by show _=_;simp only[aQ,if_pos hk]
  have HI:Hid (∀W,Calls Tryz.prog 97 #[.int .i64 (c.count:Int)] W fun e w'=>e=.returned (.string (dE c.count))∧w'=W):=fun W=>Tryz.strconv_Itoa_small c.count (by omega) W
  have hd2:(dE c.count).size≤2:=eE 1 c.count (by omega);have hn0:c.k.num=0:=by rw[hk];rfl
  generalize c.k.num=kn at *;subst hn0;generalize c.k.bs=kb at *;generalize c.count=cn at *;generalize c.word=wd at *;generalize dE cn=dn at *;generalize aQ c=tx at *;clear hk hc hv;go_enter Tryz.func100,Tryz.ntmps100
  go_wp2_with (go_at_call 97;refine(HI.out _).mono ?_;rintro e w' ⟨rfl,hw'⟩;have hw'':=hw'.symm;clear hw';subst hw'')
  go_region
  all_goals go_wp2_with (go_at_call 97;refine(HI.out _).mono ?_;rintro e w' ⟨rfl,hw'⟩;have hw'':=hw'.symm;clear hw';subst hw'')
  all_goals go_ret
  all_goals exact⟨by rw[HT.out];rfl,((Ck _ w).alloc (Cl _) _).drew⟩
 have HT:Hid (aQ c=c.k.bs++⟨#[32]⟩++c.word):=by show _=_;simp only[aQ,if_neg hk,ByteArray.append_empty]
 have hn0:((c.k.num:Int) == 0)=false:=by
  cases hkk:c.k <;> first|exact absurd hkk hk|rfl
 generalize c.k.num=kn at *;generalize c.k.bs=kb at *;generalize c.count=cn at *;generalize c.word=wd at *;generalize aQ c=tx at *;clear hk hc hv;have k0:(0:Int)≤(kn:Int):=by omega
 have k5:(kn:Int)<5:=by omega
 go_enter Tryz.func100,Tryz.ntmps100
 go_wp2
 go_region
 all_goals go_wp2
 all_goals go_ret
 all_goals exact⟨by rw[HT.out];rfl,((Ck _ w).alloc (Cl _) _).drew⟩
end
end Go.Proofs.YtckmppkdpnhodaaGreatDoor
