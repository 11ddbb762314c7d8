import Derived.Test.YtckmppkdpnhodaaGreatDoorT25
import Derived.Test.YtckmppkdpnhodaaGreatDoorT00
set_option maxRecDepth 100000
set_option maxHeartbeats 8000000
set_option linter.unusedVariables false
set_option linter.unusedSimpArgs false
open Array renaming getElem?_eq_some_iff→Cn
open List renaming length_drop→Ds,length_append→Cz,flatMap_cons→CV,mem_cons→Co,not_mem_nil→Cq
open UInt8 renaming ofNat→CA
open Go.RowKit.Below renaming refl→Ck,heap_alloc→CF
open Nat renaming le_refl→Cl
open Go.World renaming cell?_of_block→CE
namespace Go.Proofs.YtckmppkdpnhodaaGreatDoor
open Go.RowKit Go.Proofs
attribute [local go_sem ↓] Go.wp_at_zero Go.wp_at_succ
variable {S:List (Option Nat)} {j q z:Nat} {rest:List UInt8} {w w':World}
def Rd(w:World)(q z:Nat)(rest:List UInt8):Prop:=∃off cap,w.heap[q]?=some (.cells #[.slice (some ⟨z,off,none⟩) rest.length cap,.bool false] 204 (0,0))∧rest.length≤cap∧cap≤9223372036854775807∧z≠q∧∀(i:Nat) (x:UInt8),rest[i]?=some x→w.cell? ⟨z,off+i,none⟩=some (.int .u8 (x.toNat:Int))
theorem Rd.lt(h:Rd w q z rest):q<w.heap.size:=by
 obtain⟨off,cap,h1,-⟩:=h;exact(Cn.1 h1).1
theorem uc{a b v:Value}{T:TypeId}(h:w.heap[q]?=some (.cells #[a,b] T (0,0))):(w.setCell ⟨q,0,none⟩ v).heap[q]?=some (.cells #[v,b] T (0,0)):=by
 rw[ae h]
 rfl
theorem xR(q z n:Nat)(rest:List UInt8)(hn:n≤rest.length)(w:World)(hr:Rd w q z rest):Calls Tryz.prog 168 #[.pointer (some ⟨q,0,none⟩),.int .i64 (n:Int)] w fun e w'=>∃off c,e=.returned (.slice (some ⟨z,off,none⟩) n c)∧n≤c∧aM w' (.slice (some ⟨z,off,none⟩) n c) (rest.take n)∧Rd w' q z (rest.drop n)∧w'.cell? ⟨q,1,none⟩=some (.bool false)∧an [some q] w w':=by
 obtain⟨off,cap,hh,hcap,hmax,hbq,hc⟩:=hr;have hl:=(Cn.1 hh).1;have c0:w.cell? ⟨q,0,none⟩=some (.slice (some ⟨z,off,none⟩) rest.length cap):=cell_of_heap hh _;have f0:w.frozen? ⟨q,0,none⟩=false:=frozen_of_heap hh 0;have HC:Hid (∀(i:Nat) (x:UInt8),rest[i]?=some x→w.cell? ⟨z,off+i,none⟩=some (.int .u8 (x.toNat:Int))):=hc;have HH:Hid (w.heap[q]?=some (.cells #[.slice (some ⟨z,off,none⟩) rest.length cap,.bool false] 204 (0,0))):=hh;have e1:¬ (rest.length:Int)<(n:Int):=by omega
 clear hc hh;obtain⟨o2,ho2⟩:∃o2,o2=if n=cap then off else off+n:=⟨_,rfl⟩
 have key:∀W,W=w.setCell ⟨q,0,none⟩ (.slice (some ⟨z,o2,none⟩) (rest.length-n) (cap-n))→aM W (.slice (some ⟨z,off,none⟩) n cap) (rest.take n)∧Rd W q z (rest.drop n)∧W.cell? ⟨q,1,none⟩=some (.bool false)∧an [some q] w W:=by
  intro W hW;have hu:an [some q] w W:=by rw[hW];exact(an.refl _ _).setCell (.inl (by simp)) _
  have hcell:∀(i:Nat) (x:UInt8),rest[i]?=some x→W.cell? ⟨z,off+i,none⟩=some (.int .u8 (x.toNat:Int)):=fun i x hx=>hu.cell (HC.out i x hx) (by simp;exact hbq)
  have hh2:W.heap[q]?=some (.cells #[.slice (some ⟨z,o2,none⟩) (rest.length-n) (cap-n),.bool false] 204 (0,0)):=by rw[hW];exact uc HH.out
  refine⟨⟨_,_,by rw[List.length_take,Nat.min_eq_left hn],fun i x hx=>⟨z,off,rfl,hcell i x ?_⟩⟩,⟨o2,cap-n,by rw[Ds];exact hh2,by rw[Ds];omega,by omega,hbq,fun i x hx=>?_⟩,?_,hu⟩
  ·rw[List.getElem?_take]at hx;split at hx
   ·exact hx
   cases hx
  ·rw[List.getElem?_drop]at hx;have hlt:=(List.getElem?_eq_some_iff.1 hx).1;rw[ho2,if_neg (by omega),Nat.add_assoc];exact hcell (n+i) x hx
  rw[cell_of_heap hh2]
  rfl
 have HK:Hid (∀W,W=w.setCell ⟨q,0,none⟩ (.slice (some ⟨z,o2,none⟩) (rest.length-n) (cap-n))→aM W (.slice (some ⟨z,off,none⟩) n cap) (rest.take n)∧Rd W q z (rest.drop n)∧W.cell? ⟨q,1,none⟩=some (.bool false)∧an [some q] w W):=key;clear key HC HH;by_cases hnc:n=cap
 ·subst hnc;rw[if_pos rfl]at ho2
  subst ho2;have hc0:n-n=0:=by omega
  rw[hc0]at HK;go_enter Tryz.func168,Tryz.ntmps168
  go_wp2
  go_ret
  exact⟨o2,n,rfl,by omega,HK.out _ (by rw[show rest.length-n=0 by omega])⟩
 rw[if_neg hnc]at ho2;subst ho2;have hnc2:¬ cap=n:=fun e=>hnc e.symm
 have hnc3:¬ cap-n=0:=by omega
 go_enter Tryz.func168,Tryz.ntmps168
 go_wp2
 go_ret
 exact⟨off,cap,rfl,by omega,HK.out _ rfl⟩
theorem Ab(q z:Nat)(x:UInt8)(rest:List UInt8)(w:World)(hr:Rd w q z (x::rest)):Calls Tryz.prog 167 #[.pointer (some ⟨q,0,none⟩)] w fun e w'=>e=.returned (.int .i64 (x.toNat:Int))∧Rd w' q z rest∧an [some q] w w':=by
 have hx:=x.toNat_lt;have HT:Hid (Calls Tryz.prog 168 #[.pointer (some ⟨q,0,none⟩),.int .i64 1] w fun e w'=>∃off c,e=.returned (.slice (some ⟨z,off,none⟩) 1 c)∧1≤c∧w'.cell? ⟨z,off,none⟩=some (.int .u8 (x.toNat:Int))∧Rd w' q z rest∧w'.cell? ⟨q,1,none⟩=some (.bool false)∧an [some q] w w'):=by
  refine(xR q z 1 (x::rest) (by simp) w hr).mono ?_;rintro e w' ⟨off,c,h1,h2,⟨p',c',h3,h4⟩,h5,h6,h7⟩
  refine⟨off,c,h1,h2,?_,h5,h6,h7⟩;obtain⟨b',off',hp,hcell⟩:=h4 0 x rfl;rw[hp]at h3
  simp only[Value.slice.injEq,Option.some.injEq,Addr.mk.injEq,and_true]at h3;obtain⟨⟨rfl,rfl⟩,-⟩:=h3;simpa using hcell
 have e1:(x.toNat:Int) % 256=x.toNat:=by omega
 clear hr;generalize hxn:x.toNat=xn at *;have HX:Hid (x.toNat=xn):=hxn;clear hxn;go_enter Tryz.func167,Tryz.ntmps167
 go_wp2_with (go_at_call 168;refine HT.out.mono ?_;rintro e w2 ⟨off,c,rfl,hc1,hcell,hrd,hbad,hu⟩;have HRD:Hid (Rd w2 q z rest∧an [some q] w w2):=⟨hrd,hu⟩;clear hrd hu)
 go_ret
 exact⟨rfl,HRD.out⟩
theorem oY{x:UInt8}{xn:Nat}(hx:x.toNat=xn)(hr:Rd w q z (x::rest)):Hid (Calls Tryz.prog 167 #[.pointer (some ⟨q,0,none⟩)] w fun e w'=>e=.returned (.int .i64 (xn:Int))∧Rd w' q z rest∧an [some q] w w'):=by
 rw[←hx];exact Ab q z x rest w hr
theorem sQ(q z n:Nat)(hn:n<72057594037927936)(t:List UInt8)(w:World)(hr:Rd w q z (cG n++t)):Calls Tryz.prog 146 #[.pointer (some ⟨q,0,none⟩)] w fun e w'=>e=.returned (.int .i64 (n:Int))∧Rd w' q z t∧an [some q] w w':=by
 have HR:=hid hr;clear hr;go_enter Tryz.func146,Tryz.ntmps146
 go_wp2
 go_loopw [3,4] (fun a s wr=>∃k pw acc m:Nat,k≤7∧s=.int .i64 ((7*k:Nat):Int)∧a=.int .i64 (acc:Int)∧Hid (pw=128 ^ k∧acc=n % pw∧m=n / pw)∧Hid (Rd wr q z (cG m++t)∧an [some q] w wr)) (fun _ s _=>56-(intOf s).toNat)
 case atStart=>exact⟨0,1,0,n,by omega,rfl,rfl,⟨rfl,by omega,by omega⟩,HR.out,an.refl _ _⟩
 case round =>
  obtain⟨k,pw,acc,m,hk,rfl,rfl,HP,HI⟩:=hrel;by_cases hlo:m<128
  ·have HO:Hid (Calls Tryz.prog 167 #[.pointer (some ⟨q,0,none⟩)] wr fun e w'=>e=.returned (.int .i64 (m:Int))∧Rd w' q z t∧an [some q] wr w'):=oY (x:=CA m) (by rw[UInt8.toNat_ofNat'];omega) (by have:=HI.out.1;rwa[lC hlo]at this);have HN:Hid (acc+m*pw=n):=by
    obtain⟨h1,h2,h3⟩:=HP.out;show acc+m*pw=n
    rw[h2,h3,Nat.mul_comm,Nat.mod_add_div]
   have hpw:=HP.out.1;have hacc:acc<72057594037927936:=by have:=HP.out.2.1;have:=Nat.mod_le n pw;omega
   have eb:(m:Int)<128:=by omega
   have ebm:(m:Int) % 128=m:=by omega
   rcases(show k=0∨k=1∨k=2∨k=3∨k=4∨k=5∨k=6∨k=7 by omega) with rfl|rfl|rfl|rfl|rfl|rfl|rfl|rfl
   ·obtain rfl:pw=1:=hpw;have hs:(acc:Int)+(m:Int)=(n:Int):=by have:=HN.out;omega
    clear HN;go_wp2_with (go_at_call 167;refine HO.out.mono ?_;rintro e w2 ⟨rfl,hw2⟩;have HW2:Hid (Rd w2 q z t∧an [some q] wr w2):=hw2;clear hw2)
    go_ret
    exact⟨rfl,HW2.out.1,HI.out.2.trans HW2.out.2 fun i hi=>.inl hi⟩
   ·obtain rfl:pw=128:=hpw;have hs:(acc:Int)+(m:Int)*128=(n:Int):=by have:=HN.out;omega
    clear HN;go_wp2_with (go_at_call 167;refine HO.out.mono ?_;rintro e w2 ⟨rfl,hw2⟩;have HW2:Hid (Rd w2 q z t∧an [some q] wr w2):=hw2;clear hw2)
    go_ret
    exact⟨rfl,HW2.out.1,HI.out.2.trans HW2.out.2 fun i hi=>.inl hi⟩
   ·obtain rfl:pw=16384:=hpw;have hs:(acc:Int)+(m:Int)*16384=(n:Int):=by have:=HN.out;omega
    clear HN;go_wp2_with (go_at_call 167;refine HO.out.mono ?_;rintro e w2 ⟨rfl,hw2⟩;have HW2:Hid (Rd w2 q z t∧an [some q] wr w2):=hw2;clear hw2)
    go_ret
    exact⟨rfl,HW2.out.1,HI.out.2.trans HW2.out.2 fun i hi=>.inl hi⟩
   ·obtain rfl:pw=2097152:=hpw;have hs:(acc:Int)+(m:Int)*2097152=(n:Int):=by have:=HN.out;omega
    clear HN;go_wp2_with (go_at_call 167;refine HO.out.mono ?_;rintro e w2 ⟨rfl,hw2⟩;have HW2:Hid (Rd w2 q z t∧an [some q] wr w2):=hw2;clear hw2)
    go_ret
    exact⟨rfl,HW2.out.1,HI.out.2.trans HW2.out.2 fun i hi=>.inl hi⟩
   ·obtain rfl:pw=268435456:=hpw;have hs:(acc:Int)+(m:Int)*268435456=(n:Int):=by have:=HN.out;omega
    clear HN;go_wp2_with (go_at_call 167;refine HO.out.mono ?_;rintro e w2 ⟨rfl,hw2⟩;have HW2:Hid (Rd w2 q z t∧an [some q] wr w2):=hw2;clear hw2)
    go_ret
    exact⟨rfl,HW2.out.1,HI.out.2.trans HW2.out.2 fun i hi=>.inl hi⟩
   ·obtain rfl:pw=34359738368:=hpw;have hs:(acc:Int)+(m:Int)*34359738368=(n:Int):=by have:=HN.out;omega
    clear HN;go_wp2_with (go_at_call 167;refine HO.out.mono ?_;rintro e w2 ⟨rfl,hw2⟩;have HW2:Hid (Rd w2 q z t∧an [some q] wr w2):=hw2;clear hw2)
    go_ret
    exact⟨rfl,HW2.out.1,HI.out.2.trans HW2.out.2 fun i hi=>.inl hi⟩
   ·obtain rfl:pw=4398046511104:=hpw;have hs:(acc:Int)+(m:Int)*4398046511104=(n:Int):=by have:=HN.out;omega
    clear HN;go_wp2_with (go_at_call 167;refine HO.out.mono ?_;rintro e w2 ⟨rfl,hw2⟩;have HW2:Hid (Rd w2 q z t∧an [some q] wr w2):=hw2;clear hw2)
    go_ret
    exact⟨rfl,HW2.out.1,HI.out.2.trans HW2.out.2 fun i hi=>.inl hi⟩
   obtain rfl:pw=562949953421312:=hpw;have hs:(acc:Int)+(m:Int)*562949953421312=(n:Int):=by have:=HN.out;omega
   clear HN;go_wp2_with (go_at_call 167;refine HO.out.mono ?_;rintro e w2 ⟨rfl,hw2⟩;have HW2:Hid (Rd w2 q z t∧an [some q] wr w2):=hw2;clear hw2)
   go_ret
   exact⟨rfl,HW2.out.1,HI.out.2.trans HW2.out.2 fun i hi=>.inl hi⟩
  obtain⟨md,hmd⟩:∃md,md=m % 128:=⟨_,rfl⟩
  obtain⟨xn,hxn⟩:∃xn,xn=md+128:=⟨_,rfl⟩
  obtain⟨acc2,hacc2⟩:∃a2,a2=acc+md*pw:=⟨_,rfl⟩
  have HO:Hid (Calls Tryz.prog 167 #[.pointer (some ⟨q,0,none⟩)] wr fun e w'=>e=.returned (.int .i64 (xn:Int))∧Rd w' q z (cG (m / 128)++t)∧an [some q] wr w'):=oY (x:=CA (m % 128+128)) (by rw[UInt8.toNat_ofNat'];omega) (by have:=HI.out.1;rwa[oZ hlo]at this);have HN:Hid (acc2=n % (pw*128)∧m / 128=n / (pw*128)):=by
   obtain⟨h1,h2,h3⟩:=HP.out;refine⟨?_,?_⟩
   ·rw[hacc2,hmd,h2,h3,Nat.mod_mul,Nat.mul_comm pw]
   rw[h3,Nat.div_div_eq_div_mul]
  have hacc:acc2<72057594037927936:=by have:=HN.out.1;have:=Nat.mod_le n (pw*128);omega
  have hm0:=HP.out.2.2;have hpw:=HP.out.1;have eb:¬ (xn:Int)<128:=by omega
  have ebm:(xn:Int) % 128=md:=by omega
  have hacc0:acc<72057594037927936:=by have:=HP.out.2.1;have:=Nat.mod_le n pw;omega
  have hmd2:md<128:=by omega
  clear hmd hxn;rcases(show k=0∨k=1∨k=2∨k=3∨k=4∨k=5∨k=6∨k=7 by omega) with rfl|rfl|rfl|rfl|rfl|rfl|rfl|rfl
  ·obtain rfl:pw=1:=hpw;have hs:(acc:Int)+(md:Int)=(acc2:Int):=by omega
   clear hm0 hacc2;go_wp2_with (go_at_call 167;refine HO.out.mono ?_;rintro e w2 ⟨rfl,hw2⟩;have HW2:Hid (Rd w2 q z (cG (m / 128)++t)∧an [some q] wr w2):=hw2;clear hw2)
   go_roundw
   case rel=>exact⟨1,128,acc2,m / 128,by omega,rfl,rfl,⟨rfl,HN.out⟩,HW2.out.1,HI.out.2.trans HW2.out.2 fun i hi=>.inl hi⟩
   case measure=>simp[intOf]
  ·obtain rfl:pw=128:=hpw;have hs:(acc:Int)+(md:Int)*128=(acc2:Int):=by omega
   clear hm0 hacc2;go_wp2_with (go_at_call 167;refine HO.out.mono ?_;rintro e w2 ⟨rfl,hw2⟩;have HW2:Hid (Rd w2 q z (cG (m / 128)++t)∧an [some q] wr w2):=hw2;clear hw2)
   go_roundw
   case rel=>exact⟨2,16384,acc2,m / 128,by omega,rfl,rfl,⟨rfl,HN.out⟩,HW2.out.1,HI.out.2.trans HW2.out.2 fun i hi=>.inl hi⟩
   case measure=>simp[intOf]
  ·obtain rfl:pw=16384:=hpw;have hs:(acc:Int)+(md:Int)*16384=(acc2:Int):=by omega
   clear hm0 hacc2;go_wp2_with (go_at_call 167;refine HO.out.mono ?_;rintro e w2 ⟨rfl,hw2⟩;have HW2:Hid (Rd w2 q z (cG (m / 128)++t)∧an [some q] wr w2):=hw2;clear hw2)
   go_roundw
   case rel=>exact⟨3,2097152,acc2,m / 128,by omega,rfl,rfl,⟨rfl,HN.out⟩,HW2.out.1,HI.out.2.trans HW2.out.2 fun i hi=>.inl hi⟩
   case measure=>simp[intOf]
  ·obtain rfl:pw=2097152:=hpw;have hs:(acc:Int)+(md:Int)*2097152=(acc2:Int):=by omega
   clear hm0 hacc2;go_wp2_with (go_at_call 167;refine HO.out.mono ?_;rintro e w2 ⟨rfl,hw2⟩;have HW2:Hid (Rd w2 q z (cG (m / 128)++t)∧an [some q] wr w2):=hw2;clear hw2)
   go_roundw
   case rel=>exact⟨4,268435456,acc2,m / 128,by omega,rfl,rfl,⟨rfl,HN.out⟩,HW2.out.1,HI.out.2.trans HW2.out.2 fun i hi=>.inl hi⟩
   case measure=>simp[intOf]
  ·obtain rfl:pw=268435456:=hpw;have hs:(acc:Int)+(md:Int)*268435456=(acc2:Int):=by omega
   clear hm0 hacc2;go_wp2_with (go_at_call 167;refine HO.out.mono ?_;rintro e w2 ⟨rfl,hw2⟩;have HW2:Hid (Rd w2 q z (cG (m / 128)++t)∧an [some q] wr w2):=hw2;clear hw2)
   go_roundw
   case rel=>exact⟨5,34359738368,acc2,m / 128,by omega,rfl,rfl,⟨rfl,HN.out⟩,HW2.out.1,HI.out.2.trans HW2.out.2 fun i hi=>.inl hi⟩
   case measure=>simp[intOf]
  ·obtain rfl:pw=34359738368:=hpw;have hs:(acc:Int)+(md:Int)*34359738368=(acc2:Int):=by omega
   clear hm0 hacc2;go_wp2_with (go_at_call 167;refine HO.out.mono ?_;rintro e w2 ⟨rfl,hw2⟩;have HW2:Hid (Rd w2 q z (cG (m / 128)++t)∧an [some q] wr w2):=hw2;clear hw2)
   go_roundw
   case rel=>exact⟨6,4398046511104,acc2,m / 128,by omega,rfl,rfl,⟨rfl,HN.out⟩,HW2.out.1,HI.out.2.trans HW2.out.2 fun i hi=>.inl hi⟩
   case measure=>simp[intOf]
  ·obtain rfl:pw=4398046511104:=hpw;have hs:(acc:Int)+(md:Int)*4398046511104=(acc2:Int):=by omega
   clear hm0 hacc2;go_wp2_with (go_at_call 167;refine HO.out.mono ?_;rintro e w2 ⟨rfl,hw2⟩;have HW2:Hid (Rd w2 q z (cG (m / 128)++t)∧an [some q] wr w2):=hw2;clear hw2)
   go_roundw
   case rel=>exact⟨7,562949953421312,acc2,m / 128,by omega,rfl,rfl,⟨rfl,HN.out⟩,HW2.out.1,HI.out.2.trans HW2.out.2 fun i hi=>.inl hi⟩
   case measure=>simp[intOf]
  obtain rfl:pw=562949953421312:=hpw
  exfalso
  omega
theorem qb(q z a:Nat)(ha:a<5)(t:List UInt8)(w:World)(hr:Rd w q z (CA a::t)):Calls Tryz.prog 145 #[.pointer (some ⟨q,0,none⟩)] w fun e w'=>e=.returned (.int .i64 (a:Int))∧Rd w' q z t∧an [some q] w w':=by
 have HO:Hid (Calls Tryz.prog 167 #[.pointer (some ⟨q,0,none⟩)] w fun e w'=>e=.returned (.int .i64 (a:Int))∧Rd w' q z t∧an [some q] w w'):=oY (x:=CA a) (by rw[UInt8.toNat_ofNat'];omega) hr;have e1:¬ (5:Int)≤(a:Int):=by omega
 clear hr;go_enter Tryz.func145,Tryz.ntmps145
 go_wp2_with (go_at_call 167;refine HO.out.mono ?_;rintro e w2 ⟨rfl,hw2⟩;have HW2:Hid (Rd w2 q z t∧an [some q] w w2):=hw2;clear hw2)
 go_ret
 exact⟨rfl,HW2.out⟩
theorem tA(s:ByteArray):mT s.data.toList=s:=by
 cases s;simp[mT]
theorem zm(q z:Nat)(s:ByteArray)(hs:s.size<256)(t:List UInt8)(w:World)(hr:Rd w q z (CA s.size::(s.data.toList++t))):Calls Tryz.prog 147 #[.pointer (some ⟨q,0,none⟩)] w fun e w'=>e=.returned (.string s)∧Rd w' q z t∧an [some q] w w':=by
 have HO:Hid (Calls Tryz.prog 167 #[.pointer (some ⟨q,0,none⟩)] w fun e w'=>e=.returned (.int .i64 (s.size:Int))∧Rd w' q z (s.data.toList++t)∧an [some q] w w'):=oY (x:=CA s.size) (by rw[UInt8.toNat_ofNat'];omega) hr;have HT:Hid (∀W,Rd W q z (s.data.toList++t)→Calls Tryz.prog 168 #[.pointer (some ⟨q,0,none⟩),.int .i64 (s.size:Int)] W fun e w'=>∃off c,e=.returned (.slice (some ⟨z,off,none⟩) s.size c)∧(convert 55 9 (.slice (some ⟨z,off,none⟩) s.size c)).run Tryz.prog w'=.ok (.string s) w'∧Rd w' q z t∧an [some q] W w'):=fun W hW=>by
  have hl:s.data.toList.length=s.size:=Array.length_toList;refine(xR q z s.size (s.data.toList++t) (by rw[Cz];omega) W hW).mono ?_;rintro e w' ⟨off,c,h1,h2,h3,h4,h5,h6⟩
  rw[List.take_left' hl]at h3;rw[List.drop_left' hl]at h4
  refine⟨off,c,h1,?_,h4,h6⟩;have:=jt h3;rw[tA]at this
  exact this
 clear hr;go_enter Tryz.func147,Tryz.ntmps147
 go_wp2_with (first
  |(go_at_call 167;refine HO.out.mono ?_;rintro e w2 ⟨rfl,hw2⟩;have HW2:Hid (Rd w2 q z (s.data.toList++t)∧an [some q] w w2):=hw2;clear hw2)
  |(go_at_call 168;refine(HT.out _ HW2.out.1).mono ?_;rintro e w3 ⟨off,c,rfl,hcv,hw3⟩;have HW3:Hid (Rd w3 q z t∧an [some q] w2 w3):=hw3;clear hw3))
 go_ret
 exact⟨rfl,HW3.out.1,HW2.out.2.trans HW3.out.2 fun i hi=>.inl hi⟩
theorem Rd.upd(h:Rd w q z rest)(hu:an S w w')(hq:some q∉S)(hz:some z∉S):Rd w' q z rest:=by
 obtain⟨off,cap,h1,h2,h3,h4,h5⟩:=h;exact⟨off,cap,by rw[hu.block q (Cn.1 h1).1 hq];exact h1,h2,h3,h4,fun i x hx=>hu.cell (h5 i x hx) hz⟩
theorem Rd.below(h:Rd w q z rest)(hb:Below w.heap.size w w'):Rd w' q z rest:=h.upd (an.of_below (S:=[]) hb) (by simp) (by simp)
theorem yo(w:World)(q z a b h:Nat)(hz:z<w.heap.size)(ha:a<5)(hb:b<5)(hh:h<72057594037927936)(t:List UInt8)(hr:Rd w q z (eO a b h++t)):Calls Tryz.prog 106 #[.pointer (some ⟨q,0,none⟩)] w fun e w'=>e=.returned (.agg #[.int .i64 (a:Int),.int .i64 (b:Int),.int .i64 (h:Int),.slice none 0 0])∧Rd w' q z t∧an [some q] w w':=by
 have hql:=hr.lt;go_enter Tryz.func106,Tryz.ntmps106
 go_upto_region 1 with fail
 obtain⟨wa,hwa⟩:∃wa,w.alloc (.cells #[.int .i64 0,.int .i64 0,.int .i64 0,.slice none 0 0] 140)=wa:=⟨_,rfl⟩
 have hea:wa.heap[w.heap.size]?=some (.cells #[.int .i64 0,.int .i64 0,.int .i64 0,.slice none 0 0] 140 (0,0)):=by rw[←hwa];exact heap_alloc_new w _
 have HBA:Hid (Below w.heap.size w wa):=by show Below _ _ _;rw[←hwa];exact(Ck _ w).alloc (Cl _) _
 have hsa:wa.heap.size=w.heap.size+1:=by rw[←hwa];simp
 rw[hwa];clear hwa;have HEA:Hid (wa.heap[w.heap.size]?=some (.cells #[.int .i64 0,.int .i64 0,.int .i64 0,.slice none 0 0] 140 (0,0))):=hea;have HA:Hid (Rd wa q z (CA a::(CA b::(cG h++t)))):=hr.below HBA.out;have H1:Hid (∀W,Rd W q z (CA a::(CA b::(cG h++t)))→Calls Tryz.prog 145 #[.pointer (some ⟨q,0,none⟩)] W fun e w'=>e=.returned (.int .i64 (a:Int))∧Rd w' q z (CA b::(cG h++t))∧an [some q] W w'):=fun W hW=>qb q z a ha _ W hW
 have H2:Hid (∀W,Rd W q z (CA b::(cG h++t))→Calls Tryz.prog 145 #[.pointer (some ⟨q,0,none⟩)] W fun e w'=>e=.returned (.int .i64 (b:Int))∧Rd w' q z (cG h++t)∧an [some q] W w'):=fun W hW=>qb q z b hb _ W hW
 have H3:Hid (∀W,Rd W q z (cG h++t)→an [some q] wa W→Calls Tryz.prog 146 #[.pointer (some ⟨q,0,none⟩)] W fun e w'=>e=.returned (.int .i64 (h:Int))∧w'.heap[w.heap.size]?=some (.cells #[.int .i64 0,.int .i64 0,.int .i64 0,.slice none 0 0] 140 (0,0))∧Rd w' q z t∧an [some q] wa w'):=fun W hW hU=>by
  refine(sQ q z h hh _ W hW).mono ?_;rintro e w' ⟨h1,h2,h3⟩
  have h4:=hU.trans h3 fun i hi=>.inl hi
  refine⟨h1,?_,h2,h4⟩;rw[h4.block w.heap.size (by omega) (by simp;omega)];exact HEA.out
 clear hr hea;go_upto_region 2 with(first
  |(go_at_call 145;refine(H2.out _ HW2.out.1).mono ?_;rintro e w3 ⟨rfl,hw3⟩;have HW3:Hid (Rd w3 q z (cG h++t)∧an [some q] w2 w3):=hw3;clear hw3)
  |(go_at_call 145;refine(H1.out _ HA.out).mono ?_;rintro e w2 ⟨rfl,hw2⟩;have HW2:Hid (Rd w2 q z (CA b::(cG h++t))∧an [some q] wa w2):=hw2;clear hw2))
 have HU3:Hid (an [some q] wa w3):=HW2.out.2.trans HW3.out.2 fun i hi=>.inl hi
 go_wp2_with (go_at_call 146;refine(H3.out _ HW3.out.1 HU3.out).mono ?_;rintro e w4 ⟨rfl,hh4,hw4⟩;have HW4:Hid (Rd w4 q z t∧an [some q] wa w4):=hw4;clear hw4;have g0:=cell_of_heap hh4 (o:=0);have g1:=cell_of_heap hh4 (o:=1);have g2:=cell_of_heap hh4 (o:=2);have g3:=cell_of_heap hh4 (o:=3);have gf:=frozen_of_heap hh4;have HH4:Hid (w4.heap[w.heap.size]?=some (.cells #[.int .i64 0,.int .i64 0,.int .i64 0,.slice none 0 0] 140 (0,0))):=hh4;clear hh4)
 have HU4:Hid (an [some q] w w4):=(an.of_below (S:=[some q]) HBA.out).trans HW4.out.2 fun i hi=>.inl hi
 obtain⟨W,hW⟩:∃W,W=(((w4.setCell ⟨w.heap.size,0,none⟩ (.int .i64 (a:Int))).setCell ⟨w.heap.size,1,none⟩ (.int .i64 (b:Int))).setCell ⟨w.heap.size,2,none⟩ (.int .i64 (h:Int))).setCell ⟨w.heap.size,3,none⟩ (.slice none 0 0):=⟨_,rfl⟩
 rw[←hW];have hWh:W.heap[w.heap.size]?=some (.cells #[.int .i64 (a:Int),.int .i64 (b:Int),.int .i64 (h:Int),.slice none 0 0] 140 (0,0)):=by
  rw[hW,ae (ae (ae (ae HH4.out _) _) _) _]
  rfl
 have hUW:an [some w.heap.size] w4 W:=by
  rw[hW];exact((((an.refl _ _).setCell (.inl (by simp)) _).setCell (.inl (by simp)) _).setCell (.inl (by simp)) _).setCell (.inl (by simp)) _
 have k0:=cell_of_heap hWh 0;have k1:=cell_of_heap hWh 1;have k2:=cell_of_heap hWh 2;have k3:=cell_of_heap hWh 3;clear g0 g1 g2 g3;exact bodyPost_ret (v:=.agg #[.int .i64 (a:Int),.int .i64 (b:Int),.int .i64 (h:Int),.slice none 0 0]) (by simp[results,Tryz.results106,go_sem,k0,k1,k2,k3]) rfl ⟨rfl,HW4.out.1.upd hUW (by simp;omega) (by simp;omega),HU4.out.trans hUW fun i hi=>.inr (by simp at hi;omega)⟩
def restB(x:Rc)(T:List UInt8):Nat→List UInt8
 |0=>cG x.a++(cG x.b++(cG x.c++(cG x.d++(cG x.e++T))))
 |1=>cG x.b++(cG x.c++(cG x.d++(cG x.e++T)))
 |2=>cG x.c++(cG x.d++(cG x.e++T))
 |3=>cG x.d++(cG x.e++T)
 |4=>cG x.e++T
 |_=>T
theorem rI(x:Rc)(T:List UInt8)(hj:j<5):restB x T j=cG (x.get j)++restB x T (j+1):=by
 rcases(show j=0∨j=1∨j=2∨j=3∨j=4 by omega) with rfl|rfl|rfl|rfl|rfl <;> rfl
theorem uo(x:En)(t:List UInt8):cH x++t=restB x.ah (CA (aQ x.c).size::((aQ x.c).data.toList++t)) 0:=by
 simp[cH,eh,restB,List.range,List.range.loop,Rc.get]
def Rc.AA(x:Rc)(j:Nat):Rc:=⟨if 0<j then x.a else 0,if 1<j then x.b else 0,if 2<j then x.c else 0,if 3<j then x.d else 0,if 4<j then x.e else 0⟩
def Rc.cells(x:Rc):Array Value:=#[.int .i64 (x.a:Int),.int .i64 (x.b:Int),.int .i64 (x.c:Int),.int .i64 (x.d:Int),.int .i64 (x.e:Int)]
theorem Rc.A9(x:Rc)(hj:j<5):(x.AA j).cells.setIfInBounds j (.int .i64 (x.get j:Int))=(x.AA (j+1)).cells:=by
 rcases(show j=0∨j=1∨j=2∨j=3∨j=4 by omega) with rfl|rfl|rfl|rfl|rfl <;> rfl
theorem Rc.AS(x:Rc)(hj:j<5):x.cells[j]?=some (.int .i64 (x.get j:Int)):=by
 rcases(show j=0∨j=1∨j=2∨j=3∨j=4 by omega) with rfl|rfl|rfl|rfl|rfl <;> rfl
theorem yO(w:World)(q z:Nat)(x:En)(hz:z<w.heap.size)(hq0:0<q)(hlt:x.ah.lt 72057594037927936)(hseq:x.seq=x.ah.get x.org+1)(hrt:aY (aQ x.c)=some x.c)(hv:ba w)(t:List UInt8)(hr:Rd w q z (cH x++t)):Calls Tryz.prog 107 #[.pointer (some ⟨q,0,none⟩),.int .i64 (x.org:Int)] w fun e w'=>e=.returned x.val∧Rd w' q z t∧an [some q] w w':=by
 have hql:=hr.lt;rw[uo]at hr
 generalize hT:CA (aQ x.c).size::((aQ x.c).data.toList++t)=T at *;have HTT:Hid (CA (aQ x.c).size::((aQ x.c).data.toList++t)=T):=hT;clear hT;unfold En.val;go_enter Tryz.func107,Tryz.ntmps107
 go_upto_region 2 with fail
 obtain⟨wa,hwa⟩:∃wa,(w.alloc (.cells #[.int .i64 0,.int .i64 0,.int .i64 0,.int .i64 0,.int .i64 0,.int .i64 0,.int .i64 0,.int .i64 0,.string ⟨#[]⟩,.int .i64 0] 122)).alloc (.cells (x.ah.AA 0).cells 104)=wa:=⟨_,rfl⟩
 have HBA:Hid (Below w.heap.size w wa):=by show Below _ _ _;rw[←hwa];exact((Ck _ w).alloc (Cl _) _).alloc (by simp) _
 have HE0:Hid (wa.heap[w.heap.size]?=some (.cells #[.int .i64 0,.int .i64 0,.int .i64 0,.int .i64 0,.int .i64 0,.int .i64 0,.int .i64 0,.int .i64 0,.string ⟨#[]⟩,.int .i64 0] 122 (0,0))):=by show _=_;rw[←hwa,CF _ _ _ (by simp)];exact heap_alloc_new w _
 have HE1:Hid (wa.heap[w.heap.size+1]?=some (.cells (x.ah.AA 0).cells 104 (0,0))):=by
  show _=_
  rw[←hwa];have:=heap_alloc_new (w.alloc (.cells #[.int .i64 0,.int .i64 0,.int .i64 0,.int .i64 0,.int .i64 0,.int .i64 0,.int .i64 0,.int .i64 0,.string ⟨#[]⟩,.int .i64 0] 122)) (.cells (x.ah.AA 0).cells 104);simpa only[World.size_alloc] using this
 have hsa:wa.heap.size=w.heap.size+2:=by rw[←hwa];simp
 rw[show(.cells #[.int .i64 0,.int .i64 0,.int .i64 0,.int .i64 0,.int .i64 0] 104:Obj)=.cells (x.ah.AA 0).cells 104 from rfl,hwa];clear hwa;have HA:Hid (Rd wa q z (restB x.ah T 0)):=hr.below HBA.out;have HV:Hid (∀W,an [some q] w W→ba W):=fun W hW k=>hW.cell (hv k) (by simp;omega)
 clear hr hv;go_wp2
 go_loopw [9] (fun i wr=>∃j:Nat,j≤5∧i=.int .i64 j∧Hid (wr.heap[w.heap.size+1]?=some (.cells (x.ah.AA j).cells 104 (0,0))∧Rd wr q z (restB x.ah T j)∧wr.heap[w.heap.size]?=wa.heap[w.heap.size]?∧an [some q] w wr∧w.heap.size+2≤wr.heap.size)) (fun i _=>5-(intOf i).toNat)
 case atStart=>exact⟨0,by omega,rfl,HE1.out,HA.out,rfl,an.of_below HBA.out,by omega⟩
 case round =>
  obtain⟨j,hj,rfl,HI⟩:=hrel;by_cases hj5:j<5
  ·have hg:=Rc.AU hlt (by omega) j;have HN:Hid (Calls Tryz.prog 146 #[.pointer (some ⟨q,0,none⟩)] wr fun e w'=>e=.returned (.int .i64 (x.ah.get j:Int))∧(∃ov,w'.cell? ⟨w.heap.size+1,j,none⟩=some ov∧ov.oneCell'=true)∧w'.frozen? ⟨w.heap.size+1,j,none⟩=false∧w'.heap[w.heap.size+1]?=some (.cells (x.ah.AA j).cells 104 (0,0))∧Rd w' q z (restB x.ah T (j+1))∧w'.heap[w.heap.size]?=wa.heap[w.heap.size]?∧an [some q] w w'∧w.heap.size+2≤w'.heap.size):=by
    obtain⟨h1,h2,h3,h4,h5⟩:=HI.out;rw[rI x.ah T hj5]at h2
    refine(sQ q z (x.ah.get j) hg _ wr h2).mono ?_;rintro e w' ⟨e1,e2,e3⟩
    have hb1:w'.heap[w.heap.size+1]?=some (.cells (x.ah.AA j).cells 104 (0,0)):=by rw[e3.block _ (by omega) (by simp;omega)];exact h1
    refine⟨e1,⟨.int .i64 ((x.ah.AA j).get j:Int),?_,rfl⟩,frozen_of_heap hb1 j,hb1,e2,?_,h4.trans e3 fun i hi=>.inl hi,by have:=e3.size;omega⟩
    ·rw[cell_of_heap hb1,Rc.AS _ hj5]
    rw[e3.block _ (by omega) (by simp;omega)];exact h3
   have e5:((j:Int)<5)=True:=by simp;omega
   have j0:(0:Int)≤(j:Int):=by omega
   have HS:Hid ((x.ah.AA j).cells.setIfInBounds j (.int .i64 (x.ah.get j:Int))=(x.ah.AA (j+1)).cells):=Rc.A9 x.ah hj5;clear hg;generalize x.ah.get j=gj at *;go_wp2_with (go_at_call 146;refine HN.out.mono ?_;rintro e w2 ⟨rfl,⟨ov,hov,hov1⟩,hfz,hw2⟩;have HW2:Hid (w2.heap[w.heap.size+1]?=some (.cells (x.ah.AA j).cells 104 (0,0))∧Rd w2 q z (restB x.ah T (j+1))∧w2.heap[w.heap.size]?=wa.heap[w.heap.size]?∧an [some q] w w2∧w.heap.size+2≤w2.heap.size):=hw2;clear hw2)
   go_roundw
   case rel =>
    obtain⟨h1,h2,h3,h4,h5⟩:=HW2.out;have hu:an [some (w.heap.size+1)] w2 (w2.setCell ⟨w.heap.size+1,j,none⟩ (.int .i64 (gj:Int))):=(an.refl _ _).setCell (.inl (by simp)) _;refine⟨j+1,by omega,by simp,?_,h2.upd hu (by simp;omega) (by simp;omega),?_,h4.trans hu fun i hi=>.inr (by simp at hi;omega),by have:=hu.size;omega⟩
    ·rw[ae h1,HS.out]
    rw[hu.block _ (by omega) (by simp)];exact h3
   case measure=>simp[intOf];omega
  obtain rfl:j=5:=by omega
  have e5:(((5:Nat):Int)<5)=False:=by simp
  have hts:=gX x.hc;have HT:Hid (Calls Tryz.prog 147 #[.pointer (some ⟨q,0,none⟩)] wr fun e w'=>e=.returned (.string (aQ x.c))∧Rd w' q z t∧an [some q] wr w'):=zm q z (aQ x.c) (by omega) t wr (by have:=HI.out.2.1;rw[←HTT.out]at this;exact this);have HP:Hid (∀W,an [some q] w W→Calls Tryz.prog 46 #[.string (aQ x.c)] W fun e w'=>e=.returned (.tuple #[.agg #[.int .i64 (x.c.k.num:Int),.string x.c.word,.int .i64 (x.c.count:Int)],.bool true])∧Below W.heap.size W w'):=fun W hW=>by
   refine(gw (aQ x.c) W (by unfold maxLen;omega) (HV.out W hW)).mono ?_;rw[hrt];exact fun e w' h=>h
  clear hrt;generalize aQ x.c=tx at *;go_upto_region 8 with(first
   |(go_at_call 46;refine(HP.out _ HW2.out.2).mono ?_;rintro e w3 ⟨rfl,hw3⟩;have HW3:Hid (Below w2.heap.size w2 w3):=hw3;clear hw3)
   |(go_at_call 147;refine HT.out.mono ?_;rintro e w2 ⟨rfl,hw2⟩;have HW2:Hid (Rd w2 q z t∧an [some q] w w2):=⟨hw2.1,HI.out.2.2.2.1.trans hw2.2 fun i hi=>.inl hi⟩;have HW2':Hid (an [some q] wr w2):=hw2.2;clear hw2))
  obtain⟨w4,hw4⟩:∃w4,w3.alloc (.cells #[.int .i64 (x.c.k.num:Int),.string x.c.word,.int .i64 (x.c.count:Int)] 116)=w4:=⟨_,rfl⟩
  obtain⟨h1,h2,h3,h4,h5⟩:=HI.out;have hs2:=HW2'.out.size;have hs3:=HW3.out.size;have hb4:Below w3.heap.size w3 w4:=by rw[←hw4];exact(Ck _ w3).alloc (Cl _) _
  have h7:w4.heap[w3.heap.size]?=some (.cells #[.int .i64 (x.c.k.num:Int),.string x.c.word,.int .i64 (x.c.count:Int)] 116 (0,0)):=by rw[←hw4];exact heap_alloc_new w3 _
  have hu4:an [some q] wr w4:=(HW2'.out.below HW3.out).below hb4;have k1:w4.heap[w.heap.size+1]?=some (.cells x.ah.cells 104 (0,0)):=by rw[hu4.block _ (by omega) (by simp;omega),h1];rfl
  have k0:w4.heap[w.heap.size]?=some (.cells #[.int .i64 0,.int .i64 0,.int .i64 0,.int .i64 0,.int .i64 0,.int .i64 0,.int .i64 0,.int .i64 0,.string ⟨#[]⟩,.int .i64 0] 122 (0,0)):=by rw[hu4.block _ (by omega) (by simp;omega),h3];exact HE0.out
  have HR4:Hid (Rd w4 q z t∧an [some q] w w4∧w.heap.size+2≤w4.heap.size):=⟨(HW2.out.1.below HW3.out).below hb4,h4.trans hu4 (fun i hi=>.inl hi),by have:=hb4.size;omega⟩;rw[hw4];have hne:w.heap.size+2≤w3.heap.size:=by omega
  have hog:=x.ho;have o0:(0:Int)≤(x.org:Int):=by omega
  have o5:(x.org:Int)<5:=by omega
  have hsq:((x.ah.get x.org:Nat):Int)+1=(x.seq:Int):=by omega
  have hgl:=Rc.AU hlt (by omega) x.org;have co:w4.cell? ⟨w.heap.size+1,x.org,none⟩=some (.int .i64 (x.ah.get x.org:Int)):=by rw[cell_of_heap k1,Rc.AS _ hog]
  have b0:w4.cell? ⟨w.heap.size+1,0,none⟩=some (.int .i64 (x.ah.a:Int)):=cell_of_heap k1 _;have b1:w4.cell? ⟨w.heap.size+1,1,none⟩=some (.int .i64 (x.ah.b:Int)):=cell_of_heap k1 _;have b2:w4.cell? ⟨w.heap.size+1,2,none⟩=some (.int .i64 (x.ah.c:Int)):=cell_of_heap k1 _;have b3:w4.cell? ⟨w.heap.size+1,3,none⟩=some (.int .i64 (x.ah.d:Int)):=cell_of_heap k1 _;have b4:w4.cell? ⟨w.heap.size+1,4,none⟩=some (.int .i64 (x.ah.e:Int)):=cell_of_heap k1 _;have m0:w4.cell? ⟨w3.heap.size,0,none⟩=some (.int .i64 (x.c.k.num:Int)):=cell_of_heap h7 _;have m1:w4.cell? ⟨w3.heap.size,1,none⟩=some (.string x.c.word):=cell_of_heap h7 _;have m2:w4.cell? ⟨w3.heap.size,2,none⟩=some (.int .i64 (x.c.count:Int)):=cell_of_heap h7 _;have a0:w4.cell? ⟨w.heap.size,0,none⟩=some (.int .i64 0):=cell_of_heap k0 _;have a1:w4.cell? ⟨w.heap.size,1,none⟩=some (.int .i64 0):=cell_of_heap k0 _
  have a2:w4.cell? ⟨w.heap.size,2,none⟩=some (.int .i64 0):=cell_of_heap k0 _;have a3:w4.cell? ⟨w.heap.size,3,none⟩=some (.int .i64 0):=cell_of_heap k0 _;have a4:w4.cell? ⟨w.heap.size,4,none⟩=some (.int .i64 0):=cell_of_heap k0 _;have a5:w4.cell? ⟨w.heap.size,5,none⟩=some (.int .i64 0):=cell_of_heap k0 _;have a6:w4.cell? ⟨w.heap.size,6,none⟩=some (.int .i64 0):=cell_of_heap k0 _;have a7:w4.cell? ⟨w.heap.size,7,none⟩=some (.int .i64 0):=cell_of_heap k0 _;have a8:w4.cell? ⟨w.heap.size,8,none⟩=some (.string ⟨#[]⟩):=cell_of_heap k0 _;have a9:w4.cell? ⟨w.heap.size,9,none⟩=some (.int .i64 0):=cell_of_heap k0 _;have fz:∀o,w4.frozen? ⟨w.heap.size,o,none⟩=false:=frozen_of_heap k0
  have HK0:Hid (w4.heap[w.heap.size]?=some (.cells #[.int .i64 0,.int .i64 0,.int .i64 0,.int .i64 0,.int .i64 0,.int .i64 0,.int .i64 0,.int .i64 0,.string ⟨#[]⟩,.int .i64 0] 122 (0,0))):=k0;clear h1 h2 h3 h4 h5 hs2 hs3 hb4 h7 hu4 k1 k0 hw4 HW2 HW2' HW3 HT HP hts hlt hseq;go_upto_region 10 with fail
  go_region
  have hV0:an [some w.heap.size] w4 w4:=an.refl _ _;obtain⟨W0,hW0⟩:∃W,w4.setCell ⟨w.heap.size,0,none⟩ (.int .i64 (x.org:Int))=W:=⟨_,rfl⟩
  have hH0:W0.heap[w.heap.size]?=some (.cells #[.int .i64 (x.org:Int),.int .i64 0,.int .i64 0,.int .i64 0,.int .i64 0,.int .i64 0,.int .i64 0,.int .i64 0,.string ⟨#[]⟩,.int .i64 0] 122 (0,0)):=by rw[←hW0,ae HK0.out];rfl
  have hV1:an [some w.heap.size] w4 W0:=by rw[←hW0];exact hV0.setCell (.inl (by simp)) _
  rw[hW0];obtain⟨W1,hW1⟩:∃W,W0.setCell ⟨w.heap.size,1,none⟩ (.int .i64 (x.seq:Int))=W:=⟨_,rfl⟩
  have hH1:W1.heap[w.heap.size]?=some (.cells #[.int .i64 (x.org:Int),.int .i64 (x.seq:Int),.int .i64 0,.int .i64 0,.int .i64 0,.int .i64 0,.int .i64 0,.int .i64 0,.string ⟨#[]⟩,.int .i64 0] 122 (0,0)):=by rw[←hW1,ae hH0];rfl
  have hV2:an [some w.heap.size] w4 W1:=by rw[←hW1];exact hV1.setCell (.inl (by simp)) _
  rw[hW1];obtain⟨W2,hW2⟩:∃W,W1.setCell ⟨w.heap.size,2,none⟩ (.int .i64 (x.ah.a:Int))=W:=⟨_,rfl⟩
  have hH2:W2.heap[w.heap.size]?=some (.cells #[.int .i64 (x.org:Int),.int .i64 (x.seq:Int),.int .i64 (x.ah.a:Int),.int .i64 0,.int .i64 0,.int .i64 0,.int .i64 0,.int .i64 0,.string ⟨#[]⟩,.int .i64 0] 122 (0,0)):=by rw[←hW2,ae hH1];rfl
  have hV3:an [some w.heap.size] w4 W2:=by rw[←hW2];exact hV2.setCell (.inl (by simp)) _
  rw[hW2];obtain⟨W3,hW3⟩:∃W,W2.setCell ⟨w.heap.size,3,none⟩ (.int .i64 (x.ah.b:Int))=W:=⟨_,rfl⟩
  have hH3:W3.heap[w.heap.size]?=some (.cells #[.int .i64 (x.org:Int),.int .i64 (x.seq:Int),.int .i64 (x.ah.a:Int),.int .i64 (x.ah.b:Int),.int .i64 0,.int .i64 0,.int .i64 0,.int .i64 0,.string ⟨#[]⟩,.int .i64 0] 122 (0,0)):=by rw[←hW3,ae hH2];rfl
  have hV4:an [some w.heap.size] w4 W3:=by rw[←hW3];exact hV3.setCell (.inl (by simp)) _
  rw[hW3];obtain⟨W4,hW4⟩:∃W,W3.setCell ⟨w.heap.size,4,none⟩ (.int .i64 (x.ah.c:Int))=W:=⟨_,rfl⟩
  have hH4:W4.heap[w.heap.size]?=some (.cells #[.int .i64 (x.org:Int),.int .i64 (x.seq:Int),.int .i64 (x.ah.a:Int),.int .i64 (x.ah.b:Int),.int .i64 (x.ah.c:Int),.int .i64 0,.int .i64 0,.int .i64 0,.string ⟨#[]⟩,.int .i64 0] 122 (0,0)):=by rw[←hW4,ae hH3];rfl
  have hV5:an [some w.heap.size] w4 W4:=by rw[←hW4];exact hV4.setCell (.inl (by simp)) _
  rw[hW4];obtain⟨W5,hW5⟩:∃W,W4.setCell ⟨w.heap.size,5,none⟩ (.int .i64 (x.ah.d:Int))=W:=⟨_,rfl⟩
  have hH5:W5.heap[w.heap.size]?=some (.cells #[.int .i64 (x.org:Int),.int .i64 (x.seq:Int),.int .i64 (x.ah.a:Int),.int .i64 (x.ah.b:Int),.int .i64 (x.ah.c:Int),.int .i64 (x.ah.d:Int),.int .i64 0,.int .i64 0,.string ⟨#[]⟩,.int .i64 0] 122 (0,0)):=by rw[←hW5,ae hH4];rfl
  have hV6:an [some w.heap.size] w4 W5:=by rw[←hW5];exact hV5.setCell (.inl (by simp)) _
  rw[hW5];obtain⟨W6,hW6⟩:∃W,W5.setCell ⟨w.heap.size,6,none⟩ (.int .i64 (x.ah.e:Int))=W:=⟨_,rfl⟩
  have hH6:W6.heap[w.heap.size]?=some (.cells #[.int .i64 (x.org:Int),.int .i64 (x.seq:Int),.int .i64 (x.ah.a:Int),.int .i64 (x.ah.b:Int),.int .i64 (x.ah.c:Int),.int .i64 (x.ah.d:Int),.int .i64 (x.ah.e:Int),.int .i64 0,.string ⟨#[]⟩,.int .i64 0] 122 (0,0)):=by rw[←hW6,ae hH5];rfl
  have hV7:an [some w.heap.size] w4 W6:=by rw[←hW6];exact hV6.setCell (.inl (by simp)) _
  rw[hW6];obtain⟨W7,hW7⟩:∃W,W6.setCell ⟨w.heap.size,7,none⟩ (.int .i64 (x.c.k.num:Int))=W:=⟨_,rfl⟩
  have hH7:W7.heap[w.heap.size]?=some (.cells #[.int .i64 (x.org:Int),.int .i64 (x.seq:Int),.int .i64 (x.ah.a:Int),.int .i64 (x.ah.b:Int),.int .i64 (x.ah.c:Int),.int .i64 (x.ah.d:Int),.int .i64 (x.ah.e:Int),.int .i64 (x.c.k.num:Int),.string ⟨#[]⟩,.int .i64 0] 122 (0,0)):=by rw[←hW7,ae hH6];rfl
  have hV8:an [some w.heap.size] w4 W7:=by rw[←hW7];exact hV7.setCell (.inl (by simp)) _
  rw[hW7];obtain⟨W8,hW8⟩:∃W,W7.setCell ⟨w.heap.size,8,none⟩ (.string x.c.word)=W:=⟨_,rfl⟩
  have hH8:W8.heap[w.heap.size]?=some (.cells #[.int .i64 (x.org:Int),.int .i64 (x.seq:Int),.int .i64 (x.ah.a:Int),.int .i64 (x.ah.b:Int),.int .i64 (x.ah.c:Int),.int .i64 (x.ah.d:Int),.int .i64 (x.ah.e:Int),.int .i64 (x.c.k.num:Int),.string x.c.word,.int .i64 0] 122 (0,0)):=by rw[←hW8,ae hH7];rfl
  have hV9:an [some w.heap.size] w4 W8:=by rw[←hW8];exact hV8.setCell (.inl (by simp)) _
  rw[hW8];obtain⟨W9,hW9⟩:∃W,W8.setCell ⟨w.heap.size,9,none⟩ (.int .i64 (x.c.count:Int))=W:=⟨_,rfl⟩
  have hH9:W9.heap[w.heap.size]?=some (.cells #[.int .i64 (x.org:Int),.int .i64 (x.seq:Int),.int .i64 (x.ah.a:Int),.int .i64 (x.ah.b:Int),.int .i64 (x.ah.c:Int),.int .i64 (x.ah.d:Int),.int .i64 (x.ah.e:Int),.int .i64 (x.c.k.num:Int),.string x.c.word,.int .i64 (x.c.count:Int)] 122 (0,0)):=by rw[←hW9,ae hH8];rfl
  have hV10:an [some w.heap.size] w4 W9:=by rw[←hW9];exact hV9.setCell (.inl (by simp)) _
  rw[hW9];clear hW0 hW1 hW2 hW3 hW4 hW5 hW6 hW7 hW8 hW9 hH0 hH1 hH2 hH3 hH4 hH5 hH6 hH7 hH8 hV0 hV1 hV2 hV3 hV4 hV5 hV6 hV7 hV8 hV9;have hWd:W9.drew.heap[w.heap.size]?=some (.cells #[.int .i64 (x.org:Int),.int .i64 (x.seq:Int),.int .i64 (x.ah.a:Int),.int .i64 (x.ah.b:Int),.int .i64 (x.ah.c:Int),.int .i64 (x.ah.d:Int),.int .i64 (x.ah.e:Int),.int .i64 (x.c.k.num:Int),.string x.c.word,.int .i64 (x.c.count:Int)] 122 (0,0)):=hH9;have HF:Hid (Rd W9.drew q z t∧an [some q] w W9.drew):=⟨HR4.out.1.upd (an.drew hV10) (by simp;omega) (by simp;omega),HR4.out.2.1.trans (an.drew hV10) fun i hi=>.inr (by simp at hi;omega)⟩;clear hV10 a0 a1 a2 a3 a4 a5 a6 a7 a8 a9 fz co b0 b1 b2 b3 b4 m0 m1 m2;have n0:W9.drew.cell? ⟨w.heap.size,0,none⟩=some (.int .i64 (x.org:Int)):=cell_of_heap hWd _;have n1:W9.drew.cell? ⟨w.heap.size,1,none⟩=some (.int .i64 (x.seq:Int)):=cell_of_heap hWd _
  have n2:W9.drew.cell? ⟨w.heap.size,2,none⟩=some (.int .i64 (x.ah.a:Int)):=cell_of_heap hWd _;have n3:W9.drew.cell? ⟨w.heap.size,3,none⟩=some (.int .i64 (x.ah.b:Int)):=cell_of_heap hWd _;have n4:W9.drew.cell? ⟨w.heap.size,4,none⟩=some (.int .i64 (x.ah.c:Int)):=cell_of_heap hWd _;have n5:W9.drew.cell? ⟨w.heap.size,5,none⟩=some (.int .i64 (x.ah.d:Int)):=cell_of_heap hWd _;have n6:W9.drew.cell? ⟨w.heap.size,6,none⟩=some (.int .i64 (x.ah.e:Int)):=cell_of_heap hWd _;have n7:W9.drew.cell? ⟨w.heap.size,7,none⟩=some (.int .i64 (x.c.k.num:Int)):=cell_of_heap hWd _;have n8:W9.drew.cell? ⟨w.heap.size,8,none⟩=some (.string x.c.word):=cell_of_heap hWd _;have n9:W9.drew.cell? ⟨w.heap.size,9,none⟩=some (.int .i64 (x.c.count:Int)):=cell_of_heap hWd _;clear hWd hH9;generalize W9.drew=Wd at *;go_wp2
  exact bodyPost_ret (v:=.agg #[.int .i64 (x.org:Int),.int .i64 (x.seq:Int),.int .i64 (x.ah.a:Int),.int .i64 (x.ah.b:Int),.int .i64 (x.ah.c:Int),.int .i64 (x.ah.d:Int),.int .i64 (x.ah.e:Int),.int .i64 (x.c.k.num:Int),.string x.c.word,.int .i64 (x.c.count:Int)]) (by simp[results,Tryz.results107,go_sem,n0,n1,n2,n3,n4,n5,n6,n7,n8,n9]) rfl ⟨rfl,HF.out⟩
theorem tI(p:Option Addr)(cap:Nat)(f:List UInt8)(hcap:f.length≤cap)(hfl:f.length≤1000000000)(hm:cap≤9223372036854775807)(w:World)(hb:aM w (.slice p f.length cap) f)(hR:eS w)(hG:1<w.heap.size)(hok:okB f=false):Calls Tryz.prog 59 #[.slice p f.length cap] w fun e w'=>e=.returned (.tuple #[.agg #[.int .i64 0,.int .i64 0,.int .i64 0,.slice none 0 0],.bool false])∧Below w.heap.size w w':=by
 go_enter Tryz.func59,Tryz.ntmps59
 go_upto_region 1 with fail
 obtain⟨wa,hwa⟩:∃wa,w.alloc (.cells #[.int .i64 0,.int .i64 0,.int .i64 0,.slice none 0 0] 140)=wa:=⟨_,rfl⟩
 have hea:wa.heap[w.heap.size]?=some (.cells #[.int .i64 0,.int .i64 0,.int .i64 0,.slice none 0 0] 140 (0,0)):=by rw[←hwa];exact heap_alloc_new w _
 have HBA:Hid (Below w.heap.size w wa):=by show Below _ _ _;rw[←hwa];exact(Ck _ w).alloc (Cl _) _
 have hsa:wa.heap.size=w.heap.size+1:=by rw[←hwa];simp
 rw[hwa];clear hwa;have HU:Hid (Calls Tryz.prog 105 #[.slice p f.length cap] wa fun e w'=>∃v,e=.returned (.tuple #[v,.bool false])∧w'.heap[w.heap.size]?=some (.cells #[.int .i64 0,.int .i64 0,.int .i64 0,.slice none 0 0] 140 (0,0))∧Below w.heap.size w w'):=by
  refine(sJ p cap f hcap hfl hm wa ?_ (fun i hi=>(HBA.out.cell (p:=⟨1,i,none⟩) hG).trans (hR i hi)) (by omega)).mono ?_
  ·obtain⟨p',c',h1,h2⟩:=hb;exact⟨p',c',h1,fun i x hx=>by obtain⟨b',o',h3,h4⟩:=h2 i x hx;exact⟨b',o',h3,aa HBA.out h4⟩⟩
  rintro e w' ⟨v,h1,-,h3⟩
  rw[hok]at h1;exact⟨v,h1,by rw[h3.block _ (by omega)];exact hea,HBA.out.trans (h3.mono (by omega))⟩
 clear hb hR hea;go_wp2_with (go_at_call 105;refine HU.out.mono ?_;rintro e w2 ⟨v,rfl,hh4,hw2⟩;have HW2:Hid (Below w.heap.size w w2):=hw2;clear hw2;have g0:=cell_of_heap hh4 0;have g1:=cell_of_heap hh4 1;have g2:=cell_of_heap hh4 2;have g3:=cell_of_heap hh4 3;have gf:=frozen_of_heap hh4;clear hh4)
 exact bodyPost_ret (v:=.tuple #[.agg #[.int .i64 0,.int .i64 0,.int .i64 0,.slice none 0 0],.bool false]) (by simp[results,Tryz.results59,go_sem,g0,g1,g2,g3]) rfl ⟨rfl,(((HW2.out.setCell (by simp) _).setCell (by simp) _).setCell (by simp) _).setCell (by simp) _⟩
theorem Rd.kept(h:Rd w q z rest)(hu:an S w w')(hq:some q∉S)(hz:some z∉S):Rd w' q z rest:=by
 obtain⟨off,cap,h1,h2,h3,h4,h5⟩:=h;exact⟨off,cap,(hu.block q (Cn.1 h1).1 hq).trans h1,h2,h3,h4,fun i x hx=>hu.cell (h5 i x hx) hz⟩
theorem sX(es:List En):es.length≤(es.flatMap cH).length:=by
 induction es with
 |nil=>exact Cl _
 |cons x l ih=>rw[CV,Cz,List.length_cons];have:=jM x;omega
theorem readG_ok(z off cap:Nat)(f:List UInt8)(hcap:f.length≤cap)(hm:cap≤9223372036854775807)(w:World)(hb:aM w (.slice (some ⟨z,off,none⟩) f.length cap) f)(hzw:z<w.heap.size)(hR:eS w)(hG:1<w.heap.size)(hv:ba w)(hok:okB f=true)(a b h:Nat)(ha:a<5)(hb5:b<5)(hh:h<72057594037927936)(es:List En)(hbody:bP f=eO a b h++es.flatMap cH)(hes:∀x∈es,x.org=a∧x.ah.lt 72057594037927936∧x.seq=x.ah.get x.org+1∧aY (aQ x.c)=some x.c):Calls Tryz.prog 59 #[.slice (some ⟨z,off,none⟩) f.length cap] w fun e w'=>∃ev,e=.returned (.tuple #[.agg #[.int .i64 (a:Int),.int .i64 (b:Int),.int .i64 (h:Int),ev],.bool true])∧w'.ownsRow w.heap.size 122 10 ev es.length (aP es)∧Below w.heap.size w w':=by
 obtain⟨i3,hi3,hy0,hy1,hy2⟩:=info_parts Tryz.AE;have hl200:=((dy f).1 hok).2.1;have hl5:=((dy f).1 hok).1;have hes2:es.length≤200:=by
  have h1:=sX es;have h2:=iN hl5;rw[hbody,Cz]at h2
  omega
 go_enter Tryz.func59,Tryz.ntmps59
 go_upto_region 1 with fail
 obtain⟨wa,hwa⟩:∃wa,w.alloc (.cells #[.int .i64 0,.int .i64 0,.int .i64 0,.slice none 0 0] 140)=wa:=⟨_,rfl⟩
 have hea:wa.heap[w.heap.size]?=some (.cells #[.int .i64 0,.int .i64 0,.int .i64 0,.slice none 0 0] 140 (0,0)):=by rw[←hwa];exact heap_alloc_new w _
 have HBA:Hid (Below w.heap.size w wa):=by show Below _ _ _;rw[←hwa];exact(Ck _ w).alloc (Cl _) _
 have hsa:wa.heap.size=w.heap.size+1:=by rw[←hwa];simp
 rw[hwa];clear hwa;have HU:Hid (Calls Tryz.prog 105 #[.slice (some ⟨z,off,none⟩) f.length cap] wa fun e w'=>∃o c,e=.returned (.tuple #[.slice (some ⟨z,o,none⟩) (bP f).length c,.bool true])∧(bP f).length≤c∧aM w' (.slice (some ⟨z,o,none⟩) (bP f).length c) (bP f)∧c≤9223372036854775807∧w'.heap[w.heap.size]?=some (.cells #[.int .i64 0,.int .i64 0,.int .i64 0,.slice none 0 0] 140 (0,0))∧Below w.heap.size w w'):=by
  refine(sJ (some ⟨z,off,none⟩) cap f hcap (by omega) hm wa ?_ (fun i hi=>(HBA.out.cell (p:=⟨1,i,none⟩) hG).trans (hR i hi)) (by omega)).mono ?_
  ·obtain⟨p',c',h1,h2⟩:=hb;exact⟨p',c',h1,fun i x hx=>by obtain⟨b',o',h3,h4⟩:=h2 i x hx;exact⟨b',o',h3,aa HBA.out h4⟩⟩
  rintro e w' ⟨v,h1,h2,h3⟩
  rw[hok]at h1;obtain⟨⟨c,hvc,hcl,hcc⟩,hby⟩:=h2 hok;have hadd:(⟨z,off,none⟩:Addr).add 1=⟨z,off+1,none⟩:=by unfold Addr.add;split <;> simp_all
  rw[Option.map_some,hadd]at hvc;rw[hvc]at h1 hby
  refine⟨off+1,c,h1,hcl,?_,by omega,by rw[h3.block _ (by omega)];exact hea,HBA.out.trans (h3.mono (by omega))⟩;obtain⟨p',c',g1,g2⟩:=hby;exact⟨p',c',g1,fun i x hx=>by obtain⟨b',o',g3,g4⟩:=g2 i x hx;exact⟨b',o',g3,aa h3 g4⟩⟩
 have HBO:=hid hbody;clear hb hR hea hbody;go_upto_region 4 with(go_at_call 105;refine HU.out.mono ?_;rintro e w2 ⟨o,c,rfl,hc1,hbt,hc2,hh4,hw2⟩;have HW2:Hid (Below w.heap.size w w2∧aM w2 (.slice (some ⟨z,o,none⟩) (bP f).length c) (bP f)∧w2.heap[w.heap.size]?=some (.cells #[.int .i64 0,.int .i64 0,.int .i64 0,.slice none 0 0] 140 (0,0))):=⟨hw2,hbt,hh4⟩;clear hw2 hbt hh4)
 go_upto_region 5 with fail
 have hs2:=HW2.out.1.size;have hs2b:w.heap.size<w2.heap.size:=(Cn.1 HW2.out.2.2).1;obtain⟨w3,hw3⟩:∃w3,w2.alloc (.cells #[.slice (some ⟨z,o,none⟩) (bP f).length c,.bool false] 204)=w3:=⟨_,rfl⟩
 have hb3:Below w2.heap.size w2 w3:=by rw[←hw3];exact(Ck _ w2).alloc (Cl _) _
 have hs3:w3.heap.size=w2.heap.size+1:=by rw[←hw3];simp
 have hrd:Rd w3 w2.heap.size z (eO a b h++es.flatMap cH):=by
  rw[←HBO.out];refine⟨o,c,by rw[←hw3];exact heap_alloc_new w2 _,hc1,hc2,by omega,fun i x hx=>?_⟩;obtain⟨p',c',g1,g2⟩:=HW2.out.2.1;obtain⟨b',o',g3,g4⟩:=g2 i x hx;rw[g3]at g1
  simp only[Value.slice.injEq,Option.some.injEq,Addr.mk.injEq,and_true]at g1;obtain⟨⟨rfl,rfl⟩,-⟩:=g1;exact aa hb3 g4
 rw[hw3];clear hw3;have HH:Hid (Calls Tryz.prog 106 #[.pointer (some ⟨w2.heap.size,0,none⟩)] w3 fun e w'=>e=.returned (.agg #[.int .i64 (a:Int),.int .i64 (b:Int),.int .i64 (h:Int),.slice none 0 0])∧Rd w' w2.heap.size z (es.flatMap cH)∧an [some w2.heap.size] w3 w'):=yo w3 w2.heap.size z a b h (by omega) ha hb5 hh _ hrd;have HB3:Hid (Below w2.heap.size w2 w3):=hb3;clear hrd hb3;go_upto_region 6 with(go_at_call 106;refine HH.out.mono ?_;rintro e w4 ⟨rfl,hw4⟩;have HW4:Hid (Rd w4 w2.heap.size z (es.flatMap cH)∧an [some w2.heap.size] w3 w4):=hw4;clear hw4)
 obtain⟨w5,hw5⟩:∃w5,w4.alloc (.cells #[.int .i64 (a:Int),.int .i64 (b:Int),.int .i64 (h:Int),.slice none 0 0] 140)=w5:=⟨_,rfl⟩
 have hb5':Below w4.heap.size w4 w5:=by rw[←hw5];exact(Ck _ w4).alloc (Cl _) _
 have hs5:w5.heap.size=w4.heap.size+1:=by rw[←hw5];simp
 have hs4:=HW4.out.2.size;have HL5:Hid (w5.heap[w4.heap.size]?=some (.cells #[.int .i64 (a:Int),.int .i64 (b:Int),.int .i64 (h:Int),.slice none 0 0] 140 (0,0))):=by show _=_;rw[←hw5];exact heap_alloc_new w4 _
 have HR5:Hid (Rd w5 w2.heap.size z (es.flatMap cH)):=HW4.out.1.below hb5';have HU5:Hid (an [some w2.heap.size] w2 w5):=((an.of_below (S:=[some w2.heap.size]) HB3.out).trans HW4.out.2 fun i hi=>.inl hi).below hb5';rw[hw5];clear hw5 hb5';go_loopw [22] (fun _ wr=>∃(j:Nat) (ev:Value),j≤es.length∧Hid (wr.heap[w4.heap.size]?=some (.cells #[.int .i64 (a:Int),.int .i64 (b:Int),.int .i64 (h:Int),ev] 140 (0,0))∧wr.ownsRow (w4.heap.size+1) 122 10 ev j (aP (es.take j))∧Rd wr w2.heap.size z ((es.drop j).flatMap cH)∧an [] w2 wr)) (fun _ wr=>match wr.cell? ⟨w2.heap.size,0,none⟩ with|some (.slice _ n _)=>n|_=>0)
 case atStart=>exact⟨0,.slice none 0 0,Nat.zero_le _,HL5.out,⟨rfl,.inl ⟨rfl,rfl⟩⟩,HR5.out,⟨HU5.out.os,HU5.out.tape,HU5.out.output,HU5.out.size,fun k hk _=>HU5.out.block k hk (by simp;omega)⟩⟩
 case round =>
  obtain⟨j,ev,hj,HI⟩:=hrel;obtain⟨h1,h2,⟨ro,rc,r1,r2,r3,r4,r5⟩,h4⟩:=HI.out;have c0:wr.cell? ⟨w2.heap.size,0,none⟩=some (.slice (some ⟨z,ro,none⟩) ((es.drop j).flatMap cH).length rc):=cell_of_heap r1 _;have c1:wr.cell? ⟨w2.heap.size,1,none⟩=some (.bool false):=cell_of_heap r1 _;by_cases hlt:j<es.length
  ·obtain⟨pe,ce,hev⟩:=aW h2;subst hev;have hx:=hes es[j] (List.getElem_mem hlt);have HD:Hid (es.drop j=es[j]::es.drop (j+1)):=List.drop_eq_getElem_cons hlt;have HT:Hid (aP (es.take (j+1))=aP (es.take j)++[.int .i64 (es[j].org:Int),.int .i64 (es[j].seq:Int),.int .i64 (es[j].ah.a:Int),.int .i64 (es[j].ah.b:Int),.int .i64 (es[j].ah.c:Int),.int .i64 (es[j].ah.d:Int),.int .i64 (es[j].ah.e:Int),.int .i64 (es[j].c.k.num:Int),.string es[j].c.word,.int .i64 (es[j].c.count:Int)]):=by show _=_;rw[cF es j hlt];exact jq _ _
   have h9:0<((es.drop j).flatMap cH).length:=by rw[HD.out,CV,Cz];have:=jM es[j];omega
   have hpos:(0:Int)<(((es.drop j).flatMap cH).length:Int):=by omega
   have hw4r:w4.heap.size<wr.heap.size:=(Cn.1 h1).1;have hvr:ba wr:=fun k=>h4.cell (HW2.out.1.cell (p:=⟨0,k.num,none⟩) (by show 0<w.heap.size;omega) ▸ hv k) (by simp)
   have HEN:Hid (Calls Tryz.prog 107 #[.pointer (some ⟨w2.heap.size,0,none⟩),.int .i64 (a:Int)] wr.drew fun e w'=>e=.returned es[j].val∧w'.cell? ⟨w4.heap.size,3,none⟩=some (.slice pe j ce)∧w'.frozen? ⟨w4.heap.size,3,none⟩=false∧w'.cell? ⟨w4.heap.size,0,none⟩=some (.int .i64 (a:Int))∧w'.ownsRow (w4.heap.size+1) 122 10 (.slice pe j ce) j (aP (es.take j))∧Rd w' w2.heap.size z ((es.drop (j+1)).flatMap cH)∧an [some w2.heap.size] wr w'):=by
    have hrd:Rd wr w2.heap.size z (cH es[j]++(es.drop (j+1)).flatMap cH):=by have:=(⟨ro,rc,r1,r2,r3,r4,r5⟩:Rd wr w2.heap.size z ((es.drop j).flatMap cH));rwa[HD.out,CV]at this
    have:=yO wr.drew w2.heap.size z es[j] (by show z<wr.heap.size;omega) (by omega) hx.2.1 hx.2.2.1 hx.2.2.2 hvr _ hrd;rw[hx.1]at this
    refine this.mono ?_;rintro e w' ⟨e1,e2,e3⟩
    have e3':an [some w2.heap.size] wr w':=⟨e3.os,e3.tape,e3.output,e3.size,e3.block⟩;have hl:w'.heap[w4.heap.size]?=some (.cells #[.int .i64 (a:Int),.int .i64 (b:Int),.int .i64 (h:Int),.slice pe j ce] 140 (0,0)):=by rw[e3'.block _ hw4r (by simp;omega)];exact h1
    exact⟨e1,by rw[cell_of_heap hl];rfl,frozen_of_heap hl 3,by rw[cell_of_heap hl];rfl,e3'.owns h2 fun k hk hmem=>by have:=aU h2 hk;simp at hmem;omega,e2,e3'⟩
   unfold En.val at HEN;have l0:wr.cell? ⟨w4.heap.size,0,none⟩=some (.int .i64 (a:Int)):=cell_of_heap h1 _;have l3:wr.cell? ⟨w4.heap.size,3,none⟩=some (.slice pe j ce):=cell_of_heap h1 _;have hne:(Value.slice pe j ce).ownBlock≠some w4.heap.size:=fun e=>by have:=aU h2 e;omega
   have H1:Hid (wr.heap[w4.heap.size]?=some (.cells #[.int .i64 (a:Int),.int .i64 (b:Int),.int .i64 (h:Int),.slice pe j ce] 140 (0,0))∧an [] w2 wr):=⟨h1,h4⟩;have HPE:Hid (∀k,(Value.slice pe j ce).ownBlock=some k→w4.heap.size+1≤k):=fun k hk=>aU h2 hk
   clear h1 h2 h4 r1 r2 r5 h9 hx hvr HI;generalize es[j]=x at *;have hje:j≤200:=by omega
   have HDL:Hid (((es.drop (j+1)).flatMap cH).length<((es.drop j).flatMap cH).length):=by show _<_;rw[HD.out,CV,Cz];have:=jM x;omega
   generalize ((es.drop j).flatMap cH).length=rl at *;have HC0:Hid (wr.cell? ⟨w2.heap.size,0,none⟩=some (.slice (some ⟨z,ro,none⟩) rl rc)):=c0;have hzs:z<w2.heap.size:=by omega
   have HEND:Hid (∀(w6 w7:World) (g7 cap7:Nat),(w6.ownsRow (w4.heap.size+1) 122 10 (.slice pe j ce) j (aP (es.take j))∧Rd w6 w2.heap.size z ((es.drop (j+1)).flatMap cH)∧an [some w2.heap.size] wr w6)→w7.ownsRow (w4.heap.size+1) 122 10 (.slice (some ⟨g7,0,none⟩) (j+1) cap7) (j+1) (aP (es.take j)++[.int .i64 (x.org:Int),.int .i64 (x.seq:Int),.int .i64 (x.ah.a:Int),.int .i64 (x.ah.b:Int),.int .i64 (x.ah.c:Int),.int .i64 (x.ah.d:Int),.int .i64 (x.ah.e:Int),.int .i64 (x.c.k.num:Int),.string x.c.word,.int .i64 (x.c.count:Int)])→(w6.alloc (.cells #[.int .i64 (x.org:Int),.int .i64 (x.seq:Int),.int .i64 (x.ah.a:Int),.int .i64 (x.ah.b:Int),.int .i64 (x.ah.c:Int),.int .i64 (x.ah.d:Int),.int .i64 (x.ah.e:Int),.int .i64 (x.c.k.num:Int),.string x.c.word,.int .i64 (x.c.count:Int)] 122)).grownBy w7 (Value.slice pe j ce).ownBlock→(j+1≤es.length∧Hid ((w7.setCell ⟨w4.heap.size,3,none⟩ (.slice (some ⟨g7,0,none⟩) (j+1) cap7)).heap[w4.heap.size]?=some (.cells #[.int .i64 (a:Int),.int .i64 (b:Int),.int .i64 (h:Int),.slice (some ⟨g7,0,none⟩) (j+1) cap7] 140 (0,0))∧(w7.setCell ⟨w4.heap.size,3,none⟩ (.slice (some ⟨g7,0,none⟩) (j+1) cap7)).ownsRow (w4.heap.size+1) 122 10 (.slice (some ⟨g7,0,none⟩) (j+1) cap7) (j+1) (aP (es.take (j+1)))∧Rd (w7.setCell ⟨w4.heap.size,3,none⟩ (.slice (some ⟨g7,0,none⟩) (j+1) cap7)) w2.heap.size z ((es.drop (j+1)).flatMap cH)∧an [] w2 (w7.setCell ⟨w4.heap.size,3,none⟩ (.slice (some ⟨g7,0,none⟩) (j+1) cap7))))∧(match (w7.setCell ⟨w4.heap.size,3,none⟩ (.slice (some ⟨g7,0,none⟩) (j+1) cap7)).cell? ⟨w2.heap.size,0,none⟩ with|some (.slice _ n _)=>n|_=>0)<rl):=fun w6 w7 g7 cap7 q6 q7 g=>by
    obtain⟨a1,a2,a3⟩:=q6;have hs6:=a3.size;have u7:an [(Value.slice pe j ce).ownBlock] w6 w7:=((an.refl _ w6).alloc _).grown g fun k hk=>.inl (by simp[hk])
    have hg7:=aU q7 (b:=g7) rfl;have l7:w7.heap[w4.heap.size]?=some (.cells #[.int .i64 (a:Int),.int .i64 (b:Int),.int .i64 (h:Int),.slice pe j ce] 140 (0,0)):=by
     rw[u7.block _ (by omega) (fun hm=>by simp only[Co,Cq,or_false]at hm;have:=HPE.out _ hm.symm;omega),a3.block _ hw4r (by simp;omega)];exact H1.out.1
    have r7:Rd (w7.setCell ⟨w4.heap.size,3,none⟩ (.slice (some ⟨g7,0,none⟩) (j+1) cap7)) w2.heap.size z ((es.drop (j+1)).flatMap cH):=by
     have r0:=a2.kept u7 (fun hm=>by simp only[Co,Cq,or_false]at hm;have:=HPE.out _ hm.symm;omega) (fun hm=>by simp only[Co,Cq,or_false]at hm;have:=HPE.out _ hm.symm;omega);exact r0.kept (S:=[some w4.heap.size]) ((an.refl _ w7).setCell (.inl (by simp)) _) (by simp;omega) (by simp;omega)
    have uf:an [] w2 (w7.setCell ⟨w4.heap.size,3,none⟩ (.slice (some ⟨g7,0,none⟩) (j+1) cap7)):=by
     have v1:an [] w2 w6:=H1.out.2.trans a3 fun i hi=>.inr (by simp at hi;omega)
     have v2:an [] w2 w7:=v1.trans u7 fun i hi=>.inr (by simp only[Co,Cq,or_false]at hi;have:=HPE.out _ hi.symm;omega)
     exact v2.setCell (.inr (by show w2.heap.size≤w4.heap.size;omega)) _
    refine⟨⟨by omega,?_,?_,r7,uf⟩,?_⟩
    ·rw[ae l7];rfl
    ·rw[HT.out];exact ai q7 (fun b hb=>by cases hb;show g7≠w4.heap.size;omega) _
    obtain⟨off7,cp7,h17,-⟩:=r7;rw[cell_of_heap h17];exact HDL.out
   go_upto_region 7 with fail
   have hxo:=x.ho;go_region_law (first
     |(rw[if_pos (by rfl)];(try dsimp only[List.getElem_toArray,List.getElem_cons_zero,List.getElem_cons_succ]);go_simp;refine HEN.out.mono ?_;rintro e w6 ⟨rfl,k3,kf,k0,ho6,hr6⟩;have HO6:Hid (w6.ownsRow (w4.heap.size+1) 122 10 (.slice pe j ce) j (aP (es.take j))∧Rd w6 w2.heap.size z ((es.drop (j+1)).flatMap cH)∧an [some w2.heap.size] wr w6):=⟨ho6,hr6⟩;have hs6:=hr6.2.size;clear ho6 hr6;have ka:∀o,(w6.alloc o).cell? ⟨w4.heap.size,3,none⟩=some (.slice pe j ce):=fun o=>(CE (a:=⟨w4.heap.size,3,none⟩) (CF w6 o w4.heap.size (by omega))).trans k3)
     |(refine step_append_lies _ (by rfl) _ _ _ (by rfl) (w4.heap.size+1) 122 i3 _ 10 88 Tryz.underlying101 hi3 hy0 hy1 hy2 rfl (by omega) (.slice pe j ce) j (aP (es.take j)) (by rfl) ((an.alloc (an.refl [] w6) _).owns HO6.out.1 (by simp)) ⟨w6.heap.size,0,none⟩ 1 1 [.int .i64 (x.org:Int),.int .i64 (x.seq:Int),.int .i64 (x.ah.a:Int),.int .i64 (x.ah.b:Int),.int .i64 (x.ah.c:Int),.int .i64 (x.ah.d:Int),.int .i64 (x.ah.e:Int),.int .i64 (x.c.k.num:Int),.string x.c.word,.int .i64 (x.c.count:Int)] (by rfl) (by rfl) (World.news_of_block (heap_alloc_new w6 _)) (by simp[Value.oneCell']) (by omega) (by unfold maxLen;omega) (by omega) (by simp;omega) (w6.heap.size+1) (by simp) ?_;intro g7 cap7 w7 ho7 hg7 hat7 hlt7;have s3:w7.cell? ⟨w4.heap.size,3,none⟩=some (.slice pe j ce):=(hg7.cell_far ⟨w4.heap.size,3,none⟩ (by first|(simp;done)|(simp;omega)) (Ne.symm hne)).trans ((CE (a:=⟨w4.heap.size,3,none⟩) (CF w6 _ w4.heap.size (by omega))).trans k3);have sf:w7.frozen? ⟨w4.heap.size,3,none⟩=false:=(hg7.frozen_far ⟨w4.heap.size,3,none⟩ (by first|(simp;done)|(simp;omega)) (Ne.symm hne)).trans ((World.frozen?_of_block (a:=⟨w4.heap.size,3,none⟩) (CF w6 _ w4.heap.size (by omega))).trans kf)))
   all_goals obtain⟨R,M⟩:=HEND.out _ _ _ _ HO6.out ho7 hg7
   all_goals go_wp2
   all_goals
    go_roundw
    case rel=>exact⟨j+1,_,R⟩
    case measure=>(try rw[c0]);exact M
  obtain rfl:j=es.length:=by omega
  have hd0:((es.drop es.length).flatMap cH).length=0:=by simp
  rw[hd0]at c0;rw[List.take_length]at h2
  have k0:wr.heap[w.heap.size]?=some (.cells #[.int .i64 0,.int .i64 0,.int .i64 0,.slice none 0 0] 140 (0,0)):=by rw[h4.block _ hs2b (by simp)];exact HW2.out.2.2
  obtain⟨pv,cv,hev⟩:=aW h2;subst hev;have l0:wr.cell? ⟨w4.heap.size,0,none⟩=some (.int .i64 (a:Int)):=cell_of_heap h1 _;have l1:wr.cell? ⟨w4.heap.size,1,none⟩=some (.int .i64 (b:Int)):=cell_of_heap h1 _;have l2:wr.cell? ⟨w4.heap.size,2,none⟩=some (.int .i64 (h:Int)):=cell_of_heap h1 _;have l3:wr.cell? ⟨w4.heap.size,3,none⟩=some (.slice pv es.length cv):=cell_of_heap h1 _;have z0:wr.cell? ⟨w.heap.size,0,none⟩=some (.int .i64 0):=cell_of_heap k0 _;have z1:wr.cell? ⟨w.heap.size,1,none⟩=some (.int .i64 0):=cell_of_heap k0 _;have z2:wr.cell? ⟨w.heap.size,2,none⟩=some (.int .i64 0):=cell_of_heap k0 _;have z3:wr.cell? ⟨w.heap.size,3,none⟩=some (.slice none 0 0):=cell_of_heap k0 _;have zf:=frozen_of_heap k0;have HO:Hid (wr.ownsRow (w4.heap.size+1) 122 10 (.slice pv es.length cv) es.length (aP es)):=h2
  have HB:Hid (Below w.heap.size w wr):=HW2.out.1.trans ⟨h4.os,h4.tape,h4.output,h4.size,fun k hk=>h4.block k (by omega) (by simp)⟩;clear h1 h2 h4 r1 r5 k0;go_wp2
  have hU4:∀v0 v1 v2 v3,an [some w.heap.size] wr ((((wr.setCell ⟨w.heap.size,0,none⟩ v0).setCell ⟨w.heap.size,1,none⟩ v1).setCell ⟨w.heap.size,2,none⟩ v2).setCell ⟨w.heap.size,3,none⟩ v3):=fun v0 v1 v2 v3=>((((an.refl _ _).setCell (.inl (by simp)) _).setCell (.inl (by simp)) _).setCell (.inl (by simp)) _).setCell (.inl (by simp)) _
  exact bodyPost_ret (v:=.tuple #[.agg #[.int .i64 (a:Int),.int .i64 (b:Int),.int .i64 (h:Int),.slice pv es.length cv],.bool true]) (by simp[results,Tryz.results59,go_sem,z0,z1,z2,z3]) rfl ⟨_,rfl,dc ((hU4 _ _ _ _).owns HO.out fun k hk hmem=>by have:=aU HO.out hk;simp at hmem;omega) (by omega),(((HB.out.setCell (by simp) _).setCell (by simp) _).setCell (by simp) _).setCell (by simp) _⟩
end Go.Proofs.YtckmppkdpnhodaaGreatDoor
