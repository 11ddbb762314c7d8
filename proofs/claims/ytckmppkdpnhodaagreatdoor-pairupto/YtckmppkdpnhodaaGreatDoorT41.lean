import Derived.Test.YtckmppkdpnhodaaGreatDoorT09
import Derived.Deep.Cut
import Derived.Test.YtckmppkdpnhodaaGreatDoorT00
set_option maxRecDepth 100000
set_option maxHeartbeats 8000000
set_option linter.unusedVariables false
set_option linter.unusedSimpArgs false
open List renaming getElem?_eq_getElem→Cr
namespace Go.Proofs.YtckmppkdpnhodaaGreatDoor
open Go.RowKit
def zE:ByteArray:=⟨#[110,111,116,101,32,101,110,100]⟩
def vI:ByteArray:=⟨#[110,111,116,101,32,111,116,104,101,114]⟩
def ql(n:Int)(m:Nat):Int:=wrap64 (n+(m:Int))
theorem zu{w:World}{n:Int}{p1 p2:Option Addr}{cap1 cap2:Nat}{s1 s2:List Sp}(hn : -9223372036854775808≤n∧n≤9223372036854775807)(hl1:s1.length≤1000000000)(hl2:s2.length≤1000000000){N2:Nat}(hN2:∀W,Calls Tryz.prog 14 #[.int .i64 (ql n s2.length)] W fun e w'=>e=.returned (.int .i64 (N2:Int))∧w'=W)(B1:Nat→World→Prop)(I H:Nat→Nat→Nat→World→Prop)(E1 E2 E3:Nat→Nat→World→Prop)(J:World→Prop)(hB1:Calls Tryz.prog 13 #[.int .i64 ((2+aE n 4:Nat):Int),.bool true] w fun e w'=>∃xb,e=.returned (.pointer (some ⟨xb,0,none⟩))∧B1 xb w')(hB2:∀xb W,B1 xb W→Calls Tryz.prog 13 #[.int .i64 (N2:Int),.bool true] W fun e w'=>∃yb,e=.returned (.pointer (some ⟨yb,0,none⟩))∧I 0 xb yb w')(hS1:∀k xb yb W,I k xb yb W→dF W p1 s1)(hS2:∀k xb yb W,H k xb yb W→dF W p2 s2)(hX:∀k xb yb W (h:k<s1.length),I k xb yb W→Calls Tryz.prog 15 #[.pointer (some ⟨xb,0,none⟩),s1[k].val] W fun e w'=>e=.returned (.bool true)∧H k xb yb w')(hX':∀k xb yb W,¬ k<s1.length→I k xb yb W→H k xb yb W)(hY:∀k xb yb W (h:k<s2.length),H k xb yb W→Calls Tryz.prog 15 #[.pointer (some ⟨yb,0,none⟩),s2[k].val] W fun e w'=>e=.returned (.bool true)∧I (k+1) xb yb w')(hY':∀k xb yb W,¬ k<s2.length→H k xb yb W→I (k+1) xb yb W)(hD1:∀xb yb W,I (max s1.length s2.length) xb yb W→Calls Tryz.prog 16 #[.pointer (some ⟨xb,0,none⟩),.int .i64 0,.string zE] W fun e w'=>e=.returned (.bool true)∧E1 xb yb w')(hR1:∀xb yb W,E1 xb yb W→Calls Tryz.prog 17 #[.pointer (some ⟨xb,0,none⟩)] W fun e w'=>e=.returned (.bool true)∧E2 xb yb w')(hD2:∀xb yb W,E2 xb yb W→Calls Tryz.prog 16 #[.pointer (some ⟨yb,0,none⟩),.int .i64 0,.string vI] W fun e w'=>e=.returned (.bool true)∧E3 xb yb w')(hR2:∀xb yb W,E3 xb yb W→Calls Tryz.prog 17 #[.pointer (some ⟨yb,0,none⟩)] W fun e w'=>e=.returned (.bool true)∧J w'):Calls Tryz.prog 5 #[.int .i64 n,.slice p1 s1.length cap1,.slice p2 s2.length cap2] w fun e w'=>e=.returned (.bool true)∧J w':=by
 have HB1:=hid hB1;have HB2:=hB2;replace HB2:Hid _:=HB2;have HS1:=hS1;replace HS1:Hid _:=HS1;have HS2:=hS2;replace HS2:Hid _:=HS2;have HX:=hX;replace HX:Hid _:=HX;have HX':=hX';replace HX':Hid _:=HX';have HY:=hY;replace HY:Hid _:=HY;have HY':=hY';replace HY':Hid _:=HY';have HD1:Hid (∀xb yb W,I (max s1.length s2.length) xb yb W→Calls Tryz.prog 16 #[.pointer (some ⟨xb,0,none⟩),.int .i64 0,.string ⟨#[110,111,116,101,32,101,110,100]⟩] W fun e w'=>e=.returned (.bool true)∧E1 xb yb w'):=hD1;have HR1:=hR1;replace HR1:Hid _:=HR1;have HD2:Hid (∀xb yb W,E2 xb yb W→Calls Tryz.prog 16 #[.pointer (some ⟨yb,0,none⟩),.int .i64 0,.string ⟨#[110,111,116,101,32,111,116,104,101,114]⟩] W fun e w'=>e=.returned (.bool true)∧E3 xb yb w'):=hD2;have HR2:=hR2;replace HR2:Hid _:=HR2
 have HN:Hid (∀W,Calls Tryz.prog 14 #[.int .i64 n] W fun e w'=>e=.returned (.int .i64 ((2+aE n 4:Nat):Int))∧w'=W):=fun W=>kl n W hn
 have HN2:Hid (∀W,Calls Tryz.prog 14 #[.int .i64 (wrap64 (n+(s2.length:Int)))] W fun e w'=>e=.returned (.int .i64 (N2:Int))∧w'=W):=hN2;clear hB1 hB2 hS1 hS2 hX hX' hY hY' hD1 hR1 hD2 hR2 hN2;generalize 2+aE n 4=N at *;obtain⟨M,hM⟩:∃M,M=max s1.length s2.length:=⟨_,rfl⟩
 rw[←hM]at HD1;have hM1:s1.length≤M:=by omega
 have hM2:s2.length≤M:=by omega
 have hM3:∀k,¬ k<s1.length→¬ k<s2.length→k≤M→k=M:=fun k h1 h2 h3=>by omega
 have HM:Hid (∀k,¬ k<s1.length→¬ k<s2.length→k≤M→k=M):=hM3;have hM4:M≤1000000000:=by omega
 clear hM hM3;go_enter Tryz.func5,Tryz.ntmps5
 go_upto_region 2 with(first
  |(go_at_call 14;refine(HN.out _).mono ?_;rintro e w' ⟨rfl,rfl⟩)
  |(go_at_call 13;refine HB1.out.mono ?_;rintro e w1 ⟨xb,rfl,hb1⟩))
 have HBX:Hid (Calls Tryz.prog 13 #[.int .i64 (N2:Int),.bool true] w1 fun e w'=>∃yb,e=.returned (.pointer (some ⟨yb,0,none⟩))∧I 0 xb yb w'):=HB2.out xb w1 hb1;go_wp2_with (first
  |(go_at_call 14;refine(HN2.out _).mono ?_;rintro e w' ⟨rfl,rfl⟩)
  |(go_at_call 13;refine HBX.out.mono ?_;rintro e w2 ⟨yb,rfl,hI0⟩))
 clear HBX HB1 HB2 HN HN2 hb1;go_loopw [9,10] (fun ok i wr=>∃k:Nat,k≤M∧ok=.bool true∧i=.int .i64 k∧Hid (I k xb yb wr)) (fun _ i _=>M-(intOf i).toNat)
 case atStart=>exact⟨0,Nat.zero_le _,rfl,rfl,hI0⟩
 case round =>
  obtain⟨k,hk,rfl,rfl,hI⟩:=hrel;clear hI0;by_cases hlt1:k<s1.length
  ·obtain⟨b,off,rfl,c0,c1,c2,c3,c4⟩:=HS1.out k xb yb wr hI.out k s1[k] (Cr hlt1);have HST:Hid (Calls Tryz.prog 15 #[.pointer (some ⟨xb,0,none⟩),.agg #[.int .i64 s1[k].K,.int .i64 s1[k].A,.int .i64 s1[k].B,.int .i64 s1[k].C,.string s1[k].S]] wr fun e w'=>e=.returned (.bool true)∧H k xb yb w'):=HX.out k xb yb wr hlt1 hI.out;by_cases hlt2:k<s2.length
   ·have HSY:Hid (∀W,H k xb yb W→Calls Tryz.prog 15 #[.pointer (some ⟨yb,0,none⟩),.agg #[.int .i64 s2[k].K,.int .i64 s2[k].A,.int .i64 s2[k].B,.int .i64 s2[k].C,.string s2[k].S]] W fun e w'=>e=.returned (.bool true)∧I (k+1) xb yb w'):=fun W hH=>HY.out k xb yb W hlt2 hH
    have HC2:Hid (∀W,H k xb yb W→∃b off,p2=some ⟨b,off,none⟩∧W.cell? ⟨b,off+k*5,none⟩=some (.int .i64 s2[k].K)∧W.cell? ⟨b,off+k*5+1,none⟩=some (.int .i64 s2[k].A)∧W.cell? ⟨b,off+k*5+2,none⟩=some (.int .i64 s2[k].B)∧W.cell? ⟨b,off+k*5+3,none⟩=some (.int .i64 s2[k].C)∧W.cell? ⟨b,off+k*5+4,none⟩=some (.string s2[k].S)):=fun W hH=>HS2.out k xb yb W hH k s2[k] (Cr hlt2)
    generalize s1[k]=o at *;obtain⟨oK,oA,oB,oC,oS⟩:=o;generalize s2[k]=q at *;obtain⟨qK,qA,qB,qC,qS⟩:=q;simp only at c0 c1 c2 c3 c4 HST HSY HC2;go_upto_region 11 with(first
     |(go_at_call 15;refine HST.out.mono ?_;rintro e w4 ⟨rfl,hH⟩;obtain⟨b',off',rfl,d0,d1,d2,d3,d4⟩:=HC2.out w4 hH;have HSZ:Hid (Calls Tryz.prog 15 #[.pointer (some ⟨yb,0,none⟩),.agg #[.int .i64 qK,.int .i64 qA,.int .i64 qB,.int .i64 qC,.string qS]] w4 fun e w'=>e=.returned (.bool true)∧I (k+1) xb yb w'):=HSY.out w4 hH))
    clear HST HSY;go_wp2_with (first
     |(go_at_call 15;refine HSZ.out.mono ?_;rintro e w5 ⟨rfl,hI5⟩))
    go_roundw
    case rel=>exact⟨k+1,by omega,rfl,by go_num,hI5⟩
    case measure=>simp[intOf];omega
   have HSY:Hid (∀W,H k xb yb W→I (k+1) xb yb W):=fun W hH=>HY'.out k xb yb W hlt2 hH
   generalize s1[k]=o at *;obtain⟨oK,oA,oB,oC,oS⟩:=o;simp only at c0 c1 c2 c3 c4 HST;go_wp2_with (first
    |(go_at_call 15;refine HST.out.mono ?_;rintro e w4 ⟨rfl,hH⟩))
   go_roundw
   case rel=>exact⟨k+1,by omega,rfl,by go_num,HSY.out _ hH⟩
   case measure=>simp[intOf];omega
  have hH:=HX'.out k xb yb wr hlt1 hI.out;by_cases hlt2:k<s2.length
  ·obtain⟨b,off,rfl,c0,c1,c2,c3,c4⟩:=HS2.out k xb yb wr hH k s2[k] (Cr hlt2);have HST:Hid (Calls Tryz.prog 15 #[.pointer (some ⟨yb,0,none⟩),.agg #[.int .i64 s2[k].K,.int .i64 s2[k].A,.int .i64 s2[k].B,.int .i64 s2[k].C,.string s2[k].S]] wr fun e w'=>e=.returned (.bool true)∧I (k+1) xb yb w'):=HY.out k xb yb wr hlt2 hH;generalize s2[k]=o at *;obtain⟨oK,oA,oB,oC,oS⟩:=o;simp only at c0 c1 c2 c3 c4 HST;go_wp2_with (first
    |(go_at_call 15;refine HST.out.mono ?_;rintro e w4 ⟨rfl,hI4⟩))
   go_roundw
   case rel=>exact⟨k+1,by omega,rfl,by go_num,hI4⟩
   case measure=>simp[intOf];omega
  obtain rfl:=HM.out k hlt1 hlt2 hk;have HE1:Hid (Calls Tryz.prog 16 #[.pointer (some ⟨xb,0,none⟩),.int .i64 0,.string ⟨#[110,111,116,101,32,101,110,100]⟩] wr fun e w'=>e=.returned (.bool true)∧E1 xb yb w'):=HD1.out xb yb wr hI.out;clear hI hH HX HX' HY HY' HS1 HS2 HD1;go_upto_region 16 with(first
   |(go_at_call 16;refine HE1.out.mono ?_;rintro e w4 ⟨rfl,h1⟩))
  clear HE1;have HE2:Hid (Calls Tryz.prog 17 #[.pointer (some ⟨xb,0,none⟩)] w4 fun e w'=>e=.returned (.bool true)∧E2 xb yb w'):=HR1.out xb yb w4 h1;go_upto_region 17 with(first
   |(go_at_call 17;refine HE2.out.mono ?_;rintro e w5 ⟨rfl,h2⟩))
  clear HE2;have HE3:Hid (Calls Tryz.prog 16 #[.pointer (some ⟨yb,0,none⟩),.int .i64 0,.string ⟨#[110,111,116,101,32,111,116,104,101,114]⟩] w5 fun e w'=>e=.returned (.bool true)∧E3 xb yb w'):=HD2.out xb yb w5 h2;go_upto_region 18 with(first
   |(go_at_call 16;refine HE3.out.mono ?_;rintro e w6 ⟨rfl,h3⟩))
  clear HE3;have HE4:Hid (Calls Tryz.prog 17 #[.pointer (some ⟨yb,0,none⟩)] w6 fun e w'=>e=.returned (.bool true)∧J w'):=HR2.out xb yb w6 h3;go_wp2_with (first
   |(go_at_call 17;refine HE4.out.mono ?_;rintro e w7 ⟨rfl,h4⟩))
  go_ret
  exact⟨rfl,h4⟩
end Go.Proofs.YtckmppkdpnhodaaGreatDoor
