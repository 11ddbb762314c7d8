import Derived.Test.YtckmppkdpnhodaaGreatDoorT09
import Derived.Deep.Cut
import Derived.Test.YtckmppkdpnhodaaGreatDoorT00
set_option maxRecDepth 100000
set_option maxHeartbeats 8000000
set_option linter.unusedVariables false
set_option linter.unusedSimpArgs false
open Nat renaming zero_le→CB,le_refl→Cl
open Go.RowKit.Below renaming refl→Ck
open Go.World renaming block_lt_of_cell?→Cy,cell?_of_block→CE
namespace Go.Proofs.YtckmppkdpnhodaaGreatDoor
section
open Go.RowKit
variable {J:World→Prop} {n:Int} {v:Value} {w:World}
theorem yx{sp:Bool}{p:Option Addr}{cap:Nat}{sc:List Sp}(hn : -9223372036854775808≤n∧n≤9223372036854775807)(hl:sc.length≤maxLen)(hok:∀o∈sc,o.ok)(I:Nat→Nat→World→Prop)(J:World→Prop)(hSc:∀k wb W,I k wb W→dF W p sc∧W.cell? ⟨wb,0,none⟩=some (.int .i64 ((2+aE n 4:Nat):Int)))(hB:Calls Tryz.prog 13 #[.int .i64 ((2+aE n 4:Nat):Int),.bool sp] w fun e w'=>∃wb,e=.returned (.pointer (some ⟨wb,0,none⟩))∧Calls Tryz.prog 16 #[.pointer (some ⟨wb,0,none⟩),.int .i64 0,.string yh] w' fun e w''=>e=.returned (.bool true)∧I 0 wb w'')(hS:∀k wb W (h:k<sc.length),I k wb W→Calls Tryz.prog 15 #[.pointer (some ⟨wb,0,none⟩),sc[k].val] W fun e w'=>e=.returned (.bool true)∧I (k+1) wb w')(hV:∀k wb W,k<2+aE n 4→I (sc.length+k) wb W→Calls Tryz.prog 33 #[.pointer (some ⟨wb,0,none⟩),.int .i64 (k:Int)] W fun e w'=>e=.returned (.bool true)∧I (sc.length+k+1) wb w')(hK:∀wb W,I (sc.length+(2+aE n 4)) wb W→Calls Tryz.prog 17 #[.pointer (some ⟨wb,0,none⟩)] W fun e w'=>e=.returned (.bool true)∧J w'):Calls Tryz.prog 12 #[.int .i64 n,.slice p sc.length cap,.int .i64 11,.bool sp] w fun e w'=>e=.returned (.bool true)∧J w':=by
 have HB:=hid hB;have HS:=hS;replace HS:Hid _:=HS;have HV:=hV;replace HV:Hid _:=HV;have HK:=hK;replace HK:Hid _:=HK;have HSC:=hSc;replace HSC:Hid _:=HSC;have HN:Hid (∀W,Calls Tryz.prog 14 #[.int .i64 n] W fun e w'=>e=.returned (.int .i64 ((2+aE n 4:Nat):Int))∧w'=W):=fun W=>kl n W hn
 have hp4:(aE n 4:Int)<4:=cI (by omega);have hN5:2+aE n 4≤5:=by omega
 clear hB hS hV hK hSc hn hp4;have HOK:=hid hok;clear hok;unfold maxLen at hl;generalize 2+aE n 4=N at *;go_enter Tryz.func12,Tryz.ntmps12
 go_wp2_with (first
  |(go_at_call 14;refine(HN.out _).mono ?_;rintro e w' ⟨rfl,rfl⟩)
  |(go_at_call 13;refine HB.out.mono ?_;rintro e w1 ⟨wb,rfl,hD⟩;unfold yh at hD)
  |(go_at_call 16;refine hD.mono ?_;rintro e w2 ⟨rfl,hI0⟩))
 go_loopw [10,11] (fun ok i wr=>∃k:Nat,k≤sc.length∧ok=.bool true∧i=.int .i64 k∧Hid (I k wb wr)) (fun _ i _=>sc.length-(intOf i).toNat)
 case atStart=>exact⟨0,CB _,rfl,rfl,hI0⟩
 case round =>
  obtain⟨k,hk,rfl,rfl,hI⟩:=hrel;by_cases hlt:k<sc.length
  ·obtain⟨hscr,-⟩:=HSC.out k wb wr hI.out;obtain⟨b,off,rfl,c0,c1,c2,c3,c4⟩:=hscr k sc[k] (List.getElem?_eq_getElem hlt);have hko:=HOK.out sc[k] (List.getElem_mem hlt);have HP:Hid (∀W,Calls Tryz.prog 32 #[.int .i64 sc[k].K,.int .i64 12] W fun e w'=>e=.returned (.int .i64 (aE sc[k].K 12:Int))∧w'=W):=fun W=>jA sc[k].K 12 W hko (by omega)
   have hp12:(aE sc[k].K 12:Int)<12:=cI (by omega);have hle:aE sc[k].K 12≤11:=by omega
   ·have HST:Hid (Calls Tryz.prog 15 #[.pointer (some ⟨wb,0,none⟩),.agg #[.int .i64 sc[k].K,.int .i64 sc[k].A,.int .i64 sc[k].B,.int .i64 sc[k].C,.string sc[k].S]] wr fun e w'=>e=.returned (.bool true)∧I (k+1) wb w'):=HS.out k wb wr hlt hI.out;clear hko;generalize aE sc[k].K 12=pk at *;generalize sc[k]=o at *;obtain⟨oK,oA,oB,oC,oS⟩:=o;simp only at c0 c1 c2 c3 c4 HP HST;go_wp2_with (first
     |(go_at_call 32;refine(HP.out _).mono ?_;rintro e w' ⟨rfl,hw'⟩;have hw'':=hw'.symm;clear hw';subst hw'')
     |(go_at_call 15;refine HST.out.mono ?_;rintro e w4 ⟨rfl,hI4⟩))
    go_roundw
    case rel=>exact⟨k+1,by omega,rfl,by go_num,hI4⟩
    case measure=>simp[intOf];omega
  obtain rfl:k=sc.length:=by omega
  go_wp2_with fail
  go_loopw [10,12] (fun ok i wr=>∃k:Nat,k≤N∧ok=.bool true∧i=.int .i64 k∧Hid (I (sc.length+k) wb wr)) (fun _ i _=>N-(intOf i).toNat)
  case atStart=>exact⟨0,CB _,rfl,rfl,hI⟩
  case round =>
   obtain⟨k,hk2,rfl,rfl,hI2⟩:=hrel;obtain⟨-,r0⟩:=HSC.out (sc.length+k) wb wr hI2.out;by_cases hlt2:k<N
   ·have HVV:Hid _:=HV.out k wb wr hlt2 hI2.out;go_wp2_with (go_at_call 33;refine Calls.mono HVV.out ?_;rintro e w5 ⟨rfl,hI5⟩)
    go_roundw
    case rel=>exact⟨k+1,by omega,rfl,by go_num,hI5⟩
    case measure=>simp[intOf];omega
   obtain rfl:k=N:=by omega
   have HKK:Hid (Calls Tryz.prog 17 #[.pointer (some ⟨wb,0,none⟩)] wr fun e w'=>e=.returned (.bool true)∧J w'):=HK.out wb wr hI2.out;go_wp2_with (go_at_call 17;refine Calls.mono HKK.out ?_;rintro e w6 ⟨rfl,hJ⟩)
   go_ret
   exact⟨rfl,hJ⟩
theorem pW(hp:Calls Tryz.prog 12 #[.int .i64 n,v,.int .i64 11,.bool false] w fun e w'=>e=.returned (.bool true)∧J w'):Calls Tryz.prog 4 #[.int .i64 n,v] w fun e w'=>e=.returned (.bool true)∧J w':=by
 have HP:=hid hp;clear hp;go_enter Tryz.func4,Tryz.ntmps4
 go_wp2_with (go_at_call 12;refine HP.out.mono ?_;rintro e w' ⟨rfl,hJ⟩)
 go_ret
 exact⟨rfl,hJ⟩
theorem wR(hp:Calls Tryz.prog 12 #[.int .i64 n,v,.int .i64 11,.bool true] w fun e w'=>e=.returned (.bool true)∧J w'):Calls Tryz.prog 6 #[.int .i64 n,v] w fun e w'=>e=.returned (.bool true)∧J w':=by
 have HP:=hid hp;clear hp;go_enter Tryz.func6,Tryz.ntmps6
 go_wp2_with (go_at_call 12;refine HP.out.mono ?_;rintro e w' ⟨rfl,hJ⟩)
 go_ret
 exact⟨rfl,hJ⟩
end
section
open Go.RowKit Go.Proofs
variable {A B C K:Int} {N capa cc f1 f2 ga kk m pc wb zb:Nat} {S:ByteArray} {w:World}
theorem boxes(w:World)(o f:Array Value)(t1 t2:TypeId)(nq:Nat):(((w.alloc (.cells o t1)).drewN nq).alloc (.cells f t2)).heap[w.heap.size+1]?=some (.cells f t2 (0,0))∧(((w.alloc (.cells o t1)).drewN nq).alloc (.cells f t2)).heap[w.heap.size]?=some (.cells o t1 (0,0))∧(((w.alloc (.cells o t1)).drewN nq).alloc (.cells f t2)).heap.size=w.heap.size+2:=by
 obtain⟨W,hW⟩:∃W,W=(w.alloc (.cells o t1)).drewN nq:=⟨_,rfl⟩
 have hb:Below (w.alloc (.cells o t1)).heap.size (w.alloc (.cells o t1)) W:=by rw[hW];exact below_drewN (Ck _ _) _
 have hs:W.heap.size=w.heap.size+1:=by rw[hW];simp
 rw[←hW];refine⟨by rw[←hs];exact heap_alloc_new W _,?_,by simp[hs]⟩;rw[Below.heap_alloc W _ w.heap.size (by omega),hb.block w.heap.size (by simp)];exact heap_alloc_new w _
theorem oL{pa:Option Addr}(kd:Int)(r4:w.cell? ⟨wb,4,none⟩=some (.slice pa 0 capa))(X:World→Prop)(hC:∀W,Below w.heap.size w W→X W):Calls Tryz.prog 38 #[.pointer (some ⟨wb,0,none⟩),.agg #[.int .i64 K,.int .i64 A,.int .i64 B,.int .i64 C,.string S],.int .i64 kd] w fun e w'=>e=.returned (.bool true)∧X w':=by
 have HC:=hid hC;have hwl:=Cy w _ r4;clear hC;go_enter Tryz.func38,Tryz.ntmps38
 go_wp2_with fail
 go_ret
 exact⟨rfl,HC.out _ ((Ck _ _).alloc (Cl _) _)⟩
theorem mQ(hkN:kk<N)(hN:N≤1000000000)(r4:w.cell? ⟨wb,4,none⟩=some (.slice (some ⟨ga,0,none⟩) N capa))(c0:w.cell? ⟨ga,kk*3,none⟩=some (.int .i64 (f1:Int)))(c1:w.cell? ⟨ga,kk*3+1,none⟩=some (.int .i64 (f2:Int)))(c2:w.cell? ⟨ga,kk*3+2,none⟩=some (.slice (some ⟨zb,0,none⟩) m cc))(hP:∀W,Calls Tryz.prog 32 #[.int .i64 A,.int .i64 (N:Int)] W fun e w'=>e=.returned (.int .i64 (kk:Int))∧w'=W)(X:World→Prop)(hR:∀W,Below w.heap.size w W→Calls Tryz.prog 70 #[.pointer (some ⟨wb,0,none⟩),.int .i64 (f1:Int),.int .i64 (f2:Int),.slice (some ⟨zb,0,none⟩) m cc] W fun e w'=>e=.returned (.bool true)∧X w'):Calls Tryz.prog 38 #[.pointer (some ⟨wb,0,none⟩),.agg #[.int .i64 K,.int .i64 A,.int .i64 B,.int .i64 C,.string S],.int .i64 6] w fun e w'=>e=.returned (.bool true)∧X w':=by
 have HP:=hid hP;have hwl:=Cy w _ r4;have hgl:=Cy w _ c0;have hn0:¬ (N:Int)=0:=by omega
 have hk0:(0:Int)≤(kk:Int):=by omega
 have hk1:(kk:Int)<(N:Int):=by omega
 clear hP;have HR:=hid hR;clear hR;go_enter Tryz.func38,Tryz.ntmps38
 go_wp2_with fail
 go_quiet ((go_at_call 32;exact Calls.quiet_of_same (HP.out _)))
 go_wp2_with (first
  |(go_at_call 70;refine(HR.out _ (by exact(below_drewN ((Ck _ _).alloc (Cl _) _) _).alloc (by simp) _)).mono ?_;rintro e w6 ⟨rfl,hx⟩))
 go_ret
 exact⟨rfl,hx⟩
theorem oM(hkN:kk<N)(hN:N≤1000000000)(r4:w.cell? ⟨wb,4,none⟩=some (.slice (some ⟨ga,0,none⟩) N capa))(c0:w.cell? ⟨ga,kk*3,none⟩=some (.int .i64 (f1:Int)))(c1:w.cell? ⟨ga,kk*3+1,none⟩=some (.int .i64 (f2:Int)))(c2:w.cell? ⟨ga,kk*3+2,none⟩=some (.slice (some ⟨zb,0,none⟩) m cc))(hP:∀W,Calls Tryz.prog 32 #[.int .i64 A,.int .i64 (N:Int)] W fun e w'=>e=.returned (.int .i64 (kk:Int))∧w'=W)(X1 X:World→Prop)(hG:∀W,Below w.heap.size w W→W.heap.size=w.heap.size+2→Calls Tryz.prog 71 #[.pointer (some ⟨wb,0,none⟩),.int .i64 (kk:Int)] W fun e w'=>e=.returned (.tuple #[])∧X1 w'∧∀b,b<W.heap.size→b≠wb→w'.heap[b]?=W.heap[b]?)(hR:∀W,X1 W→Calls Tryz.prog 70 #[.pointer (some ⟨wb,0,none⟩),.int .i64 (f1:Int),.int .i64 (f2:Int),.slice (some ⟨zb,0,none⟩) m cc] W fun e w'=>e=.returned (.bool true)∧X w'):Calls Tryz.prog 38 #[.pointer (some ⟨wb,0,none⟩),.agg #[.int .i64 K,.int .i64 A,.int .i64 B,.int .i64 C,.string S],.int .i64 5] w fun e w'=>e=.returned (.bool true)∧X w':=by
 have HP:=hid hP;have hwl:=Cy w _ r4;have hgl:=Cy w _ c0;have hn0:¬ (N:Int)=0:=by omega
 have hk0:(0:Int)≤(kk:Int):=by omega
 have hk1:(kk:Int)<(N:Int):=by omega
 clear hP;have HG:=hid hG;have HR:=hid hR;clear hR hG;go_enter Tryz.func38,Tryz.ntmps38
 go_wp2_with fail
 go_quiet ((go_at_call 32;exact Calls.quiet_of_same (HP.out _)))
 go_wp2_with (first
  |(go_at_call 71;(refine(HG.out _ (by exact(below_drewN ((Ck _ _).alloc (Cl _) _) _).alloc (by simp) _) (boxes w _ _ _ _ nq).2.2).mono ?_;rintro e w5 ⟨rfl,hx1,hs⟩;obtain⟨b1,b2,b3⟩:=boxes w #[.int .i64 K,.int .i64 A,.int .i64 B,.int .i64 C,.string S] #[.int .i64 (f1:Int),.int .i64 (f2:Int),.slice (some ⟨zb,0,none⟩) m cc] 30 154 nq;have q1:=(hs _ (by rw[b3];omega) (by omega)).trans b1;have q2:=(hs _ (by rw[b3];omega) (by omega)).trans b2;have e0:w5.cell? ⟨w.heap.size+1,0,none⟩=some (.int .i64 (f1:Int)):=cell_of_heap q1 0;have e1:w5.cell? ⟨w.heap.size+1,1,none⟩=some (.int .i64 (f2:Int)):=cell_of_heap q1 1;have e2:w5.cell? ⟨w.heap.size+1,2,none⟩=some (.slice (some ⟨zb,0,none⟩) m cc):=cell_of_heap q1 2;have g2:w5.cell? ⟨w.heap.size,2,none⟩=some (.int .i64 B):=cell_of_heap q2 2;have g3:w5.cell? ⟨w.heap.size,3,none⟩=some (.int .i64 C):=cell_of_heap q2 3;clear b1 b2 b3 q1 q2 hs))
  |(go_at_call 70;refine(HR.out _ hx1).mono ?_;rintro e w6 ⟨rfl,hx⟩))
 go_ret
 exact⟨rfl,hx⟩
theorem oN(hkN:kk<N)(hN:N≤1000000000)(r4:w.cell? ⟨wb,4,none⟩=some (.slice (some ⟨ga,0,none⟩) N capa))(c0:w.cell? ⟨ga,kk*3,none⟩=some (.int .i64 (f1:Int)))(c1:w.cell? ⟨ga,kk*3+1,none⟩=some (.int .i64 (f2:Int)))(c2:w.cell? ⟨ga,kk*3+2,none⟩=some (.slice (some ⟨zb,0,none⟩) m cc))(hP:∀W,Calls Tryz.prog 32 #[.int .i64 A,.int .i64 (N:Int)] W fun e w'=>e=.returned (.int .i64 (kk:Int))∧w'=W)(X1 X:World→Prop)(hG:∀W,Below w.heap.size w W→W.heap.size=w.heap.size+2→Calls Tryz.prog 71 #[.pointer (some ⟨wb,0,none⟩),.int .i64 (kk:Int)] W fun e w'=>e=.returned (.tuple #[])∧X1 w'∧∀b,b<W.heap.size→b≠wb→w'.heap[b]?=W.heap[b]?)(hX:∀W,X1 W→X W):Calls Tryz.prog 38 #[.pointer (some ⟨wb,0,none⟩),.agg #[.int .i64 K,.int .i64 A,.int .i64 B,.int .i64 C,.string S],.int .i64 7] w fun e w'=>e=.returned (.bool true)∧X w':=by
 have HP:=hid hP;have hwl:=Cy w _ r4;have hgl:=Cy w _ c0;have hn0:¬ (N:Int)=0:=by omega
 have hk0:(0:Int)≤(kk:Int):=by omega
 have hk1:(kk:Int)<(N:Int):=by omega
 clear hP;have HG:=hid hG;have HX:=hid hX;clear hX hG;go_enter Tryz.func38,Tryz.ntmps38
 go_wp2_with fail
 go_quiet ((go_at_call 32;exact Calls.quiet_of_same (HP.out _)))
 go_wp2_with (first
  |(go_at_call 71;(refine(HG.out _ (by exact(below_drewN ((Ck _ _).alloc (Cl _) _) _).alloc (by simp) _) (boxes w _ _ _ _ nq).2.2).mono ?_;rintro e w5 ⟨rfl,hx1,hs⟩;obtain⟨b1,b2,b3⟩:=boxes w #[.int .i64 K,.int .i64 A,.int .i64 B,.int .i64 C,.string S] #[.int .i64 (f1:Int),.int .i64 (f2:Int),.slice (some ⟨zb,0,none⟩) m cc] 30 154 nq;have q1:=(hs _ (by rw[b3];omega) (by omega)).trans b1;have q2:=(hs _ (by rw[b3];omega) (by omega)).trans b2;have e0:w5.cell? ⟨w.heap.size+1,0,none⟩=some (.int .i64 (f1:Int)):=cell_of_heap q1 0;have e1:w5.cell? ⟨w.heap.size+1,1,none⟩=some (.int .i64 (f2:Int)):=cell_of_heap q1 1;have e2:w5.cell? ⟨w.heap.size+1,2,none⟩=some (.slice (some ⟨zb,0,none⟩) m cc):=cell_of_heap q1 2;have g2:w5.cell? ⟨w.heap.size,2,none⟩=some (.int .i64 B):=cell_of_heap q2 2;have g3:w5.cell? ⟨w.heap.size,3,none⟩=some (.int .i64 C):=cell_of_heap q2 3;clear b1 b2 b3 q1 q2 hs)))
 go_ret
 exact⟨rfl,HX.out _ hx1⟩
theorem mS(hkN:kk<N)(hN:N≤1000000000)(r4:w.cell? ⟨wb,4,none⟩=some (.slice (some ⟨ga,0,none⟩) N capa))(c0:w.cell? ⟨ga,kk*3,none⟩=some (.int .i64 (f1:Int)))(c1:w.cell? ⟨ga,kk*3+1,none⟩=some (.int .i64 (f2:Int)))(c2:w.cell? ⟨ga,kk*3+2,none⟩=some (.slice (some ⟨zb,0,none⟩) m cc))(hP:∀W,Calls Tryz.prog 32 #[.int .i64 A,.int .i64 (N:Int)] W fun e w'=>e=.returned (.int .i64 (kk:Int))∧w'=W)(r7:w.cell? ⟨wb,7,none⟩=some (.bool false))(X:World→Prop)(hX:∀W,Below w.heap.size w W→X W):Calls Tryz.prog 38 #[.pointer (some ⟨wb,0,none⟩),.agg #[.int .i64 K,.int .i64 A,.int .i64 B,.int .i64 C,.string S],.int .i64 8] w fun e w'=>e=.returned (.bool true)∧X w':=by
 have HP:=hid hP;have hwl:=Cy w _ r4;have hgl:=Cy w _ c0;have hn0:¬ (N:Int)=0:=by omega
 have hk0:(0:Int)≤(kk:Int):=by omega
 have hk1:(kk:Int)<(N:Int):=by omega
 clear hP;have HX:=hid hX;clear hX;go_enter Tryz.func38,Tryz.ntmps38
 go_wp2_with fail
 go_quiet ((go_at_call 32;exact Calls.quiet_of_same (HP.out _)))
 go_wp2_with fail
 go_ret
 exact⟨rfl,HX.out _ (by exact(below_drewN ((Ck _ _).alloc (Cl _) _) _).alloc (by simp) _)⟩
theorem oJ(hkN:kk<N)(hN:N≤1000000000)(r4:w.cell? ⟨wb,4,none⟩=some (.slice (some ⟨ga,0,none⟩) N capa))(c0:w.cell? ⟨ga,kk*3,none⟩=some (.int .i64 (f1:Int)))(c1:w.cell? ⟨ga,kk*3+1,none⟩=some (.int .i64 (f2:Int)))(c2:w.cell? ⟨ga,kk*3+2,none⟩=some (.slice (some ⟨zb,0,none⟩) m cc))(hP:∀W,Calls Tryz.prog 32 #[.int .i64 A,.int .i64 (N:Int)] W fun e w'=>e=.returned (.int .i64 (kk:Int))∧w'=W)(r7:w.cell? ⟨wb,7,none⟩=some (.bool false))(X:World→Prop)(hX:∀W,Below w.heap.size w W→X W):Calls Tryz.prog 38 #[.pointer (some ⟨wb,0,none⟩),.agg #[.int .i64 K,.int .i64 A,.int .i64 B,.int .i64 C,.string S],.int .i64 11] w fun e w'=>e=.returned (.bool true)∧X w':=by
 have HP:=hid hP;have hwl:=Cy w _ r4;have hgl:=Cy w _ c0;have hn0:¬ (N:Int)=0:=by omega
 have hk0:(0:Int)≤(kk:Int):=by omega
 have hk1:(kk:Int)<(N:Int):=by omega
 clear hP;have HX:=hid hX;clear hX;go_enter Tryz.func38,Tryz.ntmps38
 go_wp2_with fail
 go_quiet ((go_at_call 32;exact Calls.quiet_of_same (HP.out _)))
 go_wp2_with fail
 go_ret
 exact⟨rfl,HX.out _ (by exact(below_drewN ((Ck _ _).alloc (Cl _) _) _).alloc (by simp) _)⟩
theorem mR(hkN:kk<N)(hN:N≤1000000000)(r4:w.cell? ⟨wb,4,none⟩=some (.slice (some ⟨ga,0,none⟩) N capa))(c0:w.cell? ⟨ga,kk*3,none⟩=some (.int .i64 (f1:Int)))(c1:w.cell? ⟨ga,kk*3+1,none⟩=some (.int .i64 (f2:Int)))(c2:w.cell? ⟨ga,kk*3+2,none⟩=some (.slice (some ⟨zb,0,none⟩) m cc))(hP:∀W,Calls Tryz.prog 32 #[.int .i64 A,.int .i64 (N:Int)] W fun e w'=>e=.returned (.int .i64 (kk:Int))∧w'=W)(r7:w.cell? ⟨wb,7,none⟩=some (.bool true))(X1 X:World→Prop)(hX1:∀W W',X1 W→Below W.heap.size W W'→X1 W')(hG:∀W,Below w.heap.size w W→W.heap.size=w.heap.size+2→Calls Tryz.prog 71 #[.pointer (some ⟨wb,0,none⟩),.int .i64 (kk:Int)] W fun e w'=>e=.returned (.tuple #[])∧X1 w'∧∀b,b<W.heap.size→b≠wb→w'.heap[b]?=W.heap[b]?)(hS:∀W,X1 W→Calls Tryz.prog 73 #[.slice (some ⟨zb,0,none⟩) m cc,.int .i64 B,.int .i64 C] W fun e w'=>∃g z cz,e=.returned (.slice (some ⟨z,0,none⟩) g cz)∧Below W.heap.size W w'∧Calls Tryz.prog 72 #[.pointer (some ⟨wb,0,none⟩),.int .i64 (f1:Int),.int .i64 (f2:Int),.slice (some ⟨z,0,none⟩) g cz] w' fun e w''=>e=.returned (.bool true)∧X w''∧∀b,w.heap.size≤b→b<w.heap.size+2→w''.heap[b]?=w'.heap[b]?):Calls Tryz.prog 38 #[.pointer (some ⟨wb,0,none⟩),.agg #[.int .i64 K,.int .i64 A,.int .i64 B,.int .i64 C,.string S],.int .i64 8] w fun e w'=>e=.returned (.bool true)∧X w':=by
 have HP:=hid hP;have hwl:=Cy w _ r4;have hgl:=Cy w _ c0;have hn0:¬ (N:Int)=0:=by omega
 have hk0:(0:Int)≤(kk:Int):=by omega
 have hk1:(kk:Int)<(N:Int):=by omega
 clear hP;have HG:=hid hG;have HS:=hid hS;have HX1:=hid hX1;clear hS hG hX1;go_enter Tryz.func38,Tryz.ntmps38
 go_wp2_with fail
 go_quiet ((go_at_call 32;exact Calls.quiet_of_same (HP.out _)))
 go_upto_region 18 with(first
  |(go_at_call 71;(refine(HG.out _ (by exact(below_drewN ((Ck _ _).alloc (Cl _) _) _).alloc (by simp) _) (boxes w _ _ _ _ nq).2.2).mono ?_;rintro e w5 ⟨rfl,hx1,hs⟩;obtain⟨b1,b2,b3⟩:=boxes w #[.int .i64 K,.int .i64 A,.int .i64 B,.int .i64 C,.string S] #[.int .i64 (f1:Int),.int .i64 (f2:Int),.slice (some ⟨zb,0,none⟩) m cc] 30 154 nq;have q1:=(hs _ (by rw[b3];omega) (by omega)).trans b1;have q2:=(hs _ (by rw[b3];omega) (by omega)).trans b2;have e0:w5.cell? ⟨w.heap.size+1,0,none⟩=some (.int .i64 (f1:Int)):=cell_of_heap q1 0;have e1:w5.cell? ⟨w.heap.size+1,1,none⟩=some (.int .i64 (f2:Int)):=cell_of_heap q1 1;have e2:w5.cell? ⟨w.heap.size+1,2,none⟩=some (.slice (some ⟨zb,0,none⟩) m cc):=cell_of_heap q1 2;have g2:w5.cell? ⟨w.heap.size,2,none⟩=some (.int .i64 B):=cell_of_heap q2 2;have g3:w5.cell? ⟨w.heap.size,3,none⟩=some (.int .i64 C):=cell_of_heap q2 3;clear b1 b2 b3 q1 q2 hs)))
 have HD:Hid (X1 w5.drew):=HX1.out _ _ hx1 (Ck _ w5).drew;go_region_held3 (fun w'=>w'.cell? ⟨w.heap.size+1,0,none⟩=some (.int .i64 (f1:Int))∧w'.cell? ⟨w.heap.size+1,1,none⟩=some (.int .i64 (f2:Int))∧w'.cell? ⟨w.heap.size+1,2,none⟩=some (.slice (some ⟨zb,0,none⟩) m cc)∧w'.cell? ⟨w.heap.size,2,none⟩=some (.int .i64 B)∧w'.cell? ⟨w.heap.size,3,none⟩=some (.int .i64 C)) (first|exact⟨e0,e1,e2,g2,g3⟩|exact⟨s0,s1,s2,s3,s4⟩|exact⟨t0,t1,t2,t3,t4⟩) (first
   |(go_at_call 73;refine(HS.out _ HD.out).mono ?_;rintro e w6 ⟨g,z,cz,rfl,hb6,hst⟩;have HST:Hid (Calls Tryz.prog 72 #[.pointer (some ⟨wb,0,none⟩),.int .i64 (f1:Int),.int .i64 (f2:Int),.slice (some ⟨z,0,none⟩) g cz] w6 fun e w''=>e=.returned (.bool true)∧X w''∧∀b,w.heap.size≤b→b<w.heap.size+2→w''.heap[b]?=w6.heap[b]?):=hst;clear hst;have s0:=aa hb6 e0;have s1:=aa hb6 e1;have s2:=aa hb6 e2;have s3:=aa hb6 g2;have s4:=aa hb6 g3)
   |(go_at_call 72;refine HST.out.mono ?_;rintro e w7 ⟨rfl,hx,hz⟩;have t0:=(CE (a:=⟨w.heap.size+1,0,none⟩) (hz _ (by simp) (by simp))).trans s0;have t1:=(CE (a:=⟨w.heap.size+1,1,none⟩) (hz _ (by simp) (by simp))).trans s1;have t2:=(CE (a:=⟨w.heap.size+1,2,none⟩) (hz _ (by simp) (by simp))).trans s2;have t3:=(CE (a:=⟨w.heap.size,2,none⟩) (hz _ (by simp) (by simp))).trans s3;have t4:=(CE (a:=⟨w.heap.size,3,none⟩) (hz _ (by simp) (by simp))).trans s4))
 go_wp2_with fail
 go_ret
 exact⟨rfl,hx⟩
theorem lP(hkN:kk<N)(hN:N≤1000000000)(r4:w.cell? ⟨wb,4,none⟩=some (.slice (some ⟨ga,0,none⟩) N capa))(c0:w.cell? ⟨ga,kk*3,none⟩=some (.int .i64 (f1:Int)))(c1:w.cell? ⟨ga,kk*3+1,none⟩=some (.int .i64 (f2:Int)))(c2:w.cell? ⟨ga,kk*3+2,none⟩=some (.slice (some ⟨zb,0,none⟩) m cc))(hP:∀W,Calls Tryz.prog 32 #[.int .i64 A,.int .i64 (N:Int)] W fun e w'=>e=.returned (.int .i64 (kk:Int))∧w'=W)(r7:w.cell? ⟨wb,7,none⟩=some (.bool true))(hPB:∀W,Calls Tryz.prog 32 #[.int .i64 B,.int .i64 3] W fun e w'=>e=.returned (.int .i64 0)∧w'=W)(X:World→Prop)(hS:∀W,Below w.heap.size w W→Calls Tryz.prog 72 #[.pointer (some ⟨wb,0,none⟩),.int .i64 (f2:Int),.int .i64 (f2:Int),.slice (some ⟨zb,0,none⟩) m cc] W fun e w'=>e=.returned (.bool true)∧X w'):Calls Tryz.prog 38 #[.pointer (some ⟨wb,0,none⟩),.agg #[.int .i64 K,.int .i64 A,.int .i64 B,.int .i64 C,.string S],.int .i64 11] w fun e w'=>e=.returned (.bool true)∧X w':=by
 have HP:=hid hP;have hwl:=Cy w _ r4;have hgl:=Cy w _ c0;have hn0:¬ (N:Int)=0:=by omega
 have hk0:(0:Int)≤(kk:Int):=by omega
 have hk1:(kk:Int)<(N:Int):=by omega
 clear hP;have HPB:=hid hPB;have HS:=hid hS;clear hS hPB;go_enter Tryz.func38,Tryz.ntmps38
 go_wp2_with fail
 go_quiet ((go_at_call 32;exact Calls.quiet_of_same (HP.out _)))
 go_wp2_with (first
  |(go_at_call 32;refine(HPB.out _).mono ?_;rintro e w5 ⟨rfl,rfl⟩)
  |(go_at_call 72;refine(HS.out _ (by first|exact(below_drewN ((Ck _ _).alloc (Cl _) _) _).alloc (by simp) _|exact below_drewN ((below_drewN ((Ck _ _).alloc (Cl _) _) _).alloc (by simp) _) _)).mono ?_;rintro e w6 ⟨rfl,hx⟩))
 go_ret
 exact⟨rfl,hx⟩
theorem lO(hkN:kk<N)(hN:N≤1000000000)(r4:w.cell? ⟨wb,4,none⟩=some (.slice (some ⟨ga,0,none⟩) N capa))(c0:w.cell? ⟨ga,kk*3,none⟩=some (.int .i64 (f1:Int)))(c1:w.cell? ⟨ga,kk*3+1,none⟩=some (.int .i64 (f2:Int)))(c2:w.cell? ⟨ga,kk*3+2,none⟩=some (.slice (some ⟨zb,0,none⟩) m cc))(hP:∀W,Calls Tryz.prog 32 #[.int .i64 A,.int .i64 (N:Int)] W fun e w'=>e=.returned (.int .i64 (kk:Int))∧w'=W)(r7:w.cell? ⟨wb,7,none⟩=some (.bool true))(hPB:∀W,Calls Tryz.prog 32 #[.int .i64 B,.int .i64 3] W fun e w'=>e=.returned (.int .i64 1)∧w'=W)(hpc:pc<1073741824)(hPC:∀W,Calls Tryz.prog 32 #[.int .i64 C,.int .i64 1073741824] W fun e w'=>e=.returned (.int .i64 (pc:Int))∧w'=W)(X:World→Prop)(hS:∀W,Below w.heap.size w W→Calls Tryz.prog 72 #[.pointer (some ⟨wb,0,none⟩),.int .i64 (-1-(pc:Int)),.int .i64 (f2:Int),.slice (some ⟨zb,0,none⟩) m cc] W fun e w'=>e=.returned (.bool true)∧X w'):Calls Tryz.prog 38 #[.pointer (some ⟨wb,0,none⟩),.agg #[.int .i64 K,.int .i64 A,.int .i64 B,.int .i64 C,.string S],.int .i64 11] w fun e w'=>e=.returned (.bool true)∧X w':=by
 have HP:=hid hP;have hwl:=Cy w _ r4;have hgl:=Cy w _ c0;have hn0:¬ (N:Int)=0:=by omega
 have hk0:(0:Int)≤(kk:Int):=by omega
 have hk1:(kk:Int)<(N:Int):=by omega
 clear hP;have HPB:=hid hPB;have HS:=hid hS;clear hS hPB;have HPC:=hid hPC;clear hPC;go_enter Tryz.func38,Tryz.ntmps38
 go_wp2_with fail
 go_quiet ((go_at_call 32;exact Calls.quiet_of_same (HP.out _)))
 go_upto_region 24 with(first
  |(go_at_call 32;refine(HPB.out _).mono ?_;rintro e w5 ⟨rfl,rfl⟩))
 go_wp2_with (first
  |(go_at_call 32;refine(HPC.out _).mono ?_;rintro e w5 ⟨rfl,rfl⟩)
  |(go_at_call 72;refine(HS.out _ (by first|exact(below_drewN ((Ck _ _).alloc (Cl _) _) _).alloc (by simp) _|exact below_drewN ((below_drewN ((Ck _ _).alloc (Cl _) _) _).alloc (by simp) _) _)).mono ?_;rintro e w6 ⟨rfl,hx⟩))
 go_ret
 exact⟨rfl,hx⟩
theorem lN(hkN:kk<N)(hN:N≤1000000000)(r4:w.cell? ⟨wb,4,none⟩=some (.slice (some ⟨ga,0,none⟩) N capa))(c0:w.cell? ⟨ga,kk*3,none⟩=some (.int .i64 (f1:Int)))(c1:w.cell? ⟨ga,kk*3+1,none⟩=some (.int .i64 (f2:Int)))(c2:w.cell? ⟨ga,kk*3+2,none⟩=some (.slice (some ⟨zb,0,none⟩) m cc))(hP:∀W,Calls Tryz.prog 32 #[.int .i64 A,.int .i64 (N:Int)] W fun e w'=>e=.returned (.int .i64 (kk:Int))∧w'=W)(r7:w.cell? ⟨wb,7,none⟩=some (.bool true))(hPB:∀W,Calls Tryz.prog 32 #[.int .i64 B,.int .i64 3] W fun e w'=>e=.returned (.int .i64 2)∧w'=W)(hpc:pc<1073741824)(hPC:∀W,Calls Tryz.prog 32 #[.int .i64 C,.int .i64 1073741824] W fun e w'=>e=.returned (.int .i64 (pc:Int))∧w'=W){n:Nat}(hn:n≤5)(r0:w.cell? ⟨wb,0,none⟩=some (.int .i64 (n:Int)))(X:World→Prop)(hS:∀W,Below w.heap.size w W→Calls Tryz.prog 72 #[.pointer (some ⟨wb,0,none⟩),.int .i64 ((n:Int)+(pc:Int)),.int .i64 (f2:Int),.slice (some ⟨zb,0,none⟩) m cc] W fun e w'=>e=.returned (.bool true)∧X w'):Calls Tryz.prog 38 #[.pointer (some ⟨wb,0,none⟩),.agg #[.int .i64 K,.int .i64 A,.int .i64 B,.int .i64 C,.string S],.int .i64 11] w fun e w'=>e=.returned (.bool true)∧X w':=by
 have HP:=hid hP;have hwl:=Cy w _ r4;have hgl:=Cy w _ c0;have hn0:¬ (N:Int)=0:=by omega
 have hk0:(0:Int)≤(kk:Int):=by omega
 have hk1:(kk:Int)<(N:Int):=by omega
 clear hP;have HPB:=hid hPB;have HS:=hid hS;clear hS hPB;have HPC:=hid hPC;clear hPC;go_enter Tryz.func38,Tryz.ntmps38
 go_wp2_with fail
 go_quiet ((go_at_call 32;exact Calls.quiet_of_same (HP.out _)))
 go_upto_region 26 with(first
  |(go_at_call 32;refine(HPB.out _).mono ?_;rintro e w5 ⟨rfl,rfl⟩))
 go_quiet ((go_at_call 32;exact Calls.quiet_of_same (HPC.out _)))
 go_wp2_with (first
  |(go_at_call 72;refine(HS.out _ (by first|exact(below_drewN ((Ck _ _).alloc (Cl _) _) _).alloc (by simp) _|exact below_drewN ((below_drewN ((Ck _ _).alloc (Cl _) _) _).alloc (by simp) _) _)).mono ?_;rintro e w6 ⟨rfl,hx⟩))
 go_ret
 exact⟨rfl,hx⟩
end
section
open Go.RowKit
def xX(w:World)(X:World→Prop)(f:FuncId)(args:Array Value)(v:Value):Prop:=∀W,Below w.heap.size w W→Calls Tryz.prog f args W fun e w'=>e=.returned v∧X w'
theorem qJ{p:Prop}(h:p):Hid p:=h
theorem vl{w:World}{wb n lb capl rb:Nat}{K A B C kd:Int}{S:ByteArray}(hn:2≤n∧n≤5)(r0:w.cell? ⟨wb,0,none⟩=some (.int .i64 (n:Int)))(r1:w.cell? ⟨wb,1,none⟩=some (.slice (some ⟨lb,0,none⟩) n capl))(rl:w.cell? ⟨lb,aE A n,none⟩=some (.pointer (some ⟨rb,0,none⟩)))(hK : -9223372036854775808≤K∧K≤9223372036854775807)(hA : -9223372036854775808≤A∧A≤9223372036854775807)(hk:(aE K 12:Int)=kd)(X:World→Prop)(h0:kd=0→xX w X 16 #[.pointer (some ⟨wb,0,none⟩),.int .i64 (aE A n:Int),.string S] (.bool true))(h1:kd=1→xX w X 33 #[.pointer (some ⟨wb,0,none⟩),.int .i64 (aE A n:Int)] (.bool true))(h2:kd=2→xX w X 35 #[.pointer (some ⟨wb,0,none⟩),.int .i64 (aE A n:Int)] (.bool true))(h4:kd=4→xX w X 36 #[.pointer (some ⟨wb,0,none⟩),.int .i64 (aE A n:Int)] (.bool true))(h9:kd=9→xX w X 37 #[.pointer (some ⟨wb,0,none⟩)] (.bool true))(h10:kd=10→xX w X 17 #[.pointer (some ⟨wb,0,none⟩)] (.bool true))(h3:kd=3→xX w X 25 #[.pointer (some ⟨rb,0,none⟩)] (.tuple #[]))(h5:kd=5∨kd=6∨kd=7∨kd=8∨kd=11→xX w X 38 #[.pointer (some ⟨wb,0,none⟩),.agg #[.int .i64 K,.int .i64 A,.int .i64 B,.int .i64 C,.string S],.int .i64 kd] (.bool true)):Calls Tryz.prog 15 #[.pointer (some ⟨wb,0,none⟩),.agg #[.int .i64 K,.int .i64 A,.int .i64 B,.int .i64 C,.string S]] w fun e w'=>e=.returned (.bool true)∧X w':=by
 have HP1:Hid (∀W,Calls Tryz.prog 32 #[.int .i64 A,.int .i64 (n:Int)] W fun e w'=>e=.returned (.int .i64 (aE A n:Int))∧w'=W):=fun W=>jA A n W hA (by omega)
 have HP2:Hid (∀W,Calls Tryz.prog 32 #[.int .i64 K,.int .i64 12] W fun e w'=>e=.returned (.int .i64 kd)∧w'=W):=fun W=>by
  have:=jA K 12 W hK (by omega);rw[hk]at this
  exact this
 have hkn:(aE A n:Int)<(n:Int):=cI (by omega);have hwl:=Cy w _ r0;have hll:=Cy w _ rl;have h12:(aE K 12:Int)<12:=cI (by omega);have hc:kd=0∨kd=1∨kd=2∨kd=3∨kd=4∨kd=5∨kd=6∨kd=7∨kd=8∨kd=9∨kd=10∨kd=11:=by omega
 clear hK hA hk h12;generalize aE A n=kk at *;have hk0:(0:Int)≤(kk:Int):=by omega
 rcases hc with rfl|rfl|rfl|rfl|rfl|rfl|rfl|rfl|rfl|rfl|rfl|rfl
 all_goals
  first
   |have HC:=qJ (h0 rfl)
   |have HC:=qJ (h1 rfl)
   |have HC:=qJ (h2 rfl)
   |have HC:=qJ (h3 rfl)
   |have HC:=qJ (h4 rfl)
   |have HC:=qJ (h9 rfl)
   |have HC:=qJ (h10 rfl)
   |have HC:=qJ (h5 (by simp))
  clear h0 h1 h2 h3 h4 h5 h9 h10;go_enter Tryz.func15,Tryz.ntmps15
  go_wp2_with fail
  go_quiet ((go_at_call 32;exact Calls.quiet_of_same (HP1.out _)))
  go_wp2_with (first
  |(go_at_call 32;refine(HP2.out _).mono ?_;rintro e w' ⟨rfl,rfl⟩)
  |(go_at_call 16;refine(HC.out _ (by first|exact below_drewN ((Ck _ _).alloc (Cl _) _) _|exact(Ck _ _).alloc (Cl _) _)).mono ?_;rintro e w9 ⟨rfl,hx⟩)
  |(go_at_call 33;refine(HC.out _ (by first|exact below_drewN ((Ck _ _).alloc (Cl _) _) _|exact(Ck _ _).alloc (Cl _) _)).mono ?_;rintro e w9 ⟨rfl,hx⟩)
  |(go_at_call 35;refine(HC.out _ (by first|exact below_drewN ((Ck _ _).alloc (Cl _) _) _|exact(Ck _ _).alloc (Cl _) _)).mono ?_;rintro e w9 ⟨rfl,hx⟩)
  |(go_at_call 36;refine(HC.out _ (by first|exact below_drewN ((Ck _ _).alloc (Cl _) _) _|exact(Ck _ _).alloc (Cl _) _)).mono ?_;rintro e w9 ⟨rfl,hx⟩)
  |(go_at_call 37;refine(HC.out _ (by first|exact below_drewN ((Ck _ _).alloc (Cl _) _) _|exact(Ck _ _).alloc (Cl _) _)).mono ?_;rintro e w9 ⟨rfl,hx⟩)
  |(go_at_call 17;refine(HC.out _ (by first|exact below_drewN ((Ck _ _).alloc (Cl _) _) _|exact(Ck _ _).alloc (Cl _) _)).mono ?_;rintro e w9 ⟨rfl,hx⟩)
  |(go_at_call 25;refine(HC.out _ (by first|exact below_drewN ((Ck _ _).alloc (Cl _) _) _|exact(Ck _ _).alloc (Cl _) _)).mono ?_;rintro e w9 ⟨rfl,hx⟩)
  |(go_at_call 38;refine(HC.out _ (by first|exact below_drewN ((Ck _ _).alloc (Cl _) _) _|exact(Ck _ _).alloc (Cl _) _)).mono ?_;rintro e w9 ⟨rfl,hx⟩))
  go_ret
  exact⟨rfl,hx⟩
end
end Go.Proofs.YtckmppkdpnhodaaGreatDoor
