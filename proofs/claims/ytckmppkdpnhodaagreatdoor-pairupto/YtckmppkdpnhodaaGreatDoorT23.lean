import Derived.Test.YtckmppkdpnhodaaGreatDoorT14
import Derived.Laws.BitsAllLaws
import Derived.Test.YtckmppkdpnhodaaGreatDoorT16
import Derived.Test.YtckmppkdpnhodaaGreatDoorT00
set_option maxRecDepth 100000
set_option maxHeartbeats 8000000
set_option linter.unusedVariables false
set_option linter.unusedSimpArgs false
open UInt8 renaming ofNat→CA
open Nat renaming le_refl→Cl,mul_one→DK
open List renaming length_cons→CR,length_append→Cz,map_cons→Dp,map_nil→DV
open Go.RowKit.Below renaming refl→Ck
open Go.World renaming news_of_block→CH
open Array renaming length_toList→Dm
open ByteArray renaming size_append→C7,mk→CU
namespace Go.Proofs.YtckmppkdpnhodaaGreatDoor
open Go.RowKit Go.Proofs
attribute [local go_sem ↓] Go.wp_at_zero Go.wp_at_succ
variable {B B' b n s x:Nat} {W a w:World} {e:TypeId} {l:List UInt8} {v:Value} {xs:List Value}
def aM(w:World)(v:Value)(bs:List UInt8):Prop:=∃p cap,v=.slice p bs.length cap∧∀(i:Nat) (x:UInt8),bs[i]?=some x→∃b off,p=some ⟨b,off,none⟩∧w.cell? ⟨b,off+i,none⟩=some (.int .u8 (x.toNat:Int))
def ee:List Nat:=[0,498536548,997073096,651767980,1994146192,1802195444,1303535960,1342533948,3988292384,4027552580,3604390888,3412177804,2607071920,2262029012,2685067896,3183342108]
def eS(w:World):Prop:=∀i,i<16→w.cell? ⟨1,i,none⟩=some (.int .u32 ((ee.getD i 0:Nat):Int))
def eQ(s:Nat):Nat:=(s / 16) ^^^ ee.getD (s % 16) 0
def eP(s x:Nat):Nat:=eQ (eQ (s ^^^ x))
def dW(bs:List UInt8):Nat:=bs.foldl (fun s b=>eP s b.toNat) 4294967295
def fp(bs:List UInt8):Nat:=4294967295 ^^^ dW bs
theorem vw(i:Nat):ee.getD i 0<4294967296:=by
 by_cases h:i<16
 ·rcases(show i=0∨i=1∨i=2∨i=3∨i=4∨i=5∨i=6∨i=7∨i=8∨i=9∨i=10∨i=11∨i=12∨i=13∨i=14∨i=15 by omega) with rfl|rfl|rfl|rfl|rfl|rfl|rfl|rfl|rfl|rfl|rfl|rfl|rfl|rfl|rfl|rfl <;> decide
 have:ee[i]?=none:=List.getElem?_eq_none (by simp[ee];omega);simp[List.getD,this]
theorem fM(h:s<4294967296):eQ s<4294967296:=Nat.xor_lt_two_pow (n:=32) (by omega) (vw _)
theorem fE(h:s<4294967296)(hx:x<4294967296):s ^^^ x<4294967296:=Nat.xor_lt_two_pow (n:=32) h hx
theorem eW(h:s<4294967296)(hx:x<4294967296):eP s x<4294967296:=fM (fM (fE h hx))
theorem pD(bs:List UInt8)(x:UInt8):dW (bs++[x])=eP (dW bs) x.toNat:=by simp[dW]
theorem qO(h:s<4294967296):bits .xor .u32 ((s:Int) / 16) ((ee.getD (s % 16) 0:Nat):Int)=((eQ s:Nat):Int):=by
 have:=u32_xor_nat (s / 16) (ee.getD (s % 16) 0) (by omega) (vw _);rw[←show((s / 16:Nat):Int)=(s:Int) / 16 by omega];exact this
theorem zW(v:Value)(bs:List UInt8)(hl:bs.length≤1000000000)(w:World)(h:aM w v bs)(hR:eS w):Calls Tryz.prog 143 #[v] w fun e w'=>e=.returned (.int .u32 ((fp bs:Nat):Int))∧w'=w:=by
 obtain⟨p,cap,rfl,hc⟩:=h;have HC:Hid (∀(i:Nat) (x:UInt8),bs[i]?=some x→∃b off,p=some ⟨b,off,none⟩∧w.cell? ⟨b,off+i,none⟩=some (.int .u8 (x.toNat:Int))):=hc;have HR:=hid hR;clear hc hR;go_enter Tryz.func143,Tryz.ntmps143
 go_wp2
 go_loopw [3,8] (fun s i wr=>∃(j m:Nat),j≤bs.length∧i=.int .i64 j∧s=.int .u32 (m:Int)∧m<4294967296∧Hid (m=dW (bs.take j))∧wr=w) (fun _ i _=>bs.length-(intOf i).toNat)
 case atStart=>exact⟨0,4294967295,Nat.zero_le _,rfl,rfl,by omega,rfl,rfl⟩
 case round =>
  obtain⟨j,m,hj,rfl,rfl,hm,HM,hw⟩:=hrel;subst hw;by_cases hlt:j<bs.length
  ·obtain⟨b,off,hp,hx⟩:=HC.out j bs[j] (List.getElem?_eq_getElem hlt);subst hp;have j0:(0:Int)≤(j:Int):=by omega
   have j1:(j:Int)<(bs.length:Int):=by omega
   have hx8:bs[j].toNat<256:=bs[j].toNat_lt;have HN:Hid (dW (bs.take (j+1))=eP m bs[j].toNat):=by
    show _=_
    rw[cF bs j hlt,pD,HM.out]
   have HLT:Hid (eP m bs[j].toNat<4294967296):=eW hm (by omega);have e1:bits .xor .u32 (m:Int) (bs[j].toNat:Int)=((m ^^^ bs[j].toNat:Nat):Int):=u32_xor_nat m bs[j].toNat hm (by omega);have l1:=fE hm (show bs[j].toNat<4294967296 by omega);have HS:Hid (eP m bs[j].toNat=eQ (eQ (m ^^^ bs[j].toNat))):=rfl;generalize bs[j].toNat=x at *;generalize m ^^^ x=s1 at *;have e2:=qO l1;have t1:=HR.out (s1 % 16) (by omega);have l2:=fM l1;generalize eQ s1=s2 at *;have e3:=qO l2;have t2:=HR.out (s2 % 16) (by omega);generalize eQ s2=s3 at *;generalize ee.getD (s1 % 16) 0=r1 at *;generalize ee.getD (s2 % 16) 0=r2 at *;have k1:((s1:Int) % 16).toNat=s1 % 16:=by omega
   have k2:((s2:Int) % 16).toNat=s2 % 16:=by omega
   have k3:(0:Int)≤(s1:Int) % 16∧(s1:Int) % 16<16:=by omega
   have k4:(0:Int)≤(s2:Int) % 16∧(s2:Int) % 16<16:=by omega
   obtain⟨k5,k6⟩:=k3;obtain⟨k7,k8⟩:=k4;go_wp2_with fail
   go_roundw
   case rel=>exact⟨j+1,s3,by omega,by go_num,rfl,by rw[←HS.out];exact HLT.out,(by show _=_;rw[HN.out,HS.out]),trivial⟩
   case measure=>simp[intOf];omega
  have HF:Hid (fp bs=4294967295 ^^^ m):=by show _=_;rw[HM.out,List.take_of_length_le (by omega)];rfl
  have hmx:IntKind.u32.max=((4294967295:Nat):Int):=by decide +kernel
  have HE:Hid (bits .xor .u32 IntKind.u32.max (m:Int)=((fp bs:Nat):Int)):=by
   show _=_
   rw[hmx,HF.out];exact u32_xor_nat 4294967295 m (by omega) hm
  clear hmx HF;go_wp2_with fail
  go_ret
  exact⟨by rw[←HE.out];rfl,rfl⟩
def numF:Nat→Nat→List UInt8
 |0,n=>[CA n]
 |f+1,n=>if n<128 then[CA n] else CA (n % 128+128)::numF f (n / 128)
def cG(n:Nat):List UInt8:=numF n n
theorem qx:∀(f g n:Nat),n≤f→n≤g→numF f n=numF g n
 |0,g,n,hf,_=>by
  obtain rfl:n=0:=by omega
  cases g <;> simp[numF]
 |f+1,0,n,_,hg=>by
  obtain rfl:n=0:=by omega
  simp[numF]
 |f+1,g+1,n,hf,hg=>by
  simp only[numF];by_cases h:n<128
  ·rw[if_pos h,if_pos h]
  rw[if_neg h,if_neg h,qx f g (n / 128) (by omega) (by omega)]
theorem lC(h:n<128):cG n=[CA n]:=by
 unfold cG;cases n with
 |zero=>rfl
 |succ n=>simp only[numF,if_pos h]
theorem oZ(h:¬ n<128):cG n=CA (n % 128+128)::cG (n / 128):=by
 unfold cG;cases n with
 |zero=>omega
 |succ n =>
  simp only[numF,if_neg h];rw[qx n ((n+1) / 128) ((n+1) / 128) (by omega) (Cl _)]
theorem jD:∀(k n:Nat),n<128 ^ (k+1)→(cG n).length≤k+1
 |0,n,h=>by rw[lC (by omega)];simp
 |k+1,n,h=>by
  by_cases hn:n<128
  ·rw[lC hn];simp
  rw[oZ hn,CR];have:=jD k (n / 128) (by
   rw[Nat.div_lt_iff_lt_mul (by omega)];rw[Nat.pow_succ]at h
   exact h)
  omega
structure wY(B:Nat)(w:World)(v:Value)(l:List UInt8)(v':Value)(W:World):Prop where
 row:W.ownsRow B 5 1 v' l.length (Lib.byteCells l)
 own:∀b,v'.ownBlock=some b→v.ownBlock=some b∨w.heap.size≤b
 upd:an [v.ownBlock] w W
theorem wY.refl{B:Nat}{w:World}{v:Value}{l:List UInt8}(h:w.ownsRow B 5 1 v l.length (Lib.byteCells l)):wY B w v l v w:=⟨h,fun b hb=>.inl hb,an.refl _ _⟩
theorem mH(l:List UInt8)(x:UInt8):Lib.byteCells (l++[x])=Lib.byteCells l++[.int .u8 (x.toNat:Int)]:=by simp[Lib.byteCells]
theorem wY.step{v1:Value}{W2 w3:World}{g cap:Nat}{x:UInt8}(h:wY B w v l v1 W)(hb:Below W.heap.size W W2)(ho:w3.ownsRow B 5 1 (.slice (some ⟨g,0,none⟩) (l.length+1) cap) (l.length+1) (Lib.byteCells l++[.int .u8 (x.toNat:Int)]))(hg:W2.grownBy w3 v1.ownBlock)(hat:v1.ownBlock=some g∨g=W2.heap.size):wY B w v (l++[x]) (.slice (some ⟨g,0,none⟩) (l.length+1) cap) w3:=by
 refine⟨by rw[mH,Cz];exact ho,fun b hb'=>?_,?_⟩
 ·cases hb';rcases hat with e|e
  ·exact h.own g e
  right
  have h1:=h.upd.size;have h2:=hb.size;show w.heap.size≤g
  omega
 have u2:an [v.ownBlock] w W2:=h.upd.trans (an.of_below (S:=[v.ownBlock]) hb) (fun i hi=>.inl hi);refine u2.grown hg fun b hb'=>?_
 rcases h.own b hb' with e|e
 ·exact .inl (by simp[e])
 exact .inr e
theorem Tryz.AT:(Tryz.prog.info? 5).map (fun i=>(i.zero,i.size,i.bytes))=some (some (.int .u8 0),1,1):=by kernel_rfl
theorem jc(B:Nat)(v:Value)(l:List UInt8)(n:Nat)(hn:n<1152921504606846976)(hl:l.length≤1000000)(w:World)(hown:w.ownsRow B 5 1 v l.length (Lib.byteCells l))(hB:B≤w.heap.size):Calls Tryz.prog 142 #[v,.int .i64 (n:Int)] w fun e w'=>∃v',e=.returned v'∧wY B w v (l++cG n) v' w':=by
 obtain⟨i0,hi0,hz0,hz1,hz2⟩:=info_parts Tryz.AT;have HT0:Hid (wY B w v l v w):=wY.refl hown;have hlen9:=jD 8 n (by omega);clear hown;go_enter Tryz.func142,Tryz.ntmps142
 go_wp2
 go_loopw [0,1] (fun a m wr=>∃(acc:List UInt8) (k:Nat),m=.int .i64 k∧k≤n∧Hid (wY B w v acc a wr∧acc++cG k=l++cG n)) (fun _ m _=>(intOf m).toNat)
 case atStart=>exact⟨l,n,rfl,Cl _,HT0.out,rfl⟩
 case round =>
  obtain⟨acc,k,rfl,hk,HI⟩:=hrel;obtain⟨pa,ca,hav⟩:=aW HI.out.1.row;subst hav;have hal:acc.length≤1000009:=by
   have:=congrArg List.length HI.out.2;simp only[Cz]at this;omega
  have hsz:=HI.out.1.upd.size;by_cases hlt:k<128
  ·have hxv:((CA k).toNat:Int)=(k:Int):=by rw[UInt8.toNat_ofNat'];omega
   have HN:Hid (acc++[CA k]=l++cG n):=by show _=_;rw[←HI.out.2,lC hlt]
   have e1:¬ (128:Int)≤(k:Int):=by omega
   have HR:Hid (∀o,(wr.alloc o).ownsRow B 5 1 (.slice pa acc.length ca) acc.length (Lib.byteCells acc)∧Below wr.heap.size wr (wr.alloc o)):=fun o=>⟨(an.of_below (S:=[]) ((Ck _ wr).alloc (Cl _) o)).owns HI.out.1.row (by simp),(Ck _ wr).alloc (Cl _) o⟩
   go_wp2_with (at_builtin;refine wpList_append_lies _ rfl _ _ 55 rfl B 5 i0 (.int .u8 0) 1 1 Tryz.underlying55 hi0 hz0 hz1 hz2 rfl (by decide) (.slice pa acc.length ca) acc.length (Lib.byteCells acc) (by rfl) (HR.out _).1 ⟨wr.heap.size,0,none⟩ 1 1 [.int .u8 (k:Int)] (by rfl) (by rfl) (CH (heap_alloc_new _ _)) (by simp[Value.oneCell']) (by omega) (by unfold maxLen;omega) (by omega) (by simp;omega) (wr.heap.size+1) (by simp) ?_;intro g3 cap3 w3 ho3 hg3 hat3 _)
   go_ret
   refine⟨_,rfl,?_⟩;rw[←HN.out];have:=HI.out.1.step (x:=CA k) (HR.out (.cells #[.int .u8 (k:Int)] 5)).2 (by rw[hxv];exact ho3) hg3 (by simpa using hat3);exact this
  have hx8:(CA (k % 128+128)).toNat=k % 128+128:=by rw[UInt8.toNat_ofNat'];omega
  have HN:Hid ((acc++[CA (k % 128+128)])++cG (k / 128)=l++cG n):=by show _=_;rw[←HI.out.2,oZ hlt];simp
  have e1:(128:Int)≤(k:Int):=by omega
  have HR:Hid (∀o,(wr.alloc o).ownsRow B 5 1 (.slice pa acc.length ca) acc.length (Lib.byteCells acc)∧Below wr.heap.size wr (wr.alloc o)):=fun o=>⟨(an.of_below (S:=[]) ((Ck _ wr).alloc (Cl _) o)).owns HI.out.1.row (by simp),(Ck _ wr).alloc (Cl _) o⟩
  have hxv:((CA (k % 128+128)).toNat:Int)=(k:Int) % 128+128:=by rw[hx8];omega
  go_wp2_with (at_builtin;refine wpList_append_lies _ rfl _ _ 55 rfl B 5 i0 (.int .u8 0) 1 1 Tryz.underlying55 hi0 hz0 hz1 hz2 rfl (by decide) (.slice pa acc.length ca) acc.length (Lib.byteCells acc) (by rfl) (HR.out _).1 ⟨wr.heap.size,0,none⟩ 1 1 [.int .u8 ((k:Int) % 128+128)] (by rfl) (by rfl) (CH (heap_alloc_new _ _)) (by simp[Value.oneCell']) (by omega) (by unfold maxLen;omega) (by omega) (by simp;omega) (wr.heap.size+1) (by simp) ?_;intro g3 cap3 w3 ho3 hg3 hat3 _)
  have hst:=HI.out.1.step (x:=CA (k % 128+128)) (HR.out (.cells #[.int .u8 ((k:Int) % 128+128)] 5)).2 (by rw[hxv];exact ho3) hg3 (by simpa using hat3);have hdv:(k:Int) / 128=((k / 128:Nat):Int):=by omega
  rw[hdv];go_roundw
  ·exact⟨acc++[CA (k % 128+128)],k / 128,rfl,by omega,hst,HN.out⟩
  show((k / 128:Nat):Int).toNat<((k:Int)).toNat
  omega
structure eI(B:Nat)(w:World)(v:Value)(l:List UInt8)(W:World):Prop where
 row:W.ownsRow B 5 1 v l.length (Lib.byteCells l)
 below:Below B w W
theorem aU(h:w.ownsRow B e s v n xs)(hb:v.ownBlock=some b):B≤b:=by
 rcases h.2 with⟨rfl,_⟩|⟨g,cap,cur,rfl,hg,_⟩
 ·cases hb
 cases hb;exact hg
theorem uB{S:List (Option Nat)}{b c:World}(h:Below B a b)(hB:B≤b.heap.size)(hu:an S b c)(hS:∀i,some i∈S→B≤i):Below B a c:=h.trans ⟨hu.os,hu.tape,hu.output,hu.size,fun k hk=>hu.block k (by omega) fun e=>by have:=hS k e;omega⟩
theorem eI.to{W':World}{v':Value}{l':List UInt8}(h:eI B w v l W)(hB:B≤W.heap.size)(k:wY B W v l' v' W'):eI B w v' l' W':=⟨k.row,uB h.below hB k.upd fun i hi=>aU h.row (by simpa using (List.mem_singleton.1 hi).symm)⟩
theorem dC(h:w.ownsRow B 5 1 v l.length (Lib.byteCells l)):aM w v l:=by
 rcases h.2 with⟨rfl,h0⟩|⟨g,cap,cur,rfl,hg,hh,_,_,hsz,ht⟩
 ·refine⟨none,0,by rw[h0],fun i x hx=>?_⟩;rw[List.length_eq_zero_iff.1 h0]at hx
  simp at hx
 refine⟨some ⟨g,0,none⟩,cap,rfl,fun i x hx=>⟨g,0,rfl,?_⟩⟩;rw[Nat.zero_add,cell_of_heap hh,←Array.getElem?_toList];have hi:i<l.length:=(List.getElem?_eq_some_iff.1 hx).1;have h2:(Lib.byteCells l)[i]?=some (.int .u8 (x.toNat:Int)):=by simp[Lib.byteCells,hx]
 rw[←ht,List.getElem?_take,if_pos (by omega)]at h2;exact h2
theorem qo{C:Array Value}(hb:B≤b)(hh:w.heap[b]?=some (.cells C 5 (0,0)))(hC:C.toList=Lib.byteCells l)(hn:n=l.length)(hm:n≤1000000):w.ownsRow B 5 1 (.slice (some ⟨b,0,none⟩) n n) l.length (Lib.byteCells l):=by
 subst hn;have hlen:(Lib.byteCells l).length=l.length:=by simp[Lib.byteCells]
 refine⟨by rw[hlen,DK],.inr ⟨b,l.length,C,rfl,hb,hh,Cl _,by unfold maxLen;omega,?_,?_⟩⟩
 ·rw[←Dm,hC,hlen,DK]
 rw[hC,DK,←hlen,List.take_length]
theorem zB(a b h:Nat)(ha:a<256)(hb:b<256)(hh:h<1152921504606846976)(ep:Option Addr)(en ec:Nat)(w:World):Calls Tryz.prog 102 #[.agg #[.int .i64 (a:Int),.int .i64 (b:Int),.int .i64 (h:Int),.slice ep en ec]] w fun e w'=>∃v',e=.returned v'∧eI w.heap.size w v' (CA a::CA b::cG h) w':=by
 have ha8:((CA a).toNat:Int)=(a:Int):=by rw[UInt8.toNat_ofNat'];omega
 have hb8:((CA b).toNat:Int)=(b:Int):=by rw[UInt8.toNat_ofNat'];omega
 have e1:(a:Int) % 256=a:=by omega
 have e2:(b:Int) % 256=b:=by omega
 go_enter Tryz.func102,Tryz.ntmps102
 have hbox:∀o1 o2,eI w.heap.size w (.slice (some ⟨w.heap.size+1,0,none⟩) 2 2) [CA a,CA b] ((w.alloc (.cells o1 140)).alloc (.cells o2 5))∨o2≠#[.int .u8 (a:Int),.int .u8 (b:Int)]:=fun o1 o2=>by
  by_cases ho:o2=#[.int .u8 (a:Int),.int .u8 (b:Int)]
  ·left
   refine⟨qo (C:=o2) (by omega) ?_ ?_ rfl (by omega),((Ck _ w).alloc (Cl _) _).alloc (by simp) _⟩
   ·have:=heap_alloc_new (w.alloc (.cells o1 140)) (.cells o2 5);simpa using this
   rw[ho];simp only[Lib.byteCells,Dp,DV,ha8,hb8]
  exact .inr ho
 have HB:Hid (∀o1,eI w.heap.size w (.slice (some ⟨w.heap.size+1,0,none⟩) 2 2) [CA a,CA b] ((w.alloc (.cells o1 140)).alloc (.cells #[.int .u8 (a:Int),.int .u8 (b:Int)] 5))):=fun o1=>by
  rcases hbox o1 #[.int .u8 (a:Int),.int .u8 (b:Int)] with h|h
  ·exact h
  exact absurd rfl h
 clear hbox ha8 hb8;go_wp2_with (go_at_call 142;refine(jc w.heap.size _ [CA a,CA b] h hh (by simp) _ (HB.out _).row (by simp;omega)).mono ?_;rintro e w2 ⟨v2,rfl,hv2⟩)
 go_ret
 exact⟨v2,rfl,(HB.out _).to (by simp;omega) hv2⟩
theorem dc(h:w.ownsRow B e s v n xs)(hB:B'≤B):w.ownsRow B' e s v n xs:=by
 refine⟨h.1,?_⟩;rcases h.2 with h0|⟨g,cap,cur,h1,h2,h3⟩
 ·exact .inl h0
 exact .inr ⟨g,cap,cur,h1,by omega,h3⟩
theorem eI.weaken(h:eI B a v l W)(hB:B'≤B)(hb:Below B' w a):eI B' w v l W:=⟨dc h.row hB,hb.trans (h.below.mono hB)⟩
def eh(x:Rc)(j:Nat):List UInt8:=(List.range j).flatMap fun i=>cG (x.get i)
def cH(x:En):List UInt8:=eh x.ah 5++[CA (aQ x.c).size]++(aQ x.c).data.toList
theorem lu(x:Rc)(j:Nat):eh x (j+1)=eh x j++cG (x.get j):=by simp[eh,List.range_succ]
theorem Rc.AU{x:Rc}{m:Nat}(h:x.lt m)(h0:0<m)(j:Nat):x.get j<m:=by
 obtain⟨h1,h2,h3,h4,h5⟩:=h;unfold Rc.get
 repeat (split;· assumption)
 exact h0
theorem gI{x:Rc}(h:x.lt 1152921504606846976):∀j,(eh x j).length≤9*j
 |0=>by simp[eh]
 |j+1=>by
  rw[lu,Cz];have h1:=gI h j;have h2:=jD 8 (x.get j) (by have:=Rc.AU h (by omega) j;omega);omega
theorem gX{c:Cm}(hc:nF c):(aQ c).size≤18:=by
 have hw8:c.word.size≤8:=by
  have:=hc.word;simp only[bd,Bool.and_eq_true,decide_eq_true_eq]at this;omega
 have hb6:c.k.bs.size≤6:=by cases c.k <;> decide
 unfold aQ;by_cases hk:c.k=.closed
 ·have hcnt:=(hc.add hk).2;have hd2:(dE c.count).size≤2:=eE 1 c.count (by omega);rw[if_pos hk];simp only[C7];have e1:(CU #[32]).size=1:=rfl;omega
 rw[if_neg hk];simp only[C7];have e1:(CU #[32]).size=1:=rfl;have e2:ByteArray.empty.size=0:=rfl;omega
theorem Ar(x:Rc){j:Nat}(hj:j<5)(w:World):(Instr.index 102 (.agg #[.int .i64 (x.a:Int),.int .i64 (x.b:Int),.int .i64 (x.c:Int),.int .i64 (x.d:Int),.int .i64 (x.e:Int)]) (.int .i64 (j:Int))).run Tryz.prog w=.ok (.int .i64 (x.get j:Int)) w:=by
 rcases(show j=0∨j=1∨j=2∨j=3∨j=4 by omega) with rfl|rfl|rfl|rfl|rfl <;> kernel_rfl
theorem pG(x:En)(w:World)(hv:ba w):Calls Tryz.prog 103 #[.slice none 0 0,x.val] w fun e w'=>∃v',e=.returned v'∧eI w.heap.size w v' (cH x) w':=by
 obtain⟨i0,hi0,hz0,hz1,hz2⟩:=info_parts Tryz.AT;unfold En.val;go_enter Tryz.func103,Tryz.ntmps103
 go_upto_region 1 with fail
 obtain⟨wa,hwa⟩:∃wa,w.alloc (.cells #[.int .i64 (x.org:Int),.int .i64 (x.seq:Int),.int .i64 (x.ah.a:Int),.int .i64 (x.ah.b:Int),.int .i64 (x.ah.c:Int),.int .i64 (x.ah.d:Int),.int .i64 (x.ah.e:Int),.int .i64 (x.c.k.num:Int),.string x.c.word,.int .i64 (x.c.count:Int)] 122)=wa:=⟨_,rfl⟩
 have hea:wa.heap[w.heap.size]?=some (.cells #[.int .i64 (x.org:Int),.int .i64 (x.seq:Int),.int .i64 (x.ah.a:Int),.int .i64 (x.ah.b:Int),.int .i64 (x.ah.c:Int),.int .i64 (x.ah.d:Int),.int .i64 (x.ah.e:Int),.int .i64 (x.c.k.num:Int),.string x.c.word,.int .i64 (x.c.count:Int)] 122 (0,0)):=by rw[←hwa];exact heap_alloc_new w _
 have HBA:Hid (Below w.heap.size w wa):=by show Below _ _ _;rw[←hwa];exact(Ck _ w).alloc (Cl _) _
 have hsa:wa.heap.size=w.heap.size+1:=by rw[←hwa];simp
 rw[hwa];clear hwa;have a2:wa.cell? ⟨w.heap.size,2,none⟩=some (.int .i64 (x.ah.a:Int)):=cell_of_heap hea _;have a3:wa.cell? ⟨w.heap.size,3,none⟩=some (.int .i64 (x.ah.b:Int)):=cell_of_heap hea _;have a4:wa.cell? ⟨w.heap.size,4,none⟩=some (.int .i64 (x.ah.c:Int)):=cell_of_heap hea _;have a5:wa.cell? ⟨w.heap.size,5,none⟩=some (.int .i64 (x.ah.d:Int)):=cell_of_heap hea _;have a6:wa.cell? ⟨w.heap.size,6,none⟩=some (.int .i64 (x.ah.e:Int)):=cell_of_heap hea _;have a7:wa.cell? ⟨w.heap.size,7,none⟩=some (.int .i64 (x.c.k.num:Int)):=cell_of_heap hea _;have a8:wa.cell? ⟨w.heap.size,8,none⟩=some (.string x.c.word):=cell_of_heap hea _;have a9:wa.cell? ⟨w.heap.size,9,none⟩=some (.int .i64 (x.c.count:Int)):=cell_of_heap hea _;have hva:ba wa:=hv.below HBA.out;have HVA:Hid (ba wa):=hva;clear hva hv hea;go_wp2
 go_loopw [0,11] (fun v i wr=>∃j:Nat,j≤5∧i=.int .i64 j∧Hid (eI wa.heap.size wa v (eh x.ah j) wr)) (fun _ i _=>5-(intOf i).toNat)
 case atStart=>exact⟨0,by omega,rfl,⟨by simp[eh,Lib.byteCells],.inl ⟨rfl,by simp[eh]⟩⟩,Ck _ _⟩
 case round =>
  obtain⟨j,hj,rfl,HI⟩:=hrel;obtain⟨pa,ca,hav⟩:=aW HI.out.row;subst hav;have hsz:=HI.out.below.size;by_cases hj5:j<5
  ·have hix:=Ar x.ah hj5;have hg:=Rc.AU x.ha (by omega) j;have hlen:=gI x.ha j;have e5:((j:Int)<5)=True:=by simp;omega
   generalize hgj:x.ah.get j=gj at *;have HG:Hid (eh x.ah (j+1)=eh x.ah j++cG gj):=by show _=_;rw[lu,hgj]
   clear hgj;go_wp2_with (go_at_call 142;refine(jc wa.heap.size _ (eh x.ah j) gj hg (by omega) _ HI.out.row (by omega)).mono ?_;rintro e w2 ⟨v2,rfl,hv2⟩)
   go_roundw
   case rel=>exact⟨j+1,by omega,by simp,by rw[HG.out];exact HI.out.to (by omega) hv2⟩
   case measure=>simp[intOf];omega
  have e5:((j:Int)<5)=False:=by simp;omega
  obtain rfl:j=5:=by omega
  have b7:=aa HI.out.below a7;have b8:=aa HI.out.below a8;have b9:=aa HI.out.below a9;have HT:Hid (Calls Tryz.prog 100 #[.agg #[.int .i64 (x.c.k.num:Int),.string x.c.word,.int .i64 (x.c.count:Int)]] wr fun e w'=>e=.returned (.string (aQ x.c))∧Below wr.heap.size wr w'):=pP x.c x.hc wr (HVA.out.below HI.out.below);have hts:=gX x.hc;have hal:=gI x.ha 5;have HE:Hid (cH x=eh x.ah 5++[CA (aQ x.c).size]++(aQ x.c).data.toList):=rfl;clear a2 a3 a4 a5 a6 a7 a8 a9;generalize aQ x.c=tx at *;generalize eh x.ah 5=ab at *;go_upto_region 7 with(go_at_call 100;refine HT.out.mono ?_;rintro e w2 ⟨rfl,hw2⟩)
  have hs2:=hw2.size;have HB2:Hid (eI wa.heap.size wa (.slice pa ab.length ca) ab w2):=⟨(an.of_below (S:=[]) hw2).owns HI.out.row (by simp),HI.out.below.trans (hw2.mono (by omega))⟩;have HR:Hid (∀o,(w2.alloc o).ownsRow wa.heap.size 5 1 (.slice pa ab.length ca) ab.length (Lib.byteCells ab)∧Below w2.heap.size w2 (w2.alloc o)):=fun o=>⟨(an.of_below (S:=[]) ((Ck _ w2).alloc (Cl _) o)).owns HB2.out.row (by simp),(Ck _ w2).alloc (Cl _) o⟩
  have hxv:((CA tx.size).toNat:Int)=(tx.size:Int):=by rw[UInt8.toNat_ofNat'];omega
  have HX:Hid (((CA tx.size).toNat:Int)=(tx.size:Int)):=hxv;clear hxv hw2 HT b7 b8 b9;go_wp2_with (at_builtin;first
   |(refine wpList_append_lies _ rfl _ _ 55 rfl wa.heap.size 5 i0 (.int .u8 0) 1 1 Tryz.underlying55 hi0 hz0 hz1 hz2 rfl (by decide) (.slice pa ab.length ca) ab.length (Lib.byteCells ab) (by rfl) (HR.out _).1 ⟨w2.heap.size,0,none⟩ 1 1 [.int .u8 (tx.size:Int)] (by rfl) (by rfl) (CH (heap_alloc_new _ _)) (by simp[Value.oneCell']) (by omega) (by unfold maxLen;omega) (by omega) (by simp;omega) (w2.heap.size+1) (by simp) ?_;intro g3 cap3 w3 ho3 hg3 hat3 _)
   |(refine Lib.wpList_append_own_string _ rfl _ _ 55 9 rfl wa.heap.size 5 i0 Tryz.underlying55 Tryz.underlying9 hi0 hz0 hz1 hz2 _ (ab.length+1) _ (by rfl) ho3 tx (by rfl) (by unfold maxLen;omega) (by omega) (by have:=hg3.size;simp at this;omega) ?_;intro v4 w4 ho4 hg4 _))
  go_ret
  have b3:Below wa.heap.size wa w3:=(HB2.out.below.trans ((HR.out _).2.mono (by omega))).grown hg3 (by simp;omega) fun k hk=>aU HB2.out.row hk
  have b4:Below wa.heap.size wa w4:=b3.grown hg4 b3.size fun k hk=>aU ho3 hk
  have hrow:w4.ownsRow wa.heap.size 5 1 v4 (cH x).length (Lib.byteCells (cH x)):=by
   rw[HE.out];have e1:Lib.byteCells (ab++[CA tx.size]++tx.data.toList)=Lib.byteCells ab++[.int .u8 (tx.size:Int)]++Lib.strCells tx:=by
    simp only[Lib.byteCells,Lib.strCells,List.map_append,Dp,DV,HX.out]
   have e2:(ab++[CA tx.size]++tx.data.toList).length=ab.length+1+tx.size:=by
    simp only[Cz,CR,List.length_nil,Dm];rfl
   rw[e1,e2];exact ho4
  exact⟨v4,rfl,eI.weaken ⟨hrow,b4⟩ (by omega) HBA.out⟩
end Go.Proofs.YtckmppkdpnhodaaGreatDoor
