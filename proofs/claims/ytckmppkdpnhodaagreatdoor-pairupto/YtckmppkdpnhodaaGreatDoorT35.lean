import Derived.Test.YtckmppkdpnhodaaGreatDoorT33
import Derived.Test.YtckmppkdpnhodaaGreatDoorT34
import Derived.Test.YtckmppkdpnhodaaGreatDoorT00
set_option maxRecDepth 100000
set_option maxHeartbeats 8000000
set_option linter.unusedVariables false
set_option linter.unusedSimpArgs false
open List renaming length_take→CI,nil_append→DC,append_nil→Da
open Go.World renaming ownsRow_nil→CW
open Nat renaming le_refl→Cl,zero_add→CJ
open Go.Value renaming ownBlock→Cp
open Go.Addr renaming add_mid→CS
open UInt8 renaming ofNat→CA
namespace Go.Proofs.YtckmppkdpnhodaaGreatDoor
open Go.RowKit Go.Proofs
attribute [local go_sem ↓] Go.wp_at_zero Go.wp_at_succ
variable {base cap g k n:Nat} {e:TypeId} {w:World} {xs:List Value}
theorem lV(c n:Int)(w:World)(hc : -9223372036854775808≤c∧c≤9223372036854775807)(hn:0<n∧n≤9223372036854775807):Calls Tryz.prog 32 #[.int .i64 c,.int .i64 n] w fun e w'=>e=.returned (.int .i64 (aE c n:Int))∧w'=w:=by
 obtain⟨hc1,hc2⟩:=hc;obtain⟨hn1,hn2⟩:=hn;have HP:Hid ((aE c n:Int)=(if c<0 then -(c+1) else c) % n):=nU hn1;by_cases h:c<0
 ·have hp:0≤-(c+1):=by omega
  go_enter Tryz.func32,Tryz.ntmps32
  go_wp2
  go_ret
  refine⟨cM ?_,rfl⟩;rw[HP.out,if_pos h,←Int.neg_tmod,Int.tmod_eq_emod_of_nonneg hp]
 go_enter Tryz.func32,Tryz.ntmps32
 go_wp2
 go_ret
 exact⟨cM (by rw[HP.out,if_neg (by omega)]),rfl⟩
theorem vF(h:w.ownsRow base e 1 (.slice (some ⟨g,0,none⟩) n cap) n xs)(hk:k≤n):w.ownsRow base e 1 (.slice (some ⟨g,0,none⟩) k cap) k (xs.take k):=by
 rcases h.2 with⟨h1,_⟩|⟨g',cap2,cur,hv,hb,hg,h1,h2,h3,h4⟩
 ·cases h1
 simp only[Value.slice.injEq,Option.some.injEq,Addr.mk.injEq,and_true,true_and]at hv;obtain⟨rfl,rfl⟩:=hv;refine⟨by rw[CI,h.1];omega,.inr ⟨g,cap,cur,rfl,hb,hg,by omega,h2,h3,?_⟩⟩;rw[←h4,List.take_take];congr 1
 omega
theorem mG(f:List UInt8)(k:Nat):(Lib.byteCells f).take k=Lib.byteCells (f.take k):=by simp[Lib.byteCells,List.map_take]
theorem byteCells_append(f g:List UInt8):Lib.byteCells (f++g)=Lib.byteCells f++Lib.byteCells g:=by simp[Lib.byteCells]
theorem nA(f:List UInt8)(k:Nat)(x:UInt8):(Lib.byteCells f).set k (.int .u8 (x.toNat:Int))=Lib.byteCells (f.set k x):=by simp[Lib.byteCells,List.map_set]
theorem oO{c d:Int}(hc : -9223372036854775808≤c∧c≤9223372036854775807)(hd:0<d) : -9223372036854775808≤c.tdiv d∧c.tdiv d≤9223372036854775807:=by
 rcases Int.le_total 0 c with h|h
 ·rw[Int.tdiv_eq_ediv_of_nonneg h];have h1:=Int.ediv_nonneg h (Int.le_of_lt hd);have h2:=Int.ediv_le_self d h;omega
 have e:c.tdiv d = -((-c) / d):=by rw[←Int.tdiv_eq_ediv_of_nonneg (show 0≤-c by omega),Int.neg_tdiv,Int.neg_neg]
 rw[e];have h1:=Int.ediv_nonneg (show 0≤-c by omega) (Int.le_of_lt hd);have h2:=Int.ediv_le_self d (show 0≤-c by omega);omega
def uH(w:World)(f:List UInt8)(e:Ending)(w':World):Prop:=∃(g:List UInt8) (z cz:Nat),e=.returned (.slice (some ⟨z,0,none⟩) g.length cz)∧w'.ownsRow w.heap.size 5 1 (.slice (some ⟨z,0,none⟩) g.length cz) g.length (Lib.byteCells g)∧g.length≤205∧(okB f=true→okB g=false)∧Below w.heap.size w w'
theorem xf(p:Option Addr)(cc:Nat)(f:List UInt8)(hf:5≤f.length∧f.length≤200)(b c:Int)(hb : -9223372036854775808≤b∧b≤9223372036854775807)(hc : -9223372036854775808≤c∧c≤9223372036854775807)(w:World)(hby:aM w (.slice p f.length cc) f):Calls Tryz.prog 73 #[.slice p f.length cc,.int .i64 b,.int .i64 c] w fun e w'=>uH w f e w':=by
 obtain⟨i0,hi0,hz0,hz1,hz2⟩:=info_parts Tryz.AI;obtain⟨ad,hp,hsrc⟩:=oz hby (by omega);subst hp;have HSR:Hid (∀j v,(Lib.byteCells f)[j]?=some v→w.cell? (ad.add j)=some v):=hsrc;have HL:Hid ((Lib.byteCells f).length=f.length*1):=by show _=_;rw[aV];omega
 have hp3:aE b 3<3:=by have:(aE b 3:Int)<3:=cI (by omega);omega
 have HP3:Hid (∀w,Calls Tryz.prog 32 #[.int .i64 b,.int .i64 3] w fun e w'=>e=.returned (.int .i64 (aE b 3:Int))∧w'=w):=fun w=>lV b 3 w hb (by omega)
 have hpl:aE c f.length<f.length:=by have:(aE c f.length:Int)<f.length:=cI (by omega);omega
 have HPL:Hid (∀w,Calls Tryz.prog 32 #[.int .i64 c,.int .i64 (f.length:Int)] w fun e w'=>e=.returned (.int .i64 (aE c f.length:Int))∧w'=w):=fun w=>lV c f.length w hc (by omega)
 have hp5:aE c 5<5:=by have:(aE c 5:Int)<5:=cI (by omega);omega
 have HP5:Hid (∀w,Calls Tryz.prog 32 #[.int .i64 c,.int .i64 5] w fun e w'=>e=.returned (.int .i64 (aE c 5:Int))∧w'=w):=fun w=>lV c 5 w hc (by omega)
 clear hby hsrc;generalize aE b 3=b3 at *;generalize aE c f.length=cl at *;generalize aE c 5=c5 at *;go_enter Tryz.func73,Tryz.ntmps73
 go_upto_region 8 with(first
  |(at_builtin;refine wpList_append_lies _ rfl _ _ 55 rfl w.heap.size 5 i0 (.int .u8 0) 1 1 Tryz.underlying55 hi0 hz0 hz1 hz2 rfl (by decide) (.slice none 0 0) 0 [] (by rfl) (CW ..) ad f.length cc (Lib.byteCells f) (by rfl) HL.out HSR.out byteCells_one (by omega) (by unfold maxLen;omega) (by omega) (Cl _) w.heap.size rfl ?_;intro g1 cap1 w1 ho1 hg1 hat1 hlt1;have HO1:Hid (w1.ownsRow w.heap.size 5 1 (.slice (some ⟨g1,0,none⟩) f.length cap1) f.length (Lib.byteCells f)∧Below w.heap.size w w1):=⟨by rw[CJ,DC]at ho1;exact ho1,hg1.os,hg1.tape,hg1.output,hg1.size,fun b hb=>hg1.block b hb (by simp[Cp])⟩;clear ho1 hg1 hat1)
  |(go_at_call 32;refine(HP3.out _).mono ?_;rintro e w' ⟨rfl,hw⟩;have hw':=hw.symm;clear hw;subst hw'))
 (try rw[CJ])
 rcases(show b3=0∨b3=1∨b3=2 by omega) with rfl|rfl|rfl
 ·have HQ:Hid (∀w,Calls Tryz.prog 32 #[.int .i64 (c.tdiv f.length),.int .i64 255] w fun e w'=>e=.returned (.int .i64 (aE (c.tdiv f.length) 255:Int))∧w'=w):=fun w=>lV _ 255 w (oO hc (by omega)) (by omega)
  have hq:aE (c.tdiv f.length) 255<255:=by have:(aE (c.tdiv f.length) 255:Int)<255:=cI (by omega);omega
  generalize aE (c.tdiv f.length) 255=pk at *;obtain⟨m,hm⟩:∃m,m=1+pk:=⟨_,rfl⟩
  have hmi:1+(pk:Int)=(m:Int):=by omega
  have hm1:(m:Int) % 256=(m:Int):=by omega
  have hm2:0<m∧m<256:=by omega
  have hcl:cl<f.length:=hpl;have hcli:(cl:Int)<(f.length:Int):=by omega
  have hl0:¬ f=[]:=fun e=>by rw[e]at hcl;simp at hcl
  have hwr:IntKind.i64.wrap (c.tdiv f.length)=c.tdiv f.length:=by have h:=oO hc (show(0:Int)<(f.length:Int) by omega);rw[IntKind.wrap_i64];omega
  have hw1:IntKind.i64.wrap (m:Int)=(m:Int):=by rw[IntKind.wrap_i64];omega
  have hw2:IntKind.u8.wrap (m:Int)=(m:Int):=by rw[IntKind.wrap_u8];omega
  have c0:w1.cell? ⟨g1,cl,none⟩=some (.int .u8 (f[cl].toNat:Int)):=by
   have:=HO1.out.1.cells (g:=g1) rfl cl (.int .u8 (f[cl].toNat:Int)) (by unfold Lib.byteCells;rw[List.getElem?_map,List.getElem?_eq_getElem hcl];rfl);rwa[CS,CJ]at this
  have f0:w1.frozen? ⟨g1,cl,none⟩=false:=by
   rcases HO1.out.1.2 with⟨h1,_⟩|⟨g',cap2,cur,hv,hb,hg,-⟩
   ·cases h1
   simp only[Value.slice.injEq,Option.some.injEq,Addr.mk.injEq,and_true,true_and]at hv;obtain⟨rfl,rfl⟩:=hv;exact frozen_of_heap hg cl
  obtain⟨y,hy⟩:∃y:UInt8,y=f[cl] ^^^ CA m:=⟨_,rfl⟩
  have hyn:f[cl].toNat ^^^ m=y.toNat:=by
   rw[hy,UInt8.toNat_xor,UInt8.toNat_ofNat'];congr 1
   omega
  have hx:bits .xor .u8 (f[cl].toNat:Int) (m:Int)=(y.toNat:Int):=by rw[u8_xor_nat _ _ f[cl].toNat_lt hm2.2,hyn]
  have HNE:Hid (y≠f[cl]):=fun e=>by
   rw[hy]at e;have e2:=congrArg UInt8.toNat e;rw[UInt8.toNat_xor,UInt8.toNat_ofNat']at e2
   have e3:f[cl].toNat ^^^ m % 2 ^ 8=f[cl].toNat ^^^ 0:=by rw[Nat.xor_zero];exact e2
   have:=xor_left_inj e3;omega
  have hxl:=f[cl].toNat_lt;have HEND:Hid (∀W:World,W=w1.setCell ⟨g1,cl,none⟩ (.int .u8 (y.toNat:Int))∨W=(w1.setCell ⟨g1,cl,none⟩ (.int .u8 (y.toNat:Int))).drew∨W=w1.drew.setCell ⟨g1,cl,none⟩ (.int .u8 (y.toNat:Int))→uH w f (.returned (.slice (some ⟨g1,0,none⟩) f.length cap1)) W):=fun W hW=>by
   have hset:=lW HO1.out.1 hcl (.int .u8 (y.toNat:Int));rw[nA]at hset
   have hle:(f.set cl y).length=f.length:=List.length_set;have hbel:Below w.heap.size w (w1.setCell ⟨g1,cl,none⟩ (.int .u8 (y.toNat:Int))):=HO1.out.2.setCell (p:=⟨g1,cl,none⟩) (show w.heap.size≤g1 from aU HO1.out.1 rfl) _;refine⟨f.set cl y,g1,cap1,by rw[hle],?_,by rw[hle];omega,fun hok=>vL hok hcl HNE.out,?_⟩
   ·rw[hle];rcases hW with rfl|rfl|rfl <;> exact hset
   rcases hW with rfl|rfl|rfl
   ·exact hbel
   ·exact hbel.drew
   exact HO1.out.2.drew.setCell (p:=⟨g1,cl,none⟩) (show w.heap.size≤g1 from aU HO1.out.1 rfl) _
  generalize f[cl].toNat=x at *;generalize y.toNat=yn at *;clear hy hyn hm HO1;go_upto_region 10 with(go_at_call 32;refine(HPL.out _).mono ?_;rintro e w' ⟨rfl,hw⟩;have hw':=hw.symm;clear hw;subst hw')
  go_region_law
   (rw[if_pos (by rfl)];(try dsimp only[List.getElem_toArray,List.getElem_cons_zero,List.getElem_cons_succ]);go_simp;refine(HQ.out _).mono ?_;rintro e w' ⟨rfl,hw⟩;have hw':=hw.symm;clear hw;subst hw')
  all_goals go_wp2
  all_goals go_ret
  all_goals (try rw[hw1,hw2,hx])
  all_goals first|exact HEND.out _ (.inl rfl)|exact HEND.out _ (.inr (.inl rfl))|exact HEND.out _ (.inr (.inr rfl))
 ·have hcl:cl≤f.length:=by omega
  have hcli:(cl:Int)≤(f.length:Int):=by omega
  have HEND:Hid (uH w f (.returned (.slice (some ⟨g1,0,none⟩) cl cap1)) w1):=by
   have ht:=vF HO1.out.1 hcl;rw[mG]at ht
   have hle:(f.take cl).length=cl:=by rw[CI];omega
   exact⟨f.take cl,g1,cap1,by rw[hle],by rw[hle];exact ht,by rw[hle];omega,fun hok=>wD hok hpl,HO1.out.2⟩
  have hcap:f.length≤cap1:=by
   rcases HO1.out.1.2 with⟨h1,_⟩|⟨g',cap2,cur,hv,hb,hg,h1,-⟩
   ·cases h1
   simp only[Value.slice.injEq,Option.some.injEq,Addr.mk.injEq,and_true,true_and]at hv;obtain⟨rfl,rfl⟩:=hv;exact h1
  have hcc:cl≤cap1:=by omega
  clear HO1;go_wp2_with (go_at_call 32;refine(HPL.out _).mono ?_;rintro e w' ⟨rfl,hw⟩;have hw':=hw.symm;clear hw;subst hw')
  go_ret
  exact HEND.out
 have hc5i:(c5:Int)<5:=by omega
 go_wp2
 go_loopw [7,9] (fun v i wr=>∃(k:Nat) (t:List UInt8) (z cz:Nat),k≤c5+1∧i=.int .i64 (k:Int)∧v=.slice (some ⟨z,0,none⟩) (f.length+k) cz∧Hid (t.length=k∧wr.ownsRow w.heap.size 5 1 (.slice (some ⟨z,0,none⟩) (f.length+k) cz) (f.length+k) (Lib.byteCells (f++t))∧Below w.heap.size w wr)) (fun _ i _=>6-(intOf i).toNat)
 case atStart=>exact⟨0,[],g1,cap1,by omega,rfl,rfl,rfl,by rw[Da];exact HO1.out.1,HO1.out.2⟩
 case round =>
  clear HO1;obtain⟨k,t,z,cz,hk,rfl,rfl,HI⟩:=hrel;by_cases hkc:k≤c5
  ·have hki:(k:Int)≤(c5:Int):=by omega
   have hsz:=HI.out.2.2.size;obtain⟨v,hv⟩:∃v:Int,v=c.tdiv ((k:Int)+1):=⟨_,rfl⟩
   have hvb:=oO hc (show(0:Int)<(k:Int)+1 by omega);rw[←hv]at hvb
   obtain⟨x,hx⟩:∃x:UInt8,(x.toNat:Int)=v % 256:=⟨CA (v % 256).toNat,by rw[UInt8.toNat_ofNat'];omega⟩
   have hxs:v % 256=(x.toNat:Int):=hx.symm;have hvs:c.tdiv ((k:Int)+1)=v:=hv.symm;have HAA:Hid (∀o,(wr.alloc o).ownsRow w.heap.size 5 1 (.slice (some ⟨z,0,none⟩) (f.length+k) cz) (f.length+k) (Lib.byteCells (f++t))):=fun o=>HI.out.2.1.alloc o
   have HN:Hid (∀(g cap:Nat) (o:Obj) (w5:World),w5.ownsRow w.heap.size 5 1 (.slice (some ⟨g,0,none⟩) (f.length+k+1) cap) (f.length+k+1) (Lib.byteCells (f++t)++[.int .u8 (x.toNat:Int)])→(wr.alloc o).grownBy w5 (Value.slice (some ⟨z,0,none⟩) (f.length+k) cz).ownBlock→Hid ((t++[x]).length=k+1∧w5.ownsRow w.heap.size 5 1 (.slice (some ⟨g,0,none⟩) (f.length+(k+1)) cap) (f.length+(k+1)) (Lib.byteCells (f++(t++[x])))∧Below w.heap.size w w5)):=fun g cap o w5 ho hg=>by
    refine⟨by simp[HI.out.1],?_,?_⟩
    ·rw[←List.append_assoc,byteCells_append (f++t)];exact ho
    have hz:=aU HI.out.2.1 (b:=z) rfl;have hb:=HI.out.2.2;refine⟨hg.os.trans hb.os,hg.tape.trans hb.tape,hg.output.trans hb.output,by have:=hg.size;simp at this;omega,fun b hbl=>?_⟩;rw[hg.block b (by simp;omega) (by simp[Cp];omega),Below.heap_alloc _ _ _ (by omega)];exact hb.block b hbl
   generalize x.toNat=xn at *;clear hx hv;have hxn:xn<256:=by omega
   go_wp2_with (first
    |(at_builtin;refine wpList_append_lies _ rfl _ _ 55 rfl w.heap.size 5 i0 (.int .u8 0) 1 1 Tryz.underlying55 hi0 hz0 hz1 hz2 rfl (by decide) (.slice (some ⟨z,0,none⟩) (f.length+k) cz) (f.length+k) (Lib.byteCells (f++t)) (by rfl) (HAA.out _) ⟨wr.heap.size,0,none⟩ 1 1 [.int .u8 (xn:Int)] (by rfl) (by rfl) (World.news_of_block (heap_alloc_new _ _)) (by simp[Value.oneCell']) (by omega) (by unfold maxLen;omega) (by omega) (by simp;omega) (wr.heap.size+1) (by simp) ?_;intro g5 cap5 w5 ho5 hg5 hat5 hgl5)
    |(go_at_call 32;refine(HP5.out _).mono ?_;rintro e w' ⟨rfl,hw⟩;have hw':=hw.symm;clear hw;subst hw'))
   go_roundw
   case rel =>
    have R:k+1≤c5+1∧Value.int .i64 ((k:Int)+1)=.int .i64 ((k+1:Nat):Int)∧Value.slice (some ⟨g5,0,none⟩) (f.length+k+1) cap5=.slice (some ⟨g5,0,none⟩) (f.length+(k+1)) cap5∧_:=⟨by omega,by simp,rfl,HN.out _ _ _ _ ho5 hg5⟩
    first
     |exact⟨k+1,_,g5,cap5,R⟩
     |((repeat apply Exists.intro);exact⟨⟨k+1,_,g5,cap5,R⟩,rfl⟩)
   case measure=>simp[intOf];omega
  have hki:¬ (k:Int)≤(c5:Int):=by omega
  have HEND:Hid (uH w f (.returned (.slice (some ⟨z,0,none⟩) (f.length+k) cz)) wr):=by
   obtain⟨h1,h2,h3⟩:=HI.out;have hle:(f++t).length=f.length+k:=by rw[List.length_append,h1]
   exact⟨f++t,z,cz,by rw[hle],by rw[hle];exact h2,by rw[hle];omega,fun hok=>ri hok fun e=>by rw[e]at h1;simp at h1;omega,h3⟩
  clear HI;go_wp2_with (go_at_call 32;refine(HP5.out _).mono ?_;rintro e w' ⟨rfl,hw⟩;have hw':=hw.symm;clear hw;subst hw')
  go_ret
  exact HEND.out
theorem Tryz.AL:(Tryz.prog.info? 154).map (fun i=>(i.zero,i.size,i.bytes))=some (some (.agg #[.int .i64 0,.int .i64 0,.slice none 0 0]),3,40):=by kernel_rfl
def gJ(w:World)(e:TypeId)(n:Nat)(xs:List Value)(v:Value)(w':World):Prop:=∃p c,v=.slice p n c∧Hid (w'.ownsRow w.heap.size e 3 v n xs∧Below w.heap.size w w')
theorem si(h:w.ownsRow base e 3 (.slice (some ⟨g,0,none⟩) n cap) n xs):∀j u,(xs.drop (k*3))[j]?=some u→w.cell? ((⟨g,k*3,none⟩:Addr).add j)=some u:=fun j u hu=>by
 rw[List.getElem?_drop]at hu;have:=h.cells (g:=g) rfl (k*3+j) u hu;rw[CS,CJ]at this
 rw[CS];exact this
theorem zC(wb:Nat)(C:Array Value)(T:TypeId)(av:Value)(N:Nat)(xs:List Value)(w:World)(hwb:w.heap[wb]?=some (.cells C T (0,0)))(hC:C.size=14)(h4:C[4]?=some av)(ha:w.ownsRow 0 154 3 av N xs)(h1:∀u∈xs,u.oneCell'=true)(hN:N≤1000000000000)(k:Nat)(hk:k<N):Calls Tryz.prog 71 #[.pointer (some ⟨wb,0,none⟩),.int .i64 (k:Int)] w fun e w'=>e=.returned (.tuple #[])∧∃p c,w'.heap[wb]?=some (.cells (C.setIfInBounds 4 (.slice p (N-1) c)) T (0,0))∧w'.ownsRow w.heap.size 154 3 (.slice p (N-1) c) (N-1) (xs.take (k*3)++xs.drop ((k+1)*3))∧an [some wb] w w':=by
 obtain⟨iF,hi0,hi1,hi2,hi3⟩:=info_parts Tryz.AL;obtain⟨g,cap,hv,-,hgl⟩:=ha.form (by omega);subst hv;have hcap:N≤cap:=by
  rcases ha.2 with⟨h1,_⟩|⟨g',cap2,cur,hv,hb,hg,h1,-⟩
  ·cases h1
  simp only[Value.slice.injEq,Option.some.injEq,Addr.mk.injEq,and_true,true_and]at hv;obtain⟨rfl,rfl⟩:=hv;exact h1
 have g4:w.cell? ⟨wb,4,none⟩=some (.slice (some ⟨g,0,none⟩) N cap):=by rw[cell_of_heap hwb,h4]
 have hwl:wb<w.heap.size:=World.block_lt_of_cell? w _ g4;have hxl:=ha.1;have HX1:=hid h1;have HA:Hid (w.ownsRow 0 154 3 (.slice (some ⟨g,0,none⟩) N cap) N xs):=ha;have HW:=hid hwb;have hki:(k:Int)<(N:Int):=by omega
 have hkN:(k:Int)≤(N:Int):=by omega
 have hkc:k≤cap:=by omega
 have hk1:(k:Int)+1=((k+1:Nat):Int):=by omega
 obtain⟨k1,hk1e⟩:∃k1,k+1=k1:=⟨_,rfl⟩
 have hk1i:(k:Int)+1=(k1:Int):=by omega
 have hk1N:(k1:Int)≤(N:Int):=by omega
 clear ha h1 hwb hk1;have HL1:Hid (k=0→gJ w 154 k (xs.take (k*3)) (.slice none 0 0) w):=fun e=>by
  subst e;refine⟨none,0,rfl,?_,Below.refl _ w⟩;rw[Nat.zero_mul,List.take_zero];exact CW ..
 have HL2:Hid (0<k→∃(ad:Addr) (news:List Value),(some ⟨g,0,none⟩:Option Addr)=some ad∧news.length=k*3∧(∀j u,news[j]?=some u→w.cell? (ad.add j)=some u)∧(∀u∈news,u.oneCell'=true)∧∀(g5 cap5:Nat) (w5:World),w5.ownsRow w.heap.size 154 3 (.slice (some ⟨g5,0,none⟩) (0+k) cap5) (0+k) ([]++news)→w.grownBy w5 (Value.slice none 0 0).ownBlock→((Value.slice none 0 0).ownBlock=some g5∨g5=w.heap.size)→gJ w 154 k (xs.take (k*3)) (.slice (some ⟨g5,0,none⟩) (0+k) cap5) w5):=fun _=>by
  refine⟨⟨g,0,none⟩,xs.take (k*3),rfl,by rw[CI,hxl];omega,fun j u hu=>?_,fun u hu=>HX1.out u (List.mem_of_mem_take hu),fun g5 cap5 w5 b1 b2 b3=>⟨some ⟨g5,0,none⟩,cap5,by rw[CJ],by rw[CJ,DC]at b1;rw[CJ];exact b1,b2.os,b2.tape,b2.output,b2.size,fun b hb=>b2.block b hb (by simp[Cp])⟩⟩;rw[List.getElem?_take]at hu
  split at hu
  ·exact HA.out.cells (g:=g) rfl j u hu
  cases hu
 obtain⟨m,hm⟩:∃m,N-k1=m:=⟨_,rfl⟩
 have HM1:Hid (∀(p1:Option Addr) (c1:Nat) (w1:World),(w1.ownsRow w.heap.size 154 3 (.slice p1 k c1) k (xs.take (k*3))∧Below w.heap.size w w1)→m=0→gJ w 154 (k+m) (xs.take (k*3)++xs.drop (k1*3)) (.slice p1 k c1) w1):=fun p1 c1 w1 h e=>by
  subst e;have hd:xs.drop (k1*3)=[]:=List.drop_eq_nil_of_le (by rw[hxl];omega);refine⟨p1,c1,rfl,?_,h.2⟩;rw[hd,Da];exact h.1
 have HM2:Hid (∀(p1:Option Addr) (c1:Nat) (w1:World),(w1.ownsRow w.heap.size 154 3 (.slice p1 k c1) k (xs.take (k*3))∧Below w.heap.size w w1)→0<m→∃(ad:Addr) (news:List Value),(some ⟨g,k1*3,none⟩:Option Addr)=some ad∧news.length=m*3∧(∀j u,news[j]?=some u→w1.cell? (ad.add j)=some u)∧(∀u∈news,u.oneCell'=true)∧∀(g5 cap5:Nat) (w5:World),w5.ownsRow w.heap.size 154 3 (.slice (some ⟨g5,0,none⟩) (k+m) cap5) (k+m) (xs.take (k*3)++news)→w1.grownBy w5 (Value.slice p1 k c1).ownBlock→((Value.slice p1 k c1).ownBlock=some g5∨g5=w1.heap.size)→gJ w 154 (k+m) (xs.take (k*3)++xs.drop (k1*3)) (.slice (some ⟨g5,0,none⟩) (k+m) cap5) w5):=fun p1 c1 w1 h hp=>by
  refine⟨⟨g,k1*3,none⟩,xs.drop (k1*3),rfl,by rw[List.length_drop,hxl];omega,fun j u hu=>aa h.2 (si HA.out j u hu),fun u hu=>HX1.out u (List.mem_of_mem_drop hu),fun g5 cap5 w5 b1 b2 b3=>⟨_,_,rfl,b1,b2.os.trans h.2.os,b2.tape.trans h.2.tape,b2.output.trans h.2.output,Nat.le_trans h.2.size b2.size,fun b hb=>?_⟩⟩;have hs:=h.2.size;rw[b2.block b (by omega) fun e=>by have:=aU h.1 e.symm;omega];exact h.2.block b hb
 have HC4:Hid (∀w1,Below w.heap.size w w1→w1.cell? ⟨wb,4,none⟩=some (.slice (some ⟨g,0,none⟩) N cap)):=fun w1 hb=>aa hb g4
 have HF4:Hid (∀w1:World,Below w.heap.size w w1→w1.frozen? ⟨wb,4,none⟩=false):=fun w1 hb=>by
  have hh:w1.heap[wb]?=some (.cells C T (0,0)):=(hb.block wb hwl).trans HW.out;exact frozen_of_heap hh 4
 have HEND:Hid (∀(p2:Option Addr) (c2:Nat) (w2:World),(w2.ownsRow w.heap.size 154 3 (.slice p2 (k+m) c2) (k+m) (xs.take (k*3)++xs.drop (k1*3))∧Below w.heap.size w w2)→∃p c,(w2.setCell ⟨wb,4,none⟩ (.slice p2 (k+m) c2)).heap[wb]?=some (.cells (C.setIfInBounds 4 (.slice p (N-1) c)) T (0,0))∧(w2.setCell ⟨wb,4,none⟩ (.slice p2 (k+m) c2)).ownsRow w.heap.size 154 3 (.slice p (N-1) c) (N-1) (xs.take (k*3)++xs.drop ((k+1)*3))∧an [some wb] w (w2.setCell ⟨wb,4,none⟩ (.slice p2 (k+m) c2))):=fun p2 c2 w2 h=>by
  have e:k+m=N-1:=by omega
  obtain⟨h1,h2⟩:=h;rw[e]at h1 ⊢
  rw[hk1e];have hh:w2.heap[wb]?=some (.cells C T (0,0)):=(h2.block wb hwl).trans HW.out;refine⟨p2,c2,ae hh _,ai h1 (fun b hb=>?_) _,(an.of_below (S:=[some wb]) h2).setCell (.inl (by simp)) _⟩;have:=aU h1 hb;show b≠wb
  omega
 by_cases hkc1:k1=cap
 ·have hm0:m=0:=by omega
  have HM2':Hid (∀(p1:Option Addr) (c1:Nat) (w1:World),0<m→∃(ad:Addr) (news:List Value),(some ⟨g,0,none⟩:Option Addr)=some ad∧news.length=m*3∧(∀j u,news[j]?=some u→w1.cell? (ad.add j)=some u)∧(∀u∈news,u.oneCell'=true)∧∀(g5 cap5:Nat) (w5:World),w5.ownsRow w.heap.size 154 3 (.slice (some ⟨g5,0,none⟩) (k+m) cap5) (k+m) (xs.take (k*3)++news)→w1.grownBy w5 (Value.slice p1 k c1).ownBlock→((Value.slice p1 k c1).ownBlock=some g5∨g5=w1.heap.size)→gJ w 154 (k+m) (xs.take (k*3)++xs.drop (k1*3)) (.slice (some ⟨g5,0,none⟩) (k+m) cap5) w5):=fun _ _ _ h=>by omega
  have hcap2:cap=k1:=hkc1.symm;subst hcap2;have hNc:N=cap:=by omega
  subst hNc;subst hm0;have hNk:N-N=0:=by omega
  clear HM2;go_enter Tryz.func71,Tryz.ntmps71
  go_wp2_with (first
   |(at_builtin;refine dI rfl _ _ 74 rfl w.heap.size 154 iF (.agg #[.int .i64 0,.int .i64 0,.slice none 0 0]) 3 40 Tryz.underlying74 hi0 hi1 hi2 hi3 rfl (by decide) (.slice p1 k c1) k (xs.take (k*3)) (by rfl) H1.out.1 (some ⟨g,0,none⟩) 0 0 (by rfl) (gJ w 154 (k+0) (xs.take (k*3)++xs.drop (N*3))) (HM1.out _ _ _ H1.out) (HM2'.out _ _ _) (by unfold maxLen;omega) (by omega) (Below.size H1.out.2) ?_;rintro v2 w2 ⟨p2,c2,rfl,H2⟩;have e4:=HC4.out _ H2.out.2;have f4:=HF4.out _ H2.out.2)
   |(at_builtin;refine dI rfl _ _ 74 rfl w.heap.size 154 iF (.agg #[.int .i64 0,.int .i64 0,.slice none 0 0]) 3 40 Tryz.underlying74 hi0 hi1 hi2 hi3 rfl (by decide) (.slice none 0 0) 0 [] (by rfl) (CW ..) (some ⟨g,0,none⟩) k N (by rfl) (gJ w 154 k (xs.take (k*3))) HL1.out HL2.out (by unfold maxLen;omega) (by omega) (Cl _) ?_;rintro v1 w1 ⟨p1,c1,rfl,H1⟩;have e41:=HC4.out _ H1.out.2))
  go_end0
  have h:=HEND.out _ _ _ H2.out
  (try rw[hk1e]at h)
  exact⟨rfl,h⟩
 have hkc2:¬ cap=k1:=fun e=>hkc1 e.symm
 have hkc3:¬ cap-k1=0:=by omega
 go_enter Tryz.func71,Tryz.ntmps71
 go_wp2_with (first
  |(at_builtin;refine dI rfl _ _ 74 rfl w.heap.size 154 iF (.agg #[.int .i64 0,.int .i64 0,.slice none 0 0]) 3 40 Tryz.underlying74 hi0 hi1 hi2 hi3 rfl (by decide) (.slice p1 k c1) k (xs.take (k*3)) (by rfl) H1.out.1 (some ⟨g,k1*3,none⟩) m (cap-k1) (by first|rfl|(rw[←hm];rfl)) (gJ w 154 (k+m) (xs.take (k*3)++xs.drop (k1*3))) (HM1.out _ _ _ H1.out) (HM2.out _ _ _ H1.out) (by unfold maxLen;omega) (by omega) (Below.size H1.out.2) ?_;rintro v2 w2 ⟨p2,c2,rfl,H2⟩;have e4:=HC4.out _ H2.out.2;have f4:=HF4.out _ H2.out.2)
  |(at_builtin;refine dI rfl _ _ 74 rfl w.heap.size 154 iF (.agg #[.int .i64 0,.int .i64 0,.slice none 0 0]) 3 40 Tryz.underlying74 hi0 hi1 hi2 hi3 rfl (by decide) (.slice none 0 0) 0 [] (by rfl) (CW ..) (some ⟨g,0,none⟩) k cap (by rfl) (gJ w 154 k (xs.take (k*3))) HL1.out HL2.out (by unfold maxLen;omega) (by omega) (Cl _) ?_;rintro v1 w1 ⟨p1,c1,rfl,H1⟩;have e41:=HC4.out _ H1.out.2))
 go_end0
 have h:=HEND.out _ _ _ H2.out
 first|exact⟨rfl,h⟩|(rw[hk1e]at h;exact⟨rfl,h⟩)
end Go.Proofs.YtckmppkdpnhodaaGreatDoor
