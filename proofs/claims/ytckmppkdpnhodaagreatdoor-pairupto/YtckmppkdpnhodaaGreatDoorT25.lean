import Derived.Test.YtckmppkdpnhodaaGreatDoorT23
import Derived.Test.YtckmppkdpnhodaaGreatDoorT19
import Derived.Laws.BytesArg
import Derived.Lib.Bytes
set_option maxRecDepth 100000
set_option maxHeartbeats 8000000
set_option linter.unusedVariables false
set_option linter.unusedSimpArgs false
open UInt8 renaming ofNat→CA
open List renaming getElem?_map→Dj,map_cons→Dp,map_nil→DV,getElem?_eq_getElem→Cr,mem_singleton→CK,length_append→Cz,getElem?_append_left→DO,getElem?_append_right→C5,length_take→CI,take_append_drop→DB,mem_cons→Co
open Go.RowKit.Below renaming refl→Ck
open Nat renaming le_refl→Cl
open Go.World renaming news_of_block→CH
open Go.Value renaming ownBlock→Cp
namespace Go.Proofs.YtckmppkdpnhodaaGreatDoor
section
open Go.RowKit Go.Proofs
attribute [local go_sem ↓] Go.wp_at_zero Go.wp_at_succ
variable {l:List UInt8}
def uO(s:Nat):List UInt8:=[CA s,CA (s / 256),CA (s / 65536),CA (s / 16777216)]
def bA(l:List UInt8):List UInt8:=(CA (l.length+5)::l)++uO (fp (CA (l.length+5)::l))
theorem fN(l:List UInt8):dW l<4294967296:=by
 unfold dW;have:∀(l:List UInt8) (s:Nat),s<4294967296→l.foldl (fun s b=>eP s b.toNat) s<4294967296:=by
  intro l
  induction l with
  |nil=>intro s h;exact h
  |cons x l ih=>intro s h;exact ih _ (eW h (by have:=x.toNat_lt;omega))
 exact this l _ (by omega)
theorem kG(l:List UInt8):fp l<4294967296:=fE (by omega) (fN l)
theorem yf(n:Nat):((CA n).toNat:Int)=(n:Int) % 256:=by rw[UInt8.toNat_ofNat'];omega
theorem byteCells_one:∀u∈Lib.byteCells l,u.oneCell'=true:=by
 intro u hu;simp only[Lib.byteCells,List.mem_map]at hu;obtain⟨b,_,rfl⟩:=hu
 rfl
theorem pE{j:Nat}{u:Value}(h:(Lib.byteCells l)[j]?=some u):∃x,l[j]?=some x∧u=.int .u8 (x.toNat:Int):=by
 simp only[Lib.byteCells,Dj,Option.map_eq_some_iff]at h;obtain⟨x,hx,rfl⟩:=h;exact⟨x,hx,rfl⟩
theorem vr(b off cap:Nat)(l:List UInt8)(hl:l.length≤1000000)(w:World)(hc:∀(i:Nat) (x:UInt8),l[i]?=some x→w.cell? ⟨b,off+i,none⟩=some (.int .u8 (x.toNat:Int)))(hR:eS w)(hG:1<w.heap.size):Calls Tryz.prog 104 #[.slice (some ⟨b,off,none⟩) l.length cap] w fun e w'=>∃v',e=.returned v'∧eI w.heap.size w v' (bA l) w':=by
 obtain⟨i0,hi0,hz0,hz1,hz2⟩:=info_parts Tryz.AT;have HC:Hid (∀o,∀(j:Nat) (u:Value),(Lib.byteCells l)[j]?=some u→(w.alloc o).cell? ((⟨b,off,none⟩:Addr).add j)=some u):=by
  intro o j u hu;obtain⟨x,hx,rfl⟩:=pE hu;have hadd:(⟨b,off,none⟩:Addr).add j=⟨b,off+j,none⟩:=by unfold Addr.add;split <;> simp_all
  rw[hadd];exact aa ((Ck _ w).alloc (Cl _) o) (hc j x hx)
 have hbl:(Lib.byteCells l).length=l.length*1:=by simp[Lib.byteCells]
 have HO:Hid (∀C,C.toList=Lib.byteCells [CA (l.length+5)]→(w.alloc (.cells C 5)).ownsRow w.heap.size 5 1 (.slice (some ⟨w.heap.size,0,none⟩) 1 1) 1 (Lib.byteCells [CA (l.length+5)])):=fun C hC=>qo (l:=[CA (l.length+5)]) (Cl _) (heap_alloc_new w _) hC rfl (by omega)
 have HX:Hid (∀n:Nat,((CA n).toNat:Int)=(n:Int) % 256):=yf;have HR:Hid (∀W,Below w.heap.size w W→eS W):=fun W hW i hi=>(hW.cell (p:=⟨1,i,none⟩) hG).trans (hR i hi)
 clear hc hR;go_enter Tryz.func104,Tryz.ntmps104
 have e5:((l.length+5:Nat):Int)=1+(l.length:Int)+4:=by omega
 have HF:Hid (Lib.byteCells [CA (l.length+5)]=[.int .u8 ((1+(l.length:Int)+4) % 256)]):=by
  show _=_
  simp only[Lib.byteCells,Dp,DV,HX.out,e5]
 clear e5;go_upto_region 2 with(at_builtin;refine wpList_append_own _ rfl _ _ 55 rfl w.heap.size 5 i0 (.int .u8 0) 1 1 Tryz.underlying55 hi0 hz0 hz1 hz2 rfl (by decide) _ 1 (Lib.byteCells [CA (l.length+5)]) (by rfl) (HO.out _ HF.out.symm) ⟨b,off,none⟩ l.length cap (Lib.byteCells l) (by rfl) hbl (HC.out _) byteCells_one (by unfold maxLen;omega) (by omega) (by simp) ?_;intro v3 w3 ho3 hg3 _)
 have hb3:eI w.heap.size w v3 (CA (l.length+5)::l) w3:=by
  refine⟨?_,((Ck _ w).alloc (Cl _) _).grown hg3 (by simp) fun k hk=>by cases hk;exact Cl _⟩;have e1:(CA (l.length+5)::l).length=1+l.length:=by simp;omega
  have e2:Lib.byteCells (CA (l.length+5)::l)=Lib.byteCells [CA (l.length+5)]++Lib.byteCells l:=by simp[Lib.byteCells]
  rw[e1,e2];exact ho3
 have hfl:(CA (l.length+5)::l).length≤1000001:=by simp;omega
 have HL:Hid (bA l=(CA (l.length+5)::l)++uO (fp (CA (l.length+5)::l))):=rfl;clear ho3 hg3 HO HC HF hbl;generalize CA (l.length+5)::l=f at *;have HS:Hid (Calls Tryz.prog 143 #[v3] w3 fun e w'=>e=.returned (.int .u32 ((fp f:Nat):Int))∧w'=w3):=zW v3 f (by omega) w3 (dC hb3.row) (HR.out _ hb3.below);obtain⟨pa,ca,hav⟩:=aW hb3.row;subst hav;have HB3:Hid (eI w.heap.size w (.slice pa f.length ca) f w3):=hb3;have hs3:=hb3.below.size;have hcs:=kG f;clear hb3;generalize fp f=s at *;go_upto_region 3 with(go_at_call 143;refine HS.out.mono ?_;rintro e w' ⟨rfl,rfl⟩)
 have HR3:Hid (∀o,(w'.alloc o).ownsRow w.heap.size 5 1 (.slice pa f.length ca) f.length (Lib.byteCells f)∧Below w'.heap.size w' (w'.alloc o)):=fun o=>⟨(an.of_below (S:=[]) ((Ck _ w').alloc (Cl _) o)).owns HB3.out.row (by simp),(Ck _ w').alloc (Cl _) o⟩
 go_wp2_with (at_builtin;refine wpList_append_lies _ rfl _ _ 55 rfl w.heap.size 5 i0 (.int .u8 0) 1 1 Tryz.underlying55 hi0 hz0 hz1 hz2 rfl (by decide) (.slice pa f.length ca) f.length (Lib.byteCells f) (by rfl) (HR3.out _).1 ⟨w'.heap.size,0,none⟩ 4 4 [.int .u8 ((s:Int) % 256),.int .u8 ((s:Int) / 256 % 256),.int .u8 ((s:Int) / 65536 % 256),.int .u8 ((s:Int) / 16777216)] (by rfl) (by rfl) (CH (heap_alloc_new _ _)) (by simp[Value.oneCell']) (by omega) (by unfold maxLen;omega) (by omega) (by simp;omega) (w'.heap.size+1) (by simp) ?_;intro g4 cap4 w4 ho4 hg4 hat4 _)
 go_ret
 have b4:Below w.heap.size w w4:=(HB3.out.below.trans ((HR3.out _).2.mono (by omega))).grown hg4 (by simp;omega) fun k hk=>aU HB3.out.row hk
 refine⟨_,rfl,?_,b4⟩;rw[HL.out];have e1:Lib.byteCells (f++uO s)=Lib.byteCells f++[.int .u8 ((s:Int) % 256),.int .u8 ((s:Int) / 256 % 256),.int .u8 ((s:Int) / 65536 % 256),.int .u8 ((s:Int) / 16777216)]:=by
  have e4:((s:Int) / 16777216) % 256=(s:Int) / 16777216:=by omega
  simp only[Lib.byteCells,uO,List.map_append,Dp,DV,HX.out];rw[show((s / 256:Nat):Int)=(s:Int) / 256 by omega,show((s / 65536:Nat):Int)=(s:Int) / 65536 by omega,show((s / 16777216:Nat):Int)=(s:Int) / 16777216 by omega,e4]
 have e2:(f++uO s).length=f.length+4:=by simp[uO]
 rw[e1,e2];exact ho4
end
section
open Go.RowKit Go.Proofs
variable {B:Nat} {W W':World} {fs:List (List UInt8)} {fv v:Value} {vs:List Value}
structure cY(B:Nat)(fv:Value)(vs:List Value)(fs:List (List UInt8))(W:World):Prop where
 row:W.ownsRow B 55 1 fv vs.length vs
 len:vs.length=fs.length
 each:∀(i:Nat) (v:Value) (f:List UInt8),vs[i]?=some v→fs[i]?=some f→W.ownsRow B 5 1 v f.length (Lib.byteCells f)
 apart:∀v∈vs,∀b,v.ownBlock=some b→fv.ownBlock≠some b
 dist:vs.Pairwise fun x y=>∀b,x.ownBlock=some b→y.ownBlock≠some b
theorem cY.nil(B:Nat)(W:World):cY B (.slice none 0 0) [] [] W:=⟨⟨rfl,.inl ⟨rfl,rfl⟩⟩,rfl,by simp,by simp,List.Pairwise.nil⟩
theorem cY.mem(h:cY B fv vs fs W)(hv:v∈vs):∃f:List UInt8,W.ownsRow B 5 1 v f.length (Lib.byteCells f):=by
 obtain⟨i,hi,rfl⟩:=List.mem_iff_getElem.1 hv;have hf:i<fs.length:=by rw[←h.len];exact hi
 exact⟨fs[i],h.each i _ _ (Cr hi) (Cr hf)⟩
theorem cY.upd{S:List (Option Nat)}(h:cY B fv vs fs W)(hu:an S W W')(hf:∀b,fv.ownBlock=some b→some b∉S)(hv:∀v∈vs,∀b,v.ownBlock=some b→some b∉S):cY B fv vs fs W':=⟨hu.owns h.row hf,h.len,fun i v f h1 h2=>hu.owns (h.each i v f h1 h2) (hv v (List.mem_iff_getElem?.2 ⟨i,h1⟩)),h.apart,h.dist⟩
theorem cY.below(h:cY B fv vs fs W)(hb:Below W.heap.size W W'):cY B fv vs fs W':=h.upd (an.of_below (S:=[]) hb) (by simp) (by simp)
theorem cY.snoc{W2 w3:World}{f:List UInt8}{g cap:Nat}(h:cY B fv vs fs W)(hr:W.ownsRow B 5 1 v f.length (Lib.byteCells f))(h1:∀b,v.ownBlock=some b→fv.ownBlock≠some b)(h2:∀x∈vs,∀b,x.ownBlock=some b→v.ownBlock≠some b)(hb:Below W.heap.size W W2)(ho:w3.ownsRow B 55 1 (.slice (some ⟨g,0,none⟩) (vs.length+1) cap) (vs.length+1) (vs++[v]))(hg:W2.grownBy w3 fv.ownBlock)(hat:fv.ownBlock=some g∨g=W2.heap.size):cY B (.slice (some ⟨g,0,none⟩) (vs.length+1) cap) (vs++[v]) (fs++[f]) w3:=by
 have hu:an [fv.ownBlock] W w3:=(an.of_below (S:=[fv.ownBlock]) hb).grown hg fun k hk=>.inl (by simp[hk])
 have hall:∀x∈vs++[v],(∃f':List UInt8,W.ownsRow B 5 1 x f'.length (Lib.byteCells f'))∧∀b,x.ownBlock=some b→fv.ownBlock≠some b:=by
  intro x hx;rcases List.mem_append.1 hx with hx|hx
  ·exact⟨h.mem hx,h.apart x hx⟩
  cases CK.1 hx;exact⟨⟨f,hr⟩,h1⟩
 refine⟨by rw[Cz];exact ho,by simp[h.len],fun i x f' hx hf=>?_,fun x hx b hxb=>?_,?_⟩
 ·have hxm:x∈vs++[v]:=List.mem_iff_getElem?.2 ⟨i,hx⟩;have ha:=(hall x hxm).2;have hW:W.ownsRow B 5 1 x f'.length (Lib.byteCells f'):=by
   by_cases hi:i<vs.length
   ·rw[DO hi]at hx;rw[DO (by rw[←h.len];exact hi)]at hf
    exact h.each i x f' hx hf
   rw[C5 (by omega)]at hx;rw[C5 (by rw[←h.len];omega),←h.len]at hf
   rcases Nat.eq_zero_or_pos (i-vs.length) with h0|h0
   ·rw[h0]at hx hf;simp at hx hf;subst hx hf;exact hr
   rw[List.getElem?_eq_none (by simp;omega)]at hx;cases hx
  exact hu.owns hW fun k hk hm=>ha k hk (CK.1 hm).symm
 ·obtain⟨⟨f',hf'⟩,ha⟩:=hall x hx;intro e;obtain rfl:g=b:=by simpa[Cp] using e
  rcases hat with e2|e2
  ·exact ha g hxb e2
  have:=(hf'.lt _ hxb).2;have:=hb.size;omega
 rw[List.pairwise_append];refine⟨h.dist,by simp,fun x hx y hy=>?_⟩;cases CK.1 hy;exact h2 x hx
def lay(hd:List UInt8):List UInt8→List En→List (List UInt8)
 |body,[]=>[bA body]
 |body,x::l=>if 195<body.length+(cH x).length then bA body::lay hd (hd++cH x) l else lay hd (body++cH x) l
def eO(a b h:Nat):List UInt8:=CA a::CA b::cG h
def ed(a b h:Nat)(es:List En):List (List UInt8):=lay (eO a b h) (eO a b h) es
theorem ot(a b:Nat){h:Nat}(hh:h<1152921504606846976):(eO a b h).length≤11∧2≤(eO a b h).length:=by
 have:=jD 8 h (by omega);unfold eO;simp;omega
theorem qQ(x:En):(cH x).length≤64:=by
 unfold cH;have h1:=gI x.ha 5;have h2:=gX x.hc;have h3:(aQ x.c).data.toList.length=(aQ x.c).size:=Array.length_toList;simp only[Cz,List.length_cons,List.length_nil];omega
theorem jM(x:En):0<(cH x).length:=by unfold cH;simp;omega
end
section
open Go.RowKit Go.Proofs
attribute [local go_sem ↓] Go.wp_at_zero Go.wp_at_succ
variable {B cap g n:Nat} {f l:List UInt8} {fs:List (List UInt8)} {fv:Value} {vs:List Value} {w w2 w3 w4 wa:World}
theorem Tryz.BM:(Tryz.prog.info? 55).map (fun i=>(i.zero,i.size,i.bytes))=some (some (.slice none 0 0),1,24):=by kernel_rfl
structure wW(B:Nat)(wa:World)(fs:List (List UInt8))(bb:List UInt8)(fv bv:Value)(wr:World):Prop where
 ex:∃vs,cY B fv vs fs wr∧∀x∈vs,∀b,x.ownBlock=some b→bv.ownBlock≠some b
 body:eI B wa bv bb wr
 apart:∀b,bv.ownBlock=some b→fv.ownBlock≠some b
theorem wW.below{B:Nat}{wa:World}{fs:List (List UInt8)}{bb:List UInt8}{fv bv:Value}{wr W:World}(h:wW B wa fs bb fv bv wr)(hB:B≤wr.heap.size)(hb:Below wr.heap.size wr W):wW B wa fs bb fv bv W:=by
 obtain⟨vs,h1,h2⟩:=h.ex;exact⟨⟨vs,h1.below hb,h2⟩,⟨(an.of_below (S:=[]) hb).owns h.body.row (by simp),h.body.below.trans (hb.mono hB)⟩,h.apart⟩
theorem wW.fits{bb pc:List UInt8}{bv:Value}(h:wW B wa fs bb fv bv w2)(hB:B≤w2.heap.size)(hn:n=(bb++pc).length)(ho:w3.ownsRow B 5 1 (.slice (some ⟨g,0,none⟩) n cap) n (Lib.byteCells bb++Lib.byteCells pc))(hg:w2.grownBy w3 bv.ownBlock)(hat:bv.ownBlock=some g∨g=w2.heap.size):wW B wa fs (bb++pc) fv (.slice (some ⟨g,0,none⟩) n cap) w3:=by
 subst hn;obtain⟨vs,h1,h2⟩:=h.ex;have hu:an [bv.ownBlock] w2 w3:=(an.refl _ _).grown hg fun k hk=>.inl (by simp[hk])
 refine⟨⟨vs,h1.upd hu (fun b hb hm=>h.apart b (CK.1 hm).symm hb) (fun v hv b hb hm=>h2 v hv b hb (CK.1 hm).symm),fun x hx b hb e=>?_⟩,⟨?_,h.body.below.grown hg hB fun k hk=>aU h.body.row hk⟩,fun b hb e=>?_⟩
 ·obtain rfl:g=b:=by simpa[Cp] using e
  rcases hat with e2|e2
  ·exact h2 x hx g hb e2
  obtain⟨f,hf⟩:=h1.mem hx;have:=(hf.lt _ hb).2;omega
 ·have e1:Lib.byteCells (bb++pc)=Lib.byteCells bb++Lib.byteCells pc:=by simp[Lib.byteCells]
  rw[e1];exact ho
 obtain rfl:g=b:=by simpa[Cp] using hb
 rcases hat with e2|e2
 ·exact h.apart g e2 e
 have:=(h1.row.lt _ e).2;omega
theorem cY.BF{sv:Value}{w3a:World}(h:cY B fv vs fs w2)(ha:Below B wa w2)(hB:B≤w2.heap.size)(hs:eI w2.heap.size w2 sv f w3)(hb:Below w3.heap.size w3 w3a)(ho:w4.ownsRow B 55 1 (.slice (some ⟨g,0,none⟩) (vs.length+1) cap) (vs.length+1) (vs++[sv]))(hg:w3a.grownBy w4 fv.ownBlock)(hat:fv.ownBlock=some g∨g=w3a.heap.size):cY B (.slice (some ⟨g,0,none⟩) (vs.length+1) cap) (vs++[sv]) (fs++[f]) w4∧Below B wa w4:=by
 have h3:=h.below hs.below;have hsz:=hs.below.size;refine⟨h3.snoc (dc hs.row hB) (fun b hb e=>?_) (fun x hx b hb e=>?_) hb ho hg hat,?_⟩
 ·have:=aU hs.row hb;have:=(h.row.lt _ e).2;omega
 ·obtain⟨f',hf'⟩:=h.mem hx;have:=(hf'.lt _ hb).2;have:=aU hs.row e;omega
 have h5:Below B wa w3a:=(ha.trans (hs.below.mono hB)).trans (hb.mono (by omega));exact h5.grown hg (by have:=hb.size;omega) fun k hk=>aU h.row hk
theorem nX(h:w.ownsRow B 5 1 (.slice (some ⟨g,0,none⟩) n cap) l.length (Lib.byteCells l))(i:Nat)(x:UInt8)(hx:l[i]?=some x):w.cell? ⟨g,0+i,none⟩=some (.int .u8 (x.toNat:Int)):=by
 obtain⟨p,c,hv,hc⟩:=dC h;obtain⟨b,off,hp,hcell⟩:=hc i x hx;rw[hp]at hv
 simp only[Value.slice.injEq,Option.some.injEq,Addr.mk.injEq,and_true]at hv;obtain⟨⟨rfl,rfl⟩,-⟩:=hv;exact hcell
theorem cY.BZ{hd:List UInt8}{hv:Value}{w5:World}(h:cY B fv vs fs w4)(hB:B≤w4.heap.size)(ha:Below B wa w4)(hn:eI w4.heap.size w4 hv hd w5):wW B wa fs hd fv hv w5:=by
 refine⟨⟨vs,h.below hn.below,fun x hx b hb e=>?_⟩,⟨dc hn.row hB,ha.trans (hn.below.mono hB)⟩,fun b hb e=>?_⟩
 ·obtain⟨f',hf'⟩:=h.mem hx;have:=(hf'.lt _ hb).2;have:=aU hn.row e;omega
 have:=aU hn.row hb;have:=(h.row.lt _ e).2;omega
theorem yd(a b h:Nat)(ha:a<256)(hb:b<256)(hh:h<1152921504606846976)(es:List En)(hes:es.length≤1000)(ev:Value)(w:World)(hv:ba w)(hR:eS w)(hG:1<w.heap.size)(hrow:w.ownsRow 0 122 10 ev es.length (aP es)):Calls Tryz.prog 58 #[.agg #[.int .i64 (a:Int),.int .i64 (b:Int),.int .i64 (h:Int),ev]] w fun e w'=>∃fv vs,e=.returned fv∧cY w.heap.size fv vs (ed a b h es) w'∧Below w.heap.size w w':=by
 obtain⟨i0,hi0,hz0,hz1,hz2⟩:=info_parts Tryz.AT;obtain⟨i1,hi1,hy0,hy1,hy2⟩:=info_parts Tryz.BM;obtain⟨pe,ce,hev⟩:=aW hrow;subst hev;have hhl:=ot a b hh;go_enter Tryz.func58,Tryz.ntmps58
 go_upto_region 2 with fail
 obtain⟨wa,hwa⟩:∃wa,w.alloc (.cells #[.int .i64 (a:Int),.int .i64 (b:Int),.int .i64 (h:Int),.slice pe es.length ce] 140)=wa:=⟨_,rfl⟩
 have hea:wa.heap[w.heap.size]?=some (.cells #[.int .i64 (a:Int),.int .i64 (b:Int),.int .i64 (h:Int),.slice pe es.length ce] 140 (0,0)):=by rw[←hwa];exact heap_alloc_new w _
 have HBA:Hid (Below w.heap.size w wa):=by show Below _ _ _;rw[←hwa];exact(Ck _ w).alloc (Cl _) _
 have hsa:wa.heap.size=w.heap.size+1:=by rw[←hwa];simp
 rw[hwa];clear hwa;have a0:wa.cell? ⟨w.heap.size,0,none⟩=some (.int .i64 (a:Int)):=cell_of_heap hea _;have a1:wa.cell? ⟨w.heap.size,1,none⟩=some (.int .i64 (b:Int)):=cell_of_heap hea _;have a2:wa.cell? ⟨w.heap.size,2,none⟩=some (.int .i64 (h:Int)):=cell_of_heap hea _;have a3:wa.cell? ⟨w.heap.size,3,none⟩=some (.slice pe es.length ce):=cell_of_heap hea _;have HV:Hid (∀W,Below wa.heap.size wa W→ba W):=fun W hW=>(hv.below HBA.out).below hW
 have HR:Hid (∀W,Below wa.heap.size wa W→eS W∧1<W.heap.size):=fun W hW=>⟨fun i hi=>(hW.cell (p:=⟨1,i,none⟩) (by show 1<wa.heap.size;omega)).trans ((HBA.out.cell (p:=⟨1,i,none⟩) hG).trans (hR i hi)),by have:=hW.size;omega⟩
 have HE:Hid (∀W,Below wa.heap.size wa W→W.ownsRow 0 122 10 (.slice pe es.length ce) es.length (aP es)):=fun W hW=>(an.of_below (S:=[]) hW).owns ((an.of_below (S:=[]) HBA.out).owns hrow (by simp)) (by simp)
 have HC:Hid (∀W,Below wa.heap.size wa W→W.cell? ⟨w.heap.size,0,none⟩=some (.int .i64 (a:Int))∧W.cell? ⟨w.heap.size,1,none⟩=some (.int .i64 (b:Int))∧W.cell? ⟨w.heap.size,2,none⟩=some (.int .i64 (h:Int))∧W.cell? ⟨w.heap.size,3,none⟩=some (.slice pe es.length ce)):=fun W hW=>⟨aa hW a0,aa hW a1,aa hW a2,aa hW a3⟩
 have HH:Hid (∀W,Calls Tryz.prog 102 #[.agg #[.int .i64 (a:Int),.int .i64 (b:Int),.int .i64 (h:Int),.slice pe es.length ce]] W fun e w'=>∃v',e=.returned v'∧eI W.heap.size W v' (eO a b h) w'):=fun W=>zB a b h ha hb hh pe es.length ce W
 have HW:Hid (ed a b h es=lay (eO a b h) (eO a b h) es):=rfl;generalize eO a b h=hd at *;clear hv hR hrow hea hG;go_upto_region 3 with(go_at_call 102;refine(HH.out _).mono ?_;rintro e w1 ⟨v1,rfl,hn1⟩)
 have HN1:Hid (eI wa.heap.size wa v1 hd w1):=hn1;have c3:=aa hn1.below a3;clear hn1 a0 a1 a2 a3;go_wp2
 go_loopw [3,4,13] (fun fv bv i wr=>∃(j:Nat) (bb:List UInt8) (fs:List (List UInt8)),j≤es.length∧i=.int .i64 j∧2≤bb.length∧bb.length≤195∧fs.length≤j∧Hid (wW wa.heap.size wa fs bb fv bv wr)∧Hid (fs++lay hd bb (es.drop j)=lay hd hd es)) (fun _ _ i _=>es.length-(intOf i).toNat)
 case atStart=>exact⟨0,hd,[],Nat.zero_le _,rfl,by omega,by omega,Cl _,⟨⟨[],cY.nil _ _,by simp⟩,HN1.out,by simp[Cp]⟩,rfl⟩
 case round =>
  obtain⟨j,bb,fs,hj,rfl,hb2,hb195,hfj,HI,HQ⟩:=hrel;obtain⟨pb,cb,hbv⟩:=aW HI.out.body.row;subst hbv;have hsz:=HI.out.body.below.size;by_cases hlt:j<es.length
  ·obtain⟨g,cap,hge,hgl,e0,e1,e2,e3,e4,e5,e6,e7,e8,e9⟩:=jN (HE.out wr HI.out.body.below) hlt;obtain⟨rfl,-,rfl⟩:pe=some ⟨g,0,none⟩∧True∧ce=cap:=by simpa using hge
   clear hge;have j0:(0:Int)≤(j:Int):=by omega
   have j1:(j:Int)<(es.length:Int):=by omega
   have hel:=qQ es[j];have hep:=jM es[j];have HD:Hid (es.drop j=es[j]::es.drop (j+1)):=List.drop_eq_getElem_cons hlt;generalize es[j]=x at *;go_upto_region 6 with fail
   clear e0 e1 e2 e3 e4 e5 e6 e7 e8 e9;obtain⟨wb,hwb⟩:∃wb,wr.alloc (.cells #[.int .i64 (x.org:Int),.int .i64 (x.seq:Int),.int .i64 (x.ah.a:Int),.int .i64 (x.ah.b:Int),.int .i64 (x.ah.c:Int),.int .i64 (x.ah.d:Int),.int .i64 (x.ah.e:Int),.int .i64 (x.c.k.num:Int),.string x.c.word,.int .i64 (x.c.count:Int)] 122)=wb:=⟨_,rfl⟩
   have hhe:wb.heap[wr.heap.size]?=some (.cells #[.int .i64 (x.org:Int),.int .i64 (x.seq:Int),.int .i64 (x.ah.a:Int),.int .i64 (x.ah.b:Int),.int .i64 (x.ah.c:Int),.int .i64 (x.ah.d:Int),.int .i64 (x.ah.e:Int),.int .i64 (x.c.k.num:Int),.string x.c.word,.int .i64 (x.c.count:Int)] 122 (0,0)):=by rw[←hwb];exact heap_alloc_new wr _
   have hbb:Below wr.heap.size wr wb:=by rw[←hwb];exact(Ck _ wr).alloc (Cl _) _
   have hsb:wb.heap.size=wr.heap.size+1:=by rw[←hwb];simp
   rw[hwb];clear hwb;have d0:wb.cell? ⟨wr.heap.size,0,none⟩=some (.int .i64 (x.org:Int)):=cell_of_heap hhe _;have d1:wb.cell? ⟨wr.heap.size,1,none⟩=some (.int .i64 (x.seq:Int)):=cell_of_heap hhe _;have d2:wb.cell? ⟨wr.heap.size,2,none⟩=some (.int .i64 (x.ah.a:Int)):=cell_of_heap hhe _;have d3:wb.cell? ⟨wr.heap.size,3,none⟩=some (.int .i64 (x.ah.b:Int)):=cell_of_heap hhe _;have d4:wb.cell? ⟨wr.heap.size,4,none⟩=some (.int .i64 (x.ah.c:Int)):=cell_of_heap hhe _;have d5:wb.cell? ⟨wr.heap.size,5,none⟩=some (.int .i64 (x.ah.d:Int)):=cell_of_heap hhe _;have d6:wb.cell? ⟨wr.heap.size,6,none⟩=some (.int .i64 (x.ah.e:Int)):=cell_of_heap hhe _;have d7:wb.cell? ⟨wr.heap.size,7,none⟩=some (.int .i64 (x.c.k.num:Int)):=cell_of_heap hhe _;have d8:wb.cell? ⟨wr.heap.size,8,none⟩=some (.string x.c.word):=cell_of_heap hhe _
   have d9:wb.cell? ⟨wr.heap.size,9,none⟩=some (.int .i64 (x.c.count:Int)):=cell_of_heap hhe _;have hab:Below wa.heap.size wa wb:=HI.out.body.below.trans (hbb.mono hsz);have HP:Hid (Calls Tryz.prog 103 #[.slice none 0 0,x.val] wb fun e w'=>∃v',e=.returned v'∧eI wb.heap.size wb v' (cH x) w'):=pG x wb (HV.out wb hab);unfold En.val at HP;have HAB:Hid (Below wa.heap.size wa wb∧Below wr.heap.size wr wb):=⟨hab,hbb⟩;clear hhe hbb hab;go_upto_region 7 with(go_at_call 103;refine HP.out.mono ?_;rintro e w2 ⟨pv,rfl,hpv⟩)
   clear d0 d1 d2 d3 d4 d5 d6 d7 d8 d9 HP;have hs2:=hpv.below.size;obtain⟨gp,cp,hpf,hgp,hgp2⟩:=hpv.row.form hep;subst hpf;have HPV:Hid (eI wb.heap.size wb (.slice (some ⟨gp,0,none⟩) (cH x).length cp) (cH x) w2):=hpv;have HA2:Hid (Below wa.heap.size wa w2∧Below wr.heap.size wr w2):=⟨HAB.out.1.trans (hpv.below.mono (by omega)),HAB.out.2.trans (hpv.below.mono (by omega))⟩;have HB2:Hid (w2.ownsRow wa.heap.size 5 1 (.slice pb bb.length cb) bb.length (Lib.byteCells bb)):=(an.of_below (S:=[]) HA2.out.2).owns HI.out.body.row (by simp);clear hpv;generalize hpc:cH x=pc at *;have HPC:Hid (cH x=pc):=hpc;clear hpc;have hbl:(Lib.byteCells pc).length=pc.length*1:=by simp[Lib.byteCells]
   by_cases hroom:195<bb.length+pc.length
   ·have e195:(195:Int)<(bb.length:Int)+(pc.length:Int):=by omega
    obtain⟨gb,cb',hbf,hgb,hgb2⟩:=HB2.out.form (by omega);obtain⟨rfl,-,rfl⟩:pb=some ⟨gb,0,none⟩∧True∧cb=cb':=by simpa using hbf
    clear hbf;obtain⟨vs,hfr,-⟩:=HI.out.ex;have HF2:Hid (cY wa.heap.size u3 vs fs w2):=hfr.below HA2.out.2;have hvl:vs.length≤1000:=by rw[hfr.len];omega
    have hgu:∀k,u3.ownBlock=some k→k<wr.heap.size:=fun k hk=>(hfr.row.lt _ hk).2
    have HGU:Hid (∀k,u3.ownBlock=some k→k<wr.heap.size):=hgu;clear hfr hgu;have HS:Hid (Calls Tryz.prog 104 #[.slice (some ⟨gb,0,none⟩) bb.length cb] w2 fun e w'=>∃v',e=.returned v'∧eI w2.heap.size w2 v' (bA bb) w'):=vr gb 0 cb bb (by omega) w2 (nX HB2.out) (HR.out w2 HA2.out.1).1 (HR.out w2 HA2.out.1).2;have HQ2:Hid ((fs++[bA bb])++lay hd (hd++pc) (es.drop (j+1))=lay hd hd es):=by
     show _=_
     rw[←HQ.out,HD.out,lay,HPC.out,if_pos hroom];simp
    go_upto_region 9 with(first
     |(go_at_call 104;refine HS.out.mono ?_;rintro e w3 ⟨sv,rfl,hsv⟩;obtain⟨ps,cs,hsf⟩:=aW hsv.row;subst hsf;have hs3:=hsv.below.size;have HSV:Hid (eI w2.heap.size w2 (.slice ps (bA bb).length cs) (bA bb) w3):=hsv;clear hsv;have HF3:Hid (∀o,(w3.alloc o).ownsRow wa.heap.size 55 1 u3 vs.length vs∧Below w3.heap.size w3 (w3.alloc o)):=fun o=>⟨(an.of_below (S:=[]) ((Ck _ w3).alloc (Cl _) o)).owns (HF2.out.below HSV.out.below).row (by simp),(Ck _ w3).alloc (Cl _) o⟩)
     |(at_builtin;refine wpList_append_lies _ rfl _ _ 61 rfl wa.heap.size 55 i1 (.slice none 0 0) 1 24 Tryz.underlying61 hi1 hy0 hy1 hy2 rfl (by decide) u3 vs.length vs (by rfl) (HF3.out _).1 ⟨w3.heap.size,0,none⟩ 1 1 [.slice ps (bA bb).length cs] (by rfl) (by rfl) (CH (heap_alloc_new _ _)) (by simp[Value.oneCell']) (by omega) (by unfold maxLen;omega) (by omega) (by simp;omega) (w3.heap.size+1) (by simp) ?_;intro g4 cap4 w4 ho4 hg4 hat4 hgl4))
    obtain⟨hf4,hb4⟩:=cY.BF (wa:=wa) HF2.out HA2.out.1 (by omega) HSV.out (HF3.out (.cells #[.slice ps (bA bb).length cs] 55)).2 ho4 hg4 (by simpa using hat4);have HF4:Hid (cY wa.heap.size (.slice (some ⟨g4,0,none⟩) (vs.length+1) cap4) (vs++[.slice ps (bA bb).length cs]) (fs++[bA bb]) w4∧Below wa.heap.size wa w4):=⟨hf4,hb4⟩;obtain⟨k0,k1,k2,k3⟩:=HC.out w4 hb4;have hs4:=hb4.size;have hu4:an [u3.ownBlock] w2 w4:=((an.of_below (S:=[u3.ownBlock]) HSV.out.below).below (HF3.out _).2).grown hg4 fun k hk=>.inl (by simp[hk])
    have HP4:Hid (w4.ownsRow wb.heap.size 5 1 (.slice (some ⟨gp,0,none⟩) pc.length cp) pc.length (Lib.byteCells pc)):=hu4.owns HPV.out.row fun k hk hm=>by
     obtain rfl:gp=k:=by simpa[Cp] using hk
     have:=HGU.out gp (CK.1 hm).symm;omega
    have hs24:=hu4.size;clear hf4 hb4 hu4 ho4 hg4 hat4 hgl4;go_upto_region 10 with(go_at_call 102;refine(HH.out _).mono ?_;rintro e w5 ⟨hv5,rfl,hn5⟩)
    have hs5:=hn5.below.size;have HM5:Hid (wW wa.heap.size wa (fs++[bA bb]) hd (.slice (some ⟨g4,0,none⟩) (vs.length+1) cap4) hv5 w5):=HF4.out.1.BZ hs4 HF4.out.2 hn5;have hnews:=((an.of_below (S:=[]) hn5.below).owns HP4.out (by simp)).cells (g:=gp) rfl;obtain⟨ph,ch,hhf⟩:=aW hn5.row;subst hhf;have HB5:Hid (w5.ownsRow wa.heap.size 5 1 (.slice ph hd.length ch) hd.length (Lib.byteCells hd)):=HM5.out.body.row;clear hn5 k0 k1 k2 k3;go_wp2_with (at_builtin;refine wpList_append_lies _ rfl _ _ 55 rfl wa.heap.size 5 i0 (.int .u8 0) 1 1 Tryz.underlying55 hi0 hz0 hz1 hz2 rfl (by decide) (.slice ph hd.length ch) hd.length (Lib.byteCells hd) (by rfl) HB5.out ⟨gp,0,none⟩ pc.length cp (Lib.byteCells pc) (by rfl) hbl hnews byteCells_one (by omega) (by unfold maxLen;omega) (by omega) (by omega) w5.heap.size rfl ?_;intro g6 cap6 w6 ho6 hg6 hat6 _)
    go_roundw
    case rel=>exact⟨j+1,hd++pc,fs++[bA bb],by omega,by simp,by rw[Cz];omega,by rw[Cz];omega,by rw[Cz];simp;omega,HM5.out.fits (by omega) (by rw[Cz]) ho6 hg6 hat6,HQ2.out⟩
    case measure=>simp[intOf];omega
   have e195:¬ (195:Int)<(bb.length:Int)+(pc.length:Int):=by omega
   have HM2:Hid (wW wa.heap.size wa fs bb u3 (.slice pb bb.length cb) w2):=HI.out.below hsz HA2.out.2;have HQ2:Hid (fs++lay hd (bb++pc) (es.drop (j+1))=lay hd hd es):=by
    show _=_
    rw[←HQ.out,HD.out,lay,HPC.out,if_neg hroom]
   have hnews:=HPV.out.row.cells (g:=gp) rfl;go_wp2_with (at_builtin;refine wpList_append_lies _ rfl _ _ 55 rfl wa.heap.size 5 i0 (.int .u8 0) 1 1 Tryz.underlying55 hi0 hz0 hz1 hz2 rfl (by decide) (.slice pb bb.length cb) bb.length (Lib.byteCells bb) (by rfl) HB2.out ⟨gp,0,none⟩ pc.length cp (Lib.byteCells pc) (by rfl) hbl hnews byteCells_one (by omega) (by unfold maxLen;omega) (by omega) (by omega) w2.heap.size rfl ?_;intro g3 cap3 w3 ho3 hg3 hat3 _)
   go_roundw
   case rel=>exact⟨j+1,bb++pc,fs,by omega,by simp,by rw[Cz];omega,by rw[Cz];omega,by omega,HM2.out.fits (by omega) (by rw[Cz]) ho3 hg3 hat3,HQ2.out⟩
   case measure=>simp[intOf];omega
  obtain rfl:j=es.length:=by omega
  have HQ2:Hid (fs++[bA bb]=lay hd hd es):=by
   show _=_
   rw[←HQ.out,List.drop_length,lay]
  obtain⟨gb,cb',hbf,hgb,hgb2⟩:=HI.out.body.row.form (by omega);obtain⟨rfl,-,rfl⟩:pb=some ⟨gb,0,none⟩∧True∧cb=cb':=by simpa using hbf
  clear hbf;obtain⟨vs,hfr,-⟩:=HI.out.ex;have HF2:Hid (cY wa.heap.size u3 vs fs wr):=hfr;have hvl:vs.length≤1000:=by rw[hfr.len];omega
  clear hfr;have HS:Hid (Calls Tryz.prog 104 #[.slice (some ⟨gb,0,none⟩) bb.length cb] wr fun e w'=>∃v',e=.returned v'∧eI wr.heap.size wr v' (bA bb) w'):=vr gb 0 cb bb (by omega) wr (nX HI.out.body.row) (HR.out wr HI.out.body.below).1 (HR.out wr HI.out.body.below).2;go_wp2_with (first
   |(go_at_call 104;refine HS.out.mono ?_;rintro e w3 ⟨sv,rfl,hsv⟩;obtain⟨ps,cs,hsf⟩:=aW hsv.row;subst hsf;have hs3:=hsv.below.size;have HSV:Hid (eI wr.heap.size wr (.slice ps (bA bb).length cs) (bA bb) w3):=hsv;clear hsv;have HF3:Hid (∀o,(w3.alloc o).ownsRow wa.heap.size 55 1 u3 vs.length vs∧Below w3.heap.size w3 (w3.alloc o)):=fun o=>⟨(an.of_below (S:=[]) ((Ck _ w3).alloc (Cl _) o)).owns (HF2.out.below HSV.out.below).row (by simp),(Ck _ w3).alloc (Cl _) o⟩)
   |(at_builtin;refine wpList_append_lies _ rfl _ _ 61 rfl wa.heap.size 55 i1 (.slice none 0 0) 1 24 Tryz.underlying61 hi1 hy0 hy1 hy2 rfl (by decide) u3 vs.length vs (by rfl) (HF3.out _).1 ⟨w3.heap.size,0,none⟩ 1 1 [.slice ps (bA bb).length cs] (by rfl) (by rfl) (CH (heap_alloc_new _ _)) (by simp[Value.oneCell']) (by omega) (by unfold maxLen;omega) (by omega) (by simp;omega) (w3.heap.size+1) (by simp) ?_;intro g4 cap4 w4 ho4 hg4 hat4 hgl4))
  go_ret
  obtain⟨hf4,hb4⟩:=cY.BF (wa:=wa) HF2.out HI.out.body.below (by omega) HSV.out (HF3.out (.cells #[.slice ps (bA bb).length cs] 55)).2 ho4 hg4 (by simpa using hat4);rw[HW.out,←HQ2.out];exact⟨_,_,rfl,⟨dc hf4.row (by omega),hf4.len,fun i v f h1 h2=>dc (hf4.each i v f h1 h2) (by omega),hf4.apart,hf4.dist⟩,HBA.out.trans (hb4.mono (by omega))⟩
def mT(l:List UInt8):ByteArray:=⟨l.toArray⟩
theorem jf(l:List UInt8):strOfNums (l.map fun x=>(x.toNat:Int))=mT l:=by
 have h:(l.map fun x=>(x.toNat:Int)).map (fun n=>CA n.toNat)=l:=by
  rw[List.map_map]
  conv=>rhs;rw[←List.map_id l]
  exact List.map_congr_left fun x _=>by simp
 unfold strOfNums mT;rw[h]
theorem jt{v:Value}(h:aM w v l):(convert 55 9 v).run Tryz.prog w=.ok (.string (mT l)) w:=by
 obtain⟨p,cap,rfl,hc⟩:=h;by_cases h0:l=[]
 ·subst h0;rcases p with _|p <;> kernel_rfl
 obtain⟨x,t,rfl⟩:∃x t,l=x::t:=by cases l with|nil=>exact absurd rfl h0|cons x t=>exact⟨x,t,rfl⟩
 obtain⟨b,off,rfl,-⟩:=hc 0 x rfl;rw[←jf];refine run_convert_bytes_arg (P:=Tryz.prog) w 55 5 Tryz.underlying55 Tryz.underlying5 b off (x::t).length cap _ (by simp) (fun i hi=>?_) 9 Tryz.underlying9;obtain⟨b',off',hp,hcell⟩:=hc i (x::t)[i] (Cr hi);simp only[Option.some.injEq,Addr.mk.injEq,and_true]at hp;obtain⟨rfl,rfl⟩:=hp;rw[hcell];rw[List.getD,Dj,Cr hi]
 rfl
theorem nN(a:List UInt8):(mT a).toList=a:=by
 rw[←jf,Lib.strOfNums_toList];have h:=congrArg (fun b:ByteArray=>b.data.toList) (jf a);exact h
theorem vh(a b:List UInt8):((mT a).toList == (mT b).toList)=decide (a=b):=by
 rw[nN,nN];by_cases h:a=b
 ·subst h;simp
 simp[h]
theorem wz(v1 v2:Value)(a b:List UInt8)(w:World)(h1:aM w v1 a)(h2:aM w v2 b):Calls Tryz.prog 144 #[v1,v2] w fun e w'=>e=.returned (.bool (decide (a=b)))∧w'=w:=by
 have c1:=jt h1;have c2:=jt h2;clear h1 h2;rw[←vh];generalize mT a=sa at *;generalize mT b=sb at *;go_enter Tryz.func144,Tryz.ntmps144
 go_wp2
 go_ret
 exact⟨rfl,rfl⟩
def bP(f:List UInt8):List UInt8:=(f.drop 1).take (f.length-5)
def okB(f:List UInt8):Bool:=decide (5≤f.length) && decide (f.length≤200) && decide (bA (bP f)=f)
theorem iN(h:5≤f.length):(bP f).length=f.length-5:=by
 unfold bP;rw[CI,List.length_drop];omega
theorem uA{i:Nat}{x:UInt8}(h:(bP f)[i]?=some x):f[i+1]?=some x:=by
 unfold bP at h;rw[List.getElem?_take]at h
 split at h
 ·rw[List.getElem?_drop,Nat.add_comm]at h;exact h
 cases h
theorem sJ(p:Option Addr)(cap:Nat)(f:List UInt8)(hcap:f.length≤cap)(hfl:f.length≤1000000000)(hm:cap≤9223372036854775807)(w:World)(hb:aM w (.slice p f.length cap) f)(hR:eS w)(hG:1<w.heap.size):Calls Tryz.prog 105 #[.slice p f.length cap] w fun e w'=>∃v,e=.returned (.tuple #[v,.bool (okB f)])∧(okB f=true→(∃c,v=.slice (p.map fun a=>a.add 1) (bP f).length c∧(bP f).length≤c∧c≤cap)∧aM w v (bP f))∧Below w.heap.size w w':=by
 by_cases h5:f.length<5
 ·have e1:(f.length:Int)<5:=by omega
  have HO:Hid (okB f=false):=by show _=_;unfold okB;rw[decide_eq_false (by omega:¬ 5≤f.length)];rfl
  go_enter Tryz.func105,Tryz.ntmps105
  go_wp2
  go_ret2
  rw[HO.out];exact⟨_,rfl,by simp,Ck _ _⟩
 by_cases h200:200<f.length
 ·have e1:¬ (f.length:Int)<5:=by omega
  have e2:(200:Int)<f.length:=by omega
  have HO:Hid (okB f=false):=by show _=_;unfold okB;rw[decide_eq_false (by omega:¬ f.length≤200)];simp
  go_enter Tryz.func105,Tryz.ntmps105
  go_wp2
  go_ret2
  rw[HO.out];exact⟨_,rfl,by simp,Ck _ _⟩
 obtain⟨b,off,rfl⟩:∃b off,p=some ⟨b,off,none⟩:=by
  obtain⟨p',cap',hv,hc⟩:=hb;obtain⟨b,off,hp,-⟩:=hc 0 f[0] (Cr (by omega));simp only[Value.slice.injEq]at hv;exact⟨b,off,hv.1.trans hp⟩
 have hc:∀(i:Nat) (x:UInt8),f[i]?=some x→w.cell? ⟨b,off+i,none⟩=some (.int .u8 (x.toNat:Int)):=fun i x hx=>by
  obtain⟨p',cap',hv,hc⟩:=hb;obtain⟨b',off',hp,hcell⟩:=hc i x hx;rw[hp]at hv
  simp only[Value.slice.injEq,Option.some.injEq,Addr.mk.injEq,and_true]at hv;obtain⟨⟨rfl,rfl⟩,-⟩:=hv;exact hcell
 have hl:=iN (f:=f) (by omega);have HC:Hid (∀(i:Nat) (x:UInt8),(bP f)[i]?=some x→w.cell? ⟨b,off+1+i,none⟩=some (.int .u8 (x.toNat:Int))):=fun i x hx=>by
  have:=hc (i+1) x (uA hx);rw[←this];congr 2
  omega
 have HB:Hid (aM w (.slice (some ⟨b,off,none⟩) f.length cap) f):=hb;have HS:Hid (∀c,Calls Tryz.prog 104 #[.slice (some ⟨b,off+1,none⟩) (bP f).length c] w fun e w'=>∃v',e=.returned v'∧eI w.heap.size w v' (bA (bP f)) w'):=fun c=>vr b (off+1) c (bP f) (by omega) w HC.out hR hG
 have HK:Hid (okB f=decide (bA (bP f)=f)):=by
  show _=_
  unfold okB;rw[decide_eq_true (by omega:5≤f.length),decide_eq_true (by omega:f.length≤200)]
  rfl
 have e1:¬ (f.length:Int)<5:=by omega
 have e2:¬ (200:Int)<f.length:=by omega
 clear hc hb hR;have hsub:(f.length:Int)-4=((f.length-4:Nat):Int):=by omega
 go_enter Tryz.func105,Tryz.ntmps105
 go_upto_region 4 with fail
 have hl2:f.length-4-1=(bP f).length:=by omega
 rw[hl2];have hcl:(bP f).length≤cap-1:=by omega
 clear hl2 hl;have HL:Hid ((∃c,(.slice (some ⟨b,off+1,none⟩) (bP f).length (cap-1):Value)=.slice ((some ⟨b,off,none⟩:Option Addr).map fun a=>a.add 1) (bP f).length c∧(bP f).length≤c∧c≤cap)∧aM w (.slice (some ⟨b,off+1,none⟩) (bP f).length (cap-1)) (bP f)):=by
  refine⟨⟨cap-1,?_,hcl,by omega⟩,⟨_,_,rfl,fun i x hx=>⟨b,off+1,rfl,HC.out i x hx⟩⟩⟩;have hadd:(⟨b,off,none⟩:Addr).add 1=⟨b,off+1,none⟩:=by unfold Addr.add;split <;> simp_all
  rw[Option.map_some,hadd]
 generalize hbo:bP f=bo at *;have HBO:Hid (bP f=bo):=hbo;clear hbo;by_cases hok:bA bo=f
 ·have hko:okB f=true:=by rw[HK.out,decide_eq_true hok]
  have HO:Hid (okB f=true):=hko;have HE:Hid (decide (bA bo=f)=true):=decide_eq_true hok;clear hko hok;go_wp2_with (first
   |(go_at_call 104;refine(HS.out _).mono ?_;rintro e w3 ⟨sv,rfl,hsv⟩;have HSV:Hid (eI w.heap.size w sv (bA bo) w3):=hsv;clear hsv)
   |(go_at_call 144;refine(wz _ _ (bA bo) f w3 (dC HSV.out.row) (by obtain⟨p',c',h1,h2⟩:=HB.out;exact⟨p',c',h1,fun i x hx=>by obtain⟨b',o',h3,h4⟩:=h2 i x hx;exact⟨b',o',h3,aa HSV.out.below h4⟩⟩)).mono ?_;rw[HE.out];rintro e w4 ⟨rfl,hw4⟩;have hw5:=hw4.symm;clear hw4;subst hw5))
  go_ret2
  rw[HO.out,HBO.out];exact⟨_,rfl,fun _=>HL.out,HSV.out.below⟩
 have hko:okB f=false:=by rw[HK.out,decide_eq_false hok]
 have HO:Hid (okB f=false):=hko;have HE:Hid (decide (bA bo=f)=false):=decide_eq_false hok;clear hko hok;go_wp2_with (first
  |(go_at_call 104;refine(HS.out _).mono ?_;rintro e w3 ⟨sv,rfl,hsv⟩;have HSV:Hid (eI w.heap.size w sv (bA bo) w3):=hsv;clear hsv)
  |(go_at_call 144;refine(wz _ _ (bA bo) f w3 (dC HSV.out.row) (by obtain⟨p',c',h1,h2⟩:=HB.out;exact⟨p',c',h1,fun i x hx=>by obtain⟨b',o',h3,h4⟩:=h2 i x hx;exact⟨b',o',h3,aa HSV.out.below h4⟩⟩)).mono ?_;rw[HE.out];rintro e w4 ⟨rfl,hw4⟩;have hw5:=hw4.symm;clear hw4;subst hw5))
 go_ret2
 rw[HO.out];exact⟨_,rfl,by simp,HSV.out.below⟩
end
section
open Go.RowKit Go.Proofs
variable {a b c k s t:Nat} {f:List UInt8}
theorem tC:∀i,i<16→∀j,j<16→(ee.getD i 0 ^^^ ee.getD j 0)<268435456→i=j:=by decide
theorem lI{d:Nat}(h:a ^^^ b=c ^^^ d):a ^^^ c=b ^^^ d:=by
 have h2:(a ^^^ b) ^^^ (b ^^^ c)=(c ^^^ d) ^^^ (b ^^^ c):=by rw[h]
 rw[Nat.xor_assoc,←Nat.xor_assoc b b c,Nat.xor_self,Nat.zero_xor]at h2;rw[h2,Nat.xor_comm c d,Nat.xor_assoc,Nat.xor_comm b c,←Nat.xor_assoc c c b,Nat.xor_self,Nat.zero_xor,Nat.xor_comm]
theorem kM(h:a ^^^ b=0):a=b:=by
 have h2:(a ^^^ b) ^^^ b=0 ^^^ b:=by rw[h]
 rw[Nat.xor_assoc,Nat.xor_self,Nat.xor_zero,Nat.zero_xor]at h2;exact h2
theorem xor_left_inj(h:a ^^^ b=a ^^^ c):b=c:=kM (by rw[←lI h,Nat.xor_self])
theorem ld(hs:s<4294967296)(ht:t<4294967296)(h:eQ s=eQ t):s=t:=by
 unfold eQ at h;have h1:=lI h;have h2:(s / 16 ^^^ t / 16)<268435456:=Nat.xor_lt_two_pow (n:=28) (by omega) (by omega);rw[h1]at h2
 have h3:=tC (s % 16) (by omega) (t % 16) (by omega) h2;rw[h3,Nat.xor_self]at h1
 have h4:=kM h1;omega
theorem kZ{x y:Nat}(hs:s<4294967296)(ht:t<4294967296)(hx:x<256)(hy:y<256)(h:eP s x=eP t y):s ^^^ x=t ^^^ y:=ld (fE hs (by omega)) (fE ht (by omega)) (ld (fM (fE hs (by omega))) (fM (fE ht (by omega))) h)
def lG(s:Nat)(l:List UInt8):Nat:=l.foldl (fun s b=>eP s b.toNat) s
theorem lp:∀(l:List UInt8) (s t:Nat),s<4294967296→t<4294967296→lG s l=lG t l→s=t
 |[],_,_,_,_,h=>h
 |x::l,s,t,hs,ht,h=>by
  have hx:=x.toNat_lt;have h1:=lp l _ _ (eW hs (by omega)) (eW ht (by omega)) h;have h2:=kZ hs ht (by omega) (by omega) h1;rw[Nat.xor_comm s,Nat.xor_comm t]at h2
  exact xor_left_inj h2
theorem sw(l r:List UInt8)(x y:UInt8)(h:fp (l++x::r)=fp (l++y::r)):x=y:=by
 have h1:dW (l++x::r)=dW (l++y::r):=xor_left_inj h;have e:∀z:UInt8,dW (l++z::r)=lG (eP (dW l) z.toNat) r:=fun z=>by simp[dW,lG]
 rw[e,e]at h1;have hx:=x.toNat_lt;have hy:=y.toNat_lt;have h2:=lp r _ _ (eW (fN l) (by omega)) (eW (fN l) (by omega)) h1;have h3:=xor_left_inj (kZ (fN l) (fN l) (by omega) (by omega) h2);exact UInt8.toNat_inj.1 h3
theorem xv(hs:s<4294967296)(ht:t<4294967296)(h:uO s=uO t):s=t:=by
 simp only[uO,List.cons.injEq,and_true]at h;obtain⟨h0,h1,h2,h3⟩:=h;have e:∀a b:Nat,CA a=CA b→a % 256=b % 256:=fun a b hab=>by
  have:=congrArg UInt8.toNat hab;rwa[UInt8.toNat_ofNat',UInt8.toNat_ofNat']at this
 have:=e _ _ h0;have:=e _ _ h1;have:=e _ _ h2;have:=e _ _ h3;omega
theorem dy(f:List UInt8):okB f=true↔5≤f.length∧f.length≤200∧bA (bP f)=f:=by
 simp[okB,and_assoc]
theorem j7(l:List UInt8):(bA l).length=l.length+5:=by simp[bA,uO]
theorem mJ(l:List UInt8):bP (bA l)=l:=by
 unfold bP;rw[j7];simp[bA]
theorem vN{l:List UInt8}(h:l.length≤195):okB (bA l)=true:=by
 rw[dy,j7,mJ];exact⟨by omega,by omega,rfl⟩
theorem qv(h:okB f=true):f.head?=some (CA f.length):=by
 obtain⟨h1,h2,h3⟩:=(dy f).1 h;have h4:(bA (bP f)).head?=some (CA ((bP f).length+5)):=by simp[bA]
 rw[h3,iN h1,show f.length-5+5=f.length by omega]at h4;exact h4
theorem sP{g:List UInt8}(hf:okB f=true)(hg:okB g=true)(h:f.head?=g.head?):f.length=g.length:=by
 rw[qv hf,qv hg]at h;have h2:=congrArg UInt8.toNat (Option.some.inj h);rw[UInt8.toNat_ofNat',UInt8.toNat_ofNat']at h2
 have:=((dy f).1 hf).2.1;have:=((dy g).1 hg).2.1;omega
theorem wD(hf:okB f=true)(hk:k<f.length):okB (f.take k)=false:=by
 cases h:okB (f.take k) with
 |false=>rfl
 |true =>
  have h1:=((dy _).1 h).1;rw[CI]at h1
  have h2:=sP h hf (by rw[List.head?_take,if_neg (by omega)]);rw[CI]at h2
  omega
theorem ri{s:List UInt8}(hf:okB f=true)(hs:s≠[]):okB (f++s)=false:=by
 cases h:okB (f++s) with
 |false=>rfl
 |true =>
  have h5:=((dy f).1 hf).1;have h2:=sP h hf (by cases f with|nil=>simp at h5|cons x t=>rfl);rw[Cz]at h2
  have:s.length≠0:=fun e=>hs (List.length_eq_zero_iff.1 e)
  omega
theorem rF(b:List UInt8):(bA b).drop ((bA b).length-4)=uO (fp ((bA b).take ((bA b).length-4))):=by
 rw[j7,show b.length+5-4=(CA (b.length+5)::b).length by simp];unfold bA;rw[List.drop_left,List.take_left]
theorem nZ(h:okB f=true):f.drop (f.length-4)=uO (fp (f.take (f.length-4))):=by
 have h3:=((dy f).1 h).2.2;have:=rF (bP f);rw[h3]at this
 exact this
theorem vL(hf:okB f=true)(hk:k<f.length){y:UInt8}(hy:y≠f[k]):okB (f.set k y)=false:=by
 cases h:okB (f.set k y) with
 |false=>rfl
 |true =>
  exfalso
  have hl:(f.set k y).length=f.length:=List.length_set;have hF:=nZ hf;have hG:=nZ h;rw[hl]at hG
  have h5:=((dy f).1 hf).1;generalize hn:f.length-4=n at hF hG;by_cases hkn:k<n
  ·rw[List.drop_set_of_lt hkn,hF]at hG;have h1:=xv (kG _) (kG _) hG;have hkF:k<(f.take n).length:=by rw[CI];omega
   rw[List.take_set]at h1;have h2:f.take n=(f.take n).set k (f.take n)[k]:=(List.set_getElem_self hkF).symm;rw[h2,List.set_set,List.set_eq_take_append_cons_drop,if_pos hkF,List.set_eq_take_append_cons_drop,if_pos hkF]at h1
   have h3:=sw _ _ _ _ h1;rw[List.getElem_take]at h3
   exact hy h3.symm
  have h1:(f.set k y).take n=f.take n:=by rw[List.take_set_of_le (by omega)]
  rw[h1,←hF]at hG;have h2:f.set k y=f:=by rw[←DB n (f.set k y),h1,hG,DB]
  have h3:(f.set k y)[k]?=f[k]?:=by rw[h2]
  rw[List.getElem?_set_self hk,Cr hk]at h3;exact hy (Option.some.inj h3)
def dM(hd:List UInt8)(l:List En):List UInt8:=hd++l.flatMap cH
theorem jo(hd:List UInt8)(hh:hd.length≤11):∀(es:List En) (body:List UInt8),body.length≤195→∃(e0:List En) (L:List (List En)),lay hd body es=bA (dM body e0)::L.map (fun l=>bA (dM hd l))∧es=e0++L.flatten∧(dM body e0).length≤195∧∀l∈L,(dM hd l).length≤195
 |[],body,hb=>⟨[],[],by simp[lay,dM],rfl,by simpa[dM] using hb,by simp⟩
 |x::es,body,hb=>by
  have hx:=qQ x;by_cases h:195<body.length+(cH x).length
  ·obtain⟨e0,L,h1,h2,h3,h4⟩:=jo hd hh es (hd++cH x) (by rw[Cz];omega);have e:dM (hd++cH x) e0=dM hd (x::e0):=by simp[dM]
   refine⟨[],(x::e0)::L,?_,by rw[h2];simp,by simpa[dM] using hb,fun l hl=>?_⟩
   ·rw[lay,if_pos h,h1,e];simp[dM]
   rcases Co.1 hl with rfl|hl
   ·rw[←e];exact h3
   exact h4 l hl
  obtain⟨e0,L,h1,h2,h3,h4⟩:=jo hd hh es (body++cH x) (by rw[Cz];omega);have e:dM (body++cH x) e0=dM body (x::e0):=by simp[dM]
  refine⟨x::e0,L,?_,by rw[h2];simp,by rw[←e];exact h3,h4⟩;rw[lay,if_neg h,h1,e]
theorem oF(a b:Nat){h:Nat}(hh:h<1152921504606846976)(es:List En):∃L:List (List En),ed a b h es=L.map (fun l=>bA (dM (eO a b h) l))∧es=L.flatten∧L≠[]∧∀l∈L,okB (bA (dM (eO a b h) l))=true∧bP (bA (dM (eO a b h) l))=eO a b h++l.flatMap cH:=by
 have hl:=(ot a b hh).1;obtain⟨e0,L,h1,h2,h3,h4⟩:=jo (eO a b h) hl es (eO a b h) (by omega);refine⟨e0::L,h1,by rw[h2];simp,by simp,fun l hm=>⟨vN ?_,mJ _⟩⟩;rcases Co.1 hm with rfl|hm
 ·exact h3
 exact h4 l hm
end
end Go.Proofs.YtckmppkdpnhodaaGreatDoor
