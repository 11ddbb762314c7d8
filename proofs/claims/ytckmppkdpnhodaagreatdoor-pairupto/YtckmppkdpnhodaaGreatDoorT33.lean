import Derived.Test.YtckmppkdpnhodaaGreatDoorT32
import Derived.Test.YtckmppkdpnhodaaGreatDoorT23
import Derived.Laws.CopyOwn
import Derived.Test.YtckmppkdpnhodaaGreatDoorT00
set_option maxRecDepth 100000
set_option maxHeartbeats 8000000
set_option linter.unusedVariables false
set_option linter.unusedSimpArgs false
open List renaming mem_cons→Co,not_mem_nil→Cq,getElem?_eq_getElem→Cr,getElem?_append_right→C5,drop_eq_getElem_cons→C9,set_append_right→Dz,set_cons_zero→Cs,mem_cons_of_mem→CQ,mem_singleton→CK,append_nil→Da,replicate→CM,getElem_mem→CN,length_append→Cz,length_replicate→D1,getElem?_map→Dj,nil_append→DC,setIfInBounds_toArray→Cw
open Array renaming getElem?_eq_some_iff→Cn,getElem?_setIfInBounds_ne→CY
open Go.World renaming block_lt_of_cell?→Cy,cell?_of_block→CE,frozen?_of_block→C6,setCell→Dy,news_of_block→CH,ownsRow→D5
open Nat renaming lt_of_lt_of_le→CG,zero_add→CJ,le_refl→Cl,sub_self→Dt,add_sub_cancel_left→DM,zero_le→CB,add_zero→DG
open Go.Addr renaming add_mid→CS
open Go.RowKit.Below renaming heap_alloc→CF,refl→Ck
open Go.Value renaming ownBlock→Cp
namespace Go.Proofs.YtckmppkdpnhodaaGreatDoor
section
open Go.RowKit Go.Proofs
variable {c:Nat→Nat} {k:Nat} {w:World}
variable {QT:Type} {R:World→Nat→List Nat→cX→QT→(Nat→Prop)→Prop}
theorem ar.flag(hR:dT R){L:aC}{st:aS QT}(h:ar R w c L st)(hk:k<st.n)(v:Bool):w.cell? ⟨L.fb,k,none⟩=some (.bool (st.fresh[k]'(by rw[h.flen];exact hk)))∧w.frozen? ⟨L.fb,k,none⟩=false∧ar R (w.setCell ⟨L.fb,k,none⟩ (.bool v)) c {L with FB:=L.FB.setIfInBounds k (.bool v)} {st with fresh:=st.fresh.set k v}∧aG w c (w.setCell ⟨L.fb,k,none⟩ (.bool v)) c:=by
 have hkf:k<st.fresh.length:=by rw[h.flen];exact hk
 have hc:=h.fcell k hkf;have hus:an [some L.fb] w (w.setCell ⟨L.fb,k,none⟩ (.bool v)):=(an.refl _ _).setCell (.inl (by simp)) _;have same:∀b,b<w.heap.size→c b≠6→(w.setCell ⟨L.fb,k,none⟩ (.bool v)).heap[b]?=w.heap[b]?:=fun b hb hcb=>hus.block b hb fun hm=>by
  simp only[Co,Cq,or_false,Option.some.injEq]at hm;exact hcb (by rw[hm];exact h.fbc)
 have owns:∀{e:TypeId} {size:Nat} {v':Value} {n:Nat} {xs:List Value} (col:Nat),w.ownsRow 0 e size v' n xs→(∀b,v'.ownBlock=some b→c b=col)→col≠6→(w.setCell ⟨L.fb,k,none⟩ (.bool v)).ownsRow 0 e size v' n xs:=fun col ho hcc a1=>hus.owns ho fun b hb hm=>by
  simp only[Co,Cq,or_false,Option.some.injEq]at hm;have e:=hcc b hb;rw[hm,h.fbc]at e
  omega
 have bl:∀{b:Nat} {o:Obj},w.heap[b]?=some o→c b≠6→(w.setCell ⟨L.fb,k,none⟩ (.bool v)).heap[b]?=some o:=fun {b o} ho hcc=>(same b (Cn.1 ho).1 hcc).trans ho
 have h0:0<st.rbs.length:=by rw[h.llen];have:=h.npos;omega
 have lbl:=Cy w _ (h.lcell 0 h0);refine⟨by rw[cell_of_heap h.fbk];exact hc,frozen_of_heap h.fbk k,?_,⟨hus.os,hus.tape,hus.output,hus.size,fun _ _=>rfl,fun b hb e=>same b hb (by omega)⟩⟩;exact
  {npos:=h.npos
   wbk:=bl h.wbk (by rw[h.wbc];omega)
   wbc:=h.wbc
   lbc:=h.lbc
   lcell:=fun i hi=>(CE (a:=⟨L.lb,i,none⟩) (same L.lb lbl (by rw[h.lbc];omega))).trans (h.lcell i hi)
   llen:=h.llen
   trow:=owns 3 h.trow h.tvc (by omega)
   tvc:=h.tvc
   blen:=h.blen
   bef:=fun i hi hi'=>by
    obtain⟨a1,a2,a3⟩:=h.bef i hi hi';refine⟨a1.same fun b hb hl=>?_,fun b hb=>⟨(a2 b hb).1,CG (a2 b hb).2 hus.size⟩,a3⟩;have e:=(a2 b hb).1;exact same b hl (by omega)
   kbk:=bl h.kbk (by rw[h.kbc];omega)
   kbc:=h.kbc
   xlen:=h.xlen
   xrow:=fun i hi=>by
    obtain⟨u,a1,a2,a3⟩:=h.xrow i hi;exact⟨u,a1,owns (10+i) a2 a3 (by omega),a3⟩
   slen:=h.slen
   srow:=owns 5 h.srow h.svc (by omega)
   svc:=h.svc
   fbk:=ae h.fbk _
   fbc:=h.fbc
   flen:=by simp[h.flen]
   fcell:=fun i hi=>by
    have hi2:i<st.fresh.length:=by simpa using hi
    have hf:=h.fcell i hi2;by_cases hik:i=k
    ·subst hik;have:i<L.FB.size:=(Cn.1 hf).1;simp[Array.getElem?_setIfInBounds_self_of_lt this]
    simp only;rw[CY (fun e=>hik e.symm),hf];simp[List.getElem_set_ne (fun e=>hik e.symm)]
   orow:=owns 7 h.orow h.ovc (by omega)
   ovc:=h.ovc
   marks:=fun i hi hi'=>by
    obtain⟨a1,a2⟩:=h.marks i hi hi';refine⟨a1.upd hus fun b hb hm=>?_,fun b hb=>⟨(a2 b hb).1,CG (a2 b hb).2 hus.size⟩⟩;simp only[Co,Cq,or_false,Option.some.injEq]at hm;have e:=(a2 b hb).1;rw[hm,h.fbc]at e
    omega
   krow:=owns 8 h.krow h.kvc (by omega)
   kvc:=h.kvc
   rest:=hR.same h.rest hus.size fun b hF hl=>⟨same b hl (by omega),hF⟩}
theorem ar.count(hR:dT R){L:aC}{st:aS QT}(h:ar R w c L st)(hk:k<st.n)(v:Nat):∃g cap,L.sv=.slice (some ⟨g,0,none⟩) st.n cap∧(∃y,w.cell? ⟨g,k,none⟩=some y)∧w.frozen? ⟨g,k,none⟩=false∧ar R (w.setCell ⟨g,k,none⟩ (.int .i64 (v:Int))) c L {st with since:=st.since.set k v}∧aG w c (w.setCell ⟨g,k,none⟩ (.int .i64 (v:Int))) c:=by
 obtain⟨g,cap,hv,-,hgl⟩:=h.srow.form (by omega);have hcol:c g=5:=h.svc g (by rw[hv];rfl);have hks:k<st.since.length:=by rw[h.slen];exact hk
 have hus:an [some g] w (w.setCell ⟨g,k,none⟩ (.int .i64 (v:Int))):=(an.refl _ _).setCell (.inl (by simp)) _;have same:∀b,b<w.heap.size→c b≠5→(w.setCell ⟨g,k,none⟩ (.int .i64 (v:Int))).heap[b]?=w.heap[b]?:=fun b hb hcb=>hus.block b hb fun hm=>by
  simp only[Co,Cq,or_false,Option.some.injEq]at hm;exact hcb (by rw[hm];exact hcol)
 have owns:∀{e:TypeId} {size:Nat} {v':Value} {n:Nat} {xs:List Value} (col:Nat),w.ownsRow 0 e size v' n xs→(∀b,v'.ownBlock=some b→c b=col)→col≠5→(w.setCell ⟨g,k,none⟩ (.int .i64 (v:Int))).ownsRow 0 e size v' n xs:=fun col ho hcc a1=>hus.owns ho fun b hb hm=>by
  simp only[Co,Cq,or_false,Option.some.injEq]at hm;have e:=hcc b hb;rw[hm,hcol]at e
  omega
 have bl:∀{b:Nat} {o:Obj},w.heap[b]?=some o→c b≠5→(w.setCell ⟨g,k,none⟩ (.int .i64 (v:Int))).heap[b]?=some o:=fun {b o} ho hcc=>(same b (Cn.1 ho).1 hcc).trans ho
 have h0:0<st.rbs.length:=by rw[h.llen];have:=h.npos;omega
 have lbl:=Cy w _ (h.lcell 0 h0);have hsr:=h.srow;rw[hv]at hsr
 obtain⟨cc,hcc⟩:∃cc,w.heap[g]?=some (.cells cc 3 (0,0)):=by
  rcases hsr.2 with⟨h1,_⟩|⟨g',cap2,cur2,hv,hb,hg,h1⟩
  ·cases h1
  simp only[Value.slice.injEq,Option.some.injEq,Addr.mk.injEq,and_true,true_and]at hv;obtain⟨rfl,rfl⟩:=hv;exact⟨_,hg⟩
 refine⟨g,cap,hv,?_,frozen_of_heap hcc k,?_,⟨hus.os,hus.tape,hus.output,hus.size,fun _ _=>rfl,fun b hb e=>same b hb (by omega)⟩⟩
 ·have:=hsr.cells (g:=g) rfl k _ (Cr (by simp[ints];omega));rw[CS,CJ]at this
  exact⟨_,this⟩
 exact
  {npos:=h.npos
   wbk:=bl h.wbk (by rw[h.wbc];omega)
   wbc:=h.wbc
   lbc:=h.lbc
   lcell:=fun i hi=>(CE (a:=⟨L.lb,i,none⟩) (same L.lb lbl (by rw[h.lbc];omega))).trans (h.lcell i hi)
   llen:=h.llen
   trow:=owns 3 h.trow h.tvc (by omega)
   tvc:=h.tvc
   blen:=h.blen
   bef:=fun i hi hi'=>by
    obtain⟨a1,a2,a3⟩:=h.bef i hi hi';refine⟨a1.same fun b hb hl=>?_,fun b hb=>⟨(a2 b hb).1,CG (a2 b hb).2 hus.size⟩,a3⟩;have e:=(a2 b hb).1;exact same b hl (by omega)
   kbk:=bl h.kbk (by rw[h.kbc];omega)
   kbc:=h.kbc
   xlen:=h.xlen
   xrow:=fun i hi=>by
    obtain⟨u,a1,a2,a3⟩:=h.xrow i hi;exact⟨u,a1,owns (10+i) a2 a3 (by omega),a3⟩
   slen:=by simp[h.slen]
   srow:=by
    rw[hv];have:=nV hsr k (.int .i64 (v:Int));have e:(ints st.since).set k (.int .i64 (v:Int))=ints (st.since.set k v):=by simp[ints,List.map_set]
    rw[e]at this;exact this
   svc:=h.svc
   fbk:=bl h.fbk (by rw[h.fbc];omega)
   fbc:=h.fbc
   flen:=h.flen
   fcell:=h.fcell
   orow:=owns 7 h.orow h.ovc (by omega)
   ovc:=h.ovc
   marks:=fun i hi hi'=>by
    obtain⟨a1,a2⟩:=h.marks i hi hi';refine⟨a1.upd hus fun b hb hm=>?_,fun b hb=>⟨(a2 b hb).1,CG (a2 b hb).2 hus.size⟩⟩;simp only[Co,Cq,or_false,Option.some.injEq]at hm;have e:=(a2 b hb).1;rw[hm,hcol]at e
    omega
   krow:=owns 8 h.krow h.kvc (by omega)
   kvc:=h.kvc
   rest:=hR.same h.rest hus.size fun b hF hl=>⟨same b hl (by omega),hF⟩}
end
section
open Go.RowKit
variable {B H M N a b base c cap cap' d f g h i m n wb:Nat} {C:Array Value} {S T:List (Option Nat)} {W W' w w' w4 w5:World} {X kov l osv u v:Value} {e:TypeId} {k:Int} {o:Obj} {p x y z:Option Addr} {row:Option Nat} {xs:List Value}
def yC(k:Int):List Value:=[.int .i64 k,.slice none 0 0]
def marksF(k:Int):Nat→List Value
 |0=>[]
 |n+1=>marksF k n++yC k
theorem iV(k:Int)(n:Nat):(marksF k n).length=n*2:=by
 induction n with
 |zero=>rfl
 |succ n ih=>simp[marksF,yC,ih];omega
theorem jl(k:Int)(n m:Nat):marksF k (n+m)=marksF k n++marksF k m:=by
 induction m with
 |zero=>simp[marksF]
 |succ m ih=>rw[←Nat.add_assoc];simp[marksF,ih]
theorem rS(k:Int)(h:i<n):(marksF k n)[i*2]?=some (.int .i64 k)∧(marksF k n)[i*2+1]?=some (.slice none 0 0):=by
 obtain⟨m,rfl⟩:∃m,n=i+(1+m):=⟨n-i-1,by omega⟩
 rw[jl,jl];have hl:=iV k i;have e1:marksF k 1=yC k:=by simp[marksF]
 rw[e1];refine⟨?_,?_⟩
 ·rw[C5 (by omega)];simp[hl,yC]
 rw[C5 (by omega)];simp[hl,yC]
def aI(w:World)(u:Value)(m:Nat)(k:Int):Prop:=∃p cap,u=.slice p m cap∧∀i,i<m→∃g,p=some ⟨g,0,none⟩∧w.cell? ⟨g,i*2,none⟩=some (.int .i64 k)∧w.cell? ⟨g,i*2+1,none⟩=some (.slice none 0 0)
theorem aI.below(h:aI w u m k)(hb:Below w.heap.size w w'):aI w' u m k:=by
 obtain⟨p,cap,hv,hc⟩:=h;refine⟨p,cap,hv,fun i hi=>?_⟩;obtain⟨g,hg,c0,c1⟩:=hc i hi;exact⟨g,hg,aa hb c0,aa hb c1⟩
theorem aI.Au(h:w.ownsRow base e 2 (.slice (some ⟨g,0,none⟩) N cap) N (marksF k N))(hM:M≤N):aI w (.slice (some ⟨g,0,none⟩) M cap') M k:=by
 refine⟨_,_,rfl,fun i hi=>⟨g,rfl,?_⟩⟩;obtain⟨m0,m1⟩:=rS k (show i<N by omega);have c:=h.cells (g:=g) rfl;have c0:=c _ _ m0;have c1:=c _ _ m1;rw[CS,CJ]at c0 c1
 exact⟨c0,c1⟩
theorem aI.Av(h:w.ownsRow base e 2 v N (marksF k N)):aI w v N k:=by
 rcases id h.2 with⟨rfl,rfl⟩|⟨g,cap,cur,rfl,_⟩
 ·exact⟨_,_,rfl,fun i hi=>by omega⟩
 exact aI.Au h (Cl _)
theorem aI.two(h:aI w u M k)(ht:eR w w' l n g cap H)(hM:M≤n+m)(ho:w'.ownsRow base e 2 (.slice (some ⟨g,0,none⟩) (n+m) cap) (n+m) (marksF k (n+m))):aI w' u M k:=by
 rcases ht with⟨rfl,hg⟩|⟨_,hb⟩
 ·obtain⟨p,capu,rfl,hc⟩:=h;by_cases h0:M=0
  ·subst h0;exact⟨_,_,rfl,fun i hi=>by omega⟩
  obtain⟨gu,rfl,-⟩:=hc 0 (by omega);by_cases e:gu=g
  ·subst e;exact aI.Au ho hM
  refine⟨_,_,rfl,fun i hi=>⟨gu,rfl,?_⟩⟩;obtain⟨g',hg',c0,c1⟩:=hc i hi;obtain rfl:gu=g':=by simpa using hg'
  exact⟨hg.cell c0 (by simpa using e),hg.cell c1 (by simpa using e)⟩
 exact h.below hb
theorem aI.upd(h:aI w u M k)(hu:an S w w')(hS:∀b,u.ownBlock=some b→some b∉S):aI w' u M k:=by
 obtain⟨p,capu,rfl,hc⟩:=h;refine⟨_,_,rfl,fun i hi=>?_⟩;obtain⟨g,rfl,c0,c1⟩:=hc i hi;exact⟨g,rfl,hu.cell c0 (hS g rfl),hu.cell c1 (hS g rfl)⟩
theorem rR(hx:xs.length=n*2)(hi:i<n):(((marksF k i++xs.drop (i*2)).set (i*2) (.int .i64 k)).set (i*2+1) (.slice none 0 0))=marksF k (i+1)++xs.drop ((i+1)*2):=by
 have hl:=iV k i;have hlt:i*2+1<xs.length:=by omega
 have d:xs.drop (i*2)=xs[i*2]::xs[i*2+1]::xs.drop (i*2+2):=by
  rw[C9 (by omega),C9 (by omega)]
 rw[d];rw[Dz _ _ (by omega),Dz _ _ (by omega)];simp only[hl,Dt,DM,Cs,List.set_cons_succ];simp[marksF,yC,Nat.add_mul]
theorem tM(h:w.ownsRow base e 2 (.slice (some ⟨g,0,none⟩) n cap) n xs)(_hi:i<n)(x y:Value):((w.setCell ⟨g,i*2,none⟩ x).setCell ⟨g,i*2+1,none⟩ y).ownsRow base e 2 (.slice (some ⟨g,0,none⟩) n cap) n ((xs.set (i*2) x).set (i*2+1) y):=by
 rcases h.2 with⟨h1,_⟩|⟨g',cap2,cur2,hv,hb,hg,h1,h2,h3,h4⟩
 ·cases h1
 simp only[Value.slice.injEq,Option.some.injEq,Addr.mk.injEq,and_true,true_and]at hv;obtain⟨rfl,rfl⟩:=hv;refine⟨by simp[h.1],.inr ⟨g,cap,_,rfl,hb,ae (ae hg x) y,h1,h2,by simp[h3],?_⟩⟩;simp only[Array.toList_setIfInBounds,List.take_set,h4]
theorem jk(k:Int)(n:Nat):∀u∈marksF k n,u.oneCell'=true:=by
 induction n with
 |zero=>simp[marksF]
 |succ n ih =>
  intro u hu;rcases List.mem_append.1 hu with hu|hu
  ·exact ih u hu
  simp only[yC,Co,Cq,or_false]at hu;rcases hu with rfl|rfl <;> rfl
structure xZ(w:World)(S:List (Option Nat))(B wb:Nat)(k:Int)(osv kov:Value)(W:World):Prop where
 m0:W.cell? ⟨B,0,none⟩=some (.int .i64 k)
 m1:W.cell? ⟨B,1,none⟩=some (.slice none 0 0)
 c10:W.cell? ⟨wb,12,none⟩=some osv
 c11:W.cell? ⟨wb,13,none⟩=some kov
 f10:W.frozen? ⟨wb,12,none⟩=false
 f11:W.frozen? ⟨wb,13,none⟩=false
 lt:B<W.heap.size
 up:an S w W
theorem xZ.step(h:xZ w S B wb k osv kov W)(hu:an T (W.alloc o) W')(hB:some B∉T)(hw:some wb∉T)(hST:∀i,some i∈T→some i∈S∨w.heap.size≤i):xZ w S B wb k osv kov W':=by
 have hwl:wb<W.heap.size:=Cy W _ h.c10;have hl:∀b,b<W.heap.size→(W.alloc o).heap[b]?=W.heap[b]?:=fun b hb=>CF W o b hb
 have hc:∀b j v,some b∉T→W.cell? ⟨b,j,none⟩=some v→W'.cell? ⟨b,j,none⟩=some v:=fun b j v hS hv =>
  hu.cell ((CE (a:=⟨b,j,none⟩) (hl b (Cy W _ hv))).trans hv) hS
 have hf:∀j,W'.frozen? ⟨wb,j,none⟩=W.frozen? ⟨wb,j,none⟩:=fun j=>by
  rw[C6 (a:=⟨wb,j,none⟩) (hu.block wb (by simp;omega) hw),C6 (a:=⟨wb,j,none⟩) (hl wb hwl)]
 refine⟨hc _ _ _ hB h.m0,hc _ _ _ hB h.m1,hc _ _ _ hw h.c10,hc _ _ _ hw h.c11,(hf 12).trans h.f10,(hf 13).trans h.f11,?_,(h.up.alloc o).trans hu hST⟩;have h1:=hu.size;have h2:=h.lt;rw[World.size_alloc]at h1
 omega
theorem ui{e:Nat}:∀u∈[Value.slice p a b,.slice x c d,.slice y e f,.slice z g h],u.oneCell'=true:=by
 intro u hu;simp only[Co,Cq,or_false]at hu;rcases hu with rfl|rfl|rfl|rfl <;> rfl
theorem tY{a:Int}:∀u∈[Value.int .i64 a,.int .i64 a,.int .i64 a,.int .i64 a],u.oneCell'=true:=by
 intro u hu;simp only[Co,Cq,or_false]at hu;rcases hu with rfl|rfl|rfl|rfl <;> rfl
theorem qZ{T:TypeId}(hwb:w.heap[wb]?=some (.cells C T (0,0)))(hwl:wb<w.heap.size)(hu:an S w w4)(hS:some wb∉S)(hg:((w4.setCell ⟨wb,12,none⟩ X).alloc o).grownBy w5 kov.ownBlock)(hk:∀i,kov.ownBlock=some i→i≠wb):w5.heap[wb]?=some (.cells (C.setIfInBounds 12 X) T (0,0)):=by
 have h4:w4.heap[wb]?=some (.cells C T (0,0)):=(hu.block wb hwl hS).trans hwb;have hs:wb<(w4.setCell ⟨wb,12,none⟩ X).heap.size:=by have:=hu.size;simp[Dy];omega
 rw[hg.block wb (by simp;simp at hs;omega) (fun e=>hk wb e.symm rfl),CF _ _ _ hs];exact ae h4 X
theorem yU(h:C[13]?=some kov):(C.setIfInBounds 12 X)[13]?=some kov:=by
 rw[CY (by decide)];exact h
theorem xZ.AY(h:xZ w S B wb k osv kov W)(hg:(W.alloc o).grownBy W' row)(hB:∀i,row=some i→i≠B)(hw:∀i,row=some i→i≠wb):xZ w (row::S) B wb k osv kov W':=by
 have hu:an [row] (W.alloc o) W':=(an.refl _ _).grown hg fun k hk=>.inl (by simp[hk])
 have h':xZ w (row::S) B wb k osv kov W:=⟨h.m0,h.m1,h.c10,h.c11,h.f10,h.f11,h.lt,h.up.mono fun i hi=>CQ _ hi⟩;exact h'.step hu (fun e=>hB B (CK.1 e).symm rfl) (fun e=>hw wb (CK.1 e).symm rfl) fun i hi=>.inl (by simp at hi;simp[hi])
theorem Tryz.Bp:(Tryz.prog.info? 57).map (fun i=>(i.zero,i.size,i.bytes))=some (some (.agg #[.int .i64 0,.slice none 0 0]),2,32):=by kernel_rfl
theorem Tryz.Bf:(Tryz.prog.info? 64).map (fun i=>(i.zero,i.size,i.bytes))=some (some (.slice none 0 0),1,24):=by kernel_rfl
theorem Tryz.Bd:(Tryz.prog.info? 3).map (fun i=>(i.zero,i.size,i.bytes))=some (some (.int .i64 0),1,8):=by kernel_rfl
theorem xB(wb:Nat)(C:Array Value)(T:TypeId)(osv kov:Value)(N:Nat)(us ks:List Value)(p:Option Addr)(n cap:Nat)(xs:List Value)(w:World)(hwb:w.heap[wb]?=some (.cells C T (0,0)))(hC:C.size=14)(h10:C[12]?=some osv)(h11:C[13]?=some kov)(hos:w.ownsRow 0 64 1 osv N us)(hko:w.ownsRow 0 3 1 kov N ks)(hl:w.ownsRow 0 57 2 (.slice p n cap) n xs)(d1:osv.ownBlock≠some wb)(d2:kov.ownBlock≠some wb)(d3:∀k,osv.ownBlock=some k→kov.ownBlock≠some k)(d4:(Value.slice p n cap).ownBlock≠some wb)(d5:∀k,(Value.slice p n cap).ownBlock=some k→osv.ownBlock≠some k∧kov.ownBlock≠some k)(hN:N≤100000000000)(hn:n≤100000000000):Calls Tryz.prog 69 #[.pointer (some ⟨wb,8,none⟩),.slice p n cap] w fun e w'=>e=.returned (.tuple #[])∧∃osv' kov' g h j,w'.heap[wb]?=some (.cells ((C.setIfInBounds 12 osv').setIfInBounds 13 kov') T (0,0))∧w'.ownsRow 0 64 1 osv' (N+4) (us++[.slice p n cap,g,h,j])∧w'.ownsRow 0 3 1 kov' (N+4) (ks++[.int .i64 (-1-(N:Int)),.int .i64 (-1-(N:Int)),.int .i64 (-1-(N:Int)),.int .i64 (-1-(N:Int))])∧aI w' (.slice p n cap) n (-1-(N:Int))∧aI w' g (n+1) (-1-(N:Int))∧aI w' h (n+2) (-1-(N:Int))∧aI w' j (n+3) (-1-(N:Int))∧an [some wb,osv.ownBlock,kov.ownBlock,(Value.slice p n cap).ownBlock] w w'∧(∀b,osv'.ownBlock=some b→osv.ownBlock=some b∨w.heap.size≤b)∧(∀b,kov'.ownBlock=some b→kov.ownBlock=some b∨w.heap.size≤b)∧(∀b,g.ownBlock=some b→(Value.slice p n cap).ownBlock=some b∨w.heap.size≤b)∧(∀b,h.ownBlock=some b→(Value.slice p n cap).ownBlock=some b∨w.heap.size≤b)∧(∀b,j.ownBlock=some b→(Value.slice p n cap).ownBlock=some b∨w.heap.size≤b)∧(∀b,osv'.ownBlock=some b→kov'.ownBlock≠some b∧∀x∈[Value.slice p n cap,g,h,j],x.ownBlock≠some b)∧(∀b,kov'.ownBlock=some b→∀x∈[Value.slice p n cap,g,h,j],x.ownBlock≠some b):=by
 obtain⟨i0,hi,hz0,hz1,hz2⟩:=info_parts Tryz.Bp;obtain⟨i1,hi1,hy0,hy1,hy2⟩:=info_parts Tryz.Bf;obtain⟨i2,hi2,hx0,hx1,hx2⟩:=info_parts Tryz.Bd;have g10:w.cell? ⟨wb,12,none⟩=some osv:=by rw[cell_of_heap hwb,h10]
 have g11:w.cell? ⟨wb,13,none⟩=some kov:=by rw[cell_of_heap hwb,h11]
 have hwl:=Cy w _ g10;obtain⟨po,capo,hpo⟩:∃po capo,osv=.slice po N capo:=by
  rcases hos.2 with⟨rfl,rfl⟩|⟨g,cap',_,rfl,_⟩
  ·exact⟨_,_,rfl⟩
  exact⟨_,_,rfl⟩
 subst hpo;go_enter Tryz.func69,Tryz.ntmps69
 go_wp2
 go_loopw [6] (fun i wr=>∃k:Nat,k≤n∧i=.int .i64 k∧wr.ownsRow 0 57 2 (.slice p n cap) n (marksF (-1-(N:Int)) k++xs.drop (k*2))∧an [(Value.slice p n cap).ownBlock] (w.alloc (.cells #[.int .i64 (-1-(N:Int)),.slice none 0 0] 57)) wr) (fun i _=>n-(intOf i).toNat)
 case atStart=>exact⟨0,CB _,rfl,by simpa[marksF] using hl.alloc _,an.refl _ _⟩
 case round =>
  obtain⟨k,hk,rfl,hown,hup⟩:=hrel;have hszr:w.heap.size+1≤wr.heap.size:=by have:=hup.size;simpa using this
  have hdm:∀g,(Value.slice p n cap).ownBlock=some g→g<w.heap.size:=fun g hg=>(hl.lt g hg).2
  have m0:wr.cell? ⟨w.heap.size,0,none⟩=some (.int .i64 (-1-(N:Int))):=hup.cell (by simp) (by simp;intro e;have:=hdm _ e.symm;omega);have m1:wr.cell? ⟨w.heap.size,1,none⟩=some (.slice none 0 0):=hup.cell (by simp) (by simp;intro e;have:=hdm _ e.symm;omega);by_cases hlt:k<n
  ·obtain⟨g,cap0,hv,-,hgl⟩:=hown.form (by omega);obtain⟨rfl,-,rfl⟩:p=some ⟨g,0,none⟩∧True∧cap=cap0:=by simpa using hv
   have hset:=tM hown hlt (.int .i64 (-1-(N:Int))) (.slice none 0 0);rw[rR hl.1 hlt]at hset
   obtain⟨cc,hcc⟩:∃c,wr.heap[g]?=some (.cells c 57 (0,0)):=by
    rcases hown.2 with⟨h1,_⟩|⟨g',cap2,cur2,hv,hb,hg,h1⟩
    ·cases h1
    simp only[Value.slice.injEq,Option.some.injEq,Addr.mk.injEq,and_true,true_and]at hv;obtain⟨rfl,rfl⟩:=hv;exact⟨_,hg⟩
   have hf:∀o,wr.frozen? ⟨g,o,none⟩=false:=frozen_of_heap hcc
   have hce:∀o,o<2→∃y,wr.cell? ⟨g,k*2+o,none⟩=some y:=fun o ho=>by
    have hlen:=hown.1;have hj:k*2+o<(marksF (-1-(N:Int)) k++xs.drop (k*2)).length:=by omega
    have:=hown.cells (g:=g) rfl (k*2+o) _ (Cr hj);rw[CS,CJ]at this
    exact⟨_,this⟩
   obtain⟨y0,c0⟩:=hce 0 (by omega);obtain⟨y1,c1⟩:=hce 1 (by omega);rw[DG]at c0
   have HSET:=hset;replace HSET:Hid _:=HSET;clear hset hce;go_wp2
   go_roundw
   case rel=>exact⟨k+1,by omega,by go_num,HSET.out,(hup.setCell (.inl (by simp[Cp])) _).setCell (.inl (by simp[Cp])) _⟩
   case measure=>simp[intOf];omega
  obtain rfl:k=n:=by omega
  have hd:xs.drop (k*2)=[]:=List.drop_eq_nil_of_le (by rw[hl.1];omega);rw[hd,Da]at hown
  clear hd;have r10:wr.cell? ⟨wb,12,none⟩=some (.slice po N capo):=hup.cell (by rw[World.cell?_alloc_past _ _ _ hwl];exact g10) (by simpa using fun e=>d4 e.symm);have r11:wr.cell? ⟨wb,13,none⟩=some kov:=hup.cell (by rw[World.cell?_alloc_past _ _ _ hwl];exact g11) (by simpa using fun e=>d4 e.symm);have hfz:∀o,wr.frozen? ⟨wb,o,none⟩=false:=fun o=>by
   rw[C6 (hup.block wb (by simp;omega) (by simpa using fun e=>d4 e.symm)),C6 (CF w _ wb hwl)];exact frozen_of_heap hwb o
  have hB1:some w.heap.size∉[(Value.slice p k cap).ownBlock]:=by simp;intro e;have:=hdm _ e.symm;omega
  have hB2:some wb∉[(Value.slice p k cap).ownBlock]:=by simpa using fun e=>d4 e.symm
  have up0:an [(Value.slice p k cap).ownBlock] w wr:=((an.refl _ w).alloc _).trans hup fun i hi=>.inl hi
  have hdo:∀i,(Value.slice po N capo).ownBlock=some i→some i∉[(Value.slice p k cap).ownBlock]:=fun i hi hm=>(d5 i (CK.1 hm).symm).1 hi
  have hdk:∀i,kov.ownBlock=some i→some i∉[(Value.slice p k cap).ownBlock]:=fun i hi hm=>(d5 i (CK.1 hm).symm).2 hi
  have hdk4:∀i,kov.ownBlock=some i→some i∉(Value.slice po N capo).ownBlock::[(Value.slice p k cap).ownBlock]:=fun i hi hm=>by
   rcases Co.1 hm with hm|hm
   ·exact d3 i hm.symm hi
   exact hdk i hi hm
  have hdkw:∀i,kov.ownBlock=some i→i≠wb:=fun i hi e=>d2 (by rw[hi,e])
  have hwS:some wb∉(Value.slice po N capo).ownBlock::[(Value.slice p k cap).ownBlock]:=fun hm=>by
   rcases Co.1 hm with hm|hm
   ·exact d1 hm.symm
   exact hB2 hm
  have hBo:∀i,(Value.slice po N capo).ownBlock=some i→i≠w.heap.size:=fun i hi=>by have:=(hos.lt i hi).2;omega
  have hwo:∀i,(Value.slice po N capo).ownBlock=some i→i≠wb:=fun i hi e=>d1 (by rw[hi,e])
  have kp0:xZ w [(Value.slice p k cap).ownBlock] w.heap.size wb (-1-(N:Int)) (.slice po N capo) kov wr:=⟨m0,m1,r10,r11,hfz 12,hfz 13,Cy wr _ m0,up0⟩;go_wp2_with (first
   |(at_builtin;refine wpList_append_lies _ rfl _ _ 75 rfl 0 3 i2 (.int .i64 0) 1 8 Tryz.underlying75 hi2 hx0 hx1 hx2 rfl (by decide) kov N ks (by rfl) ((ai (kp4.up.owns hko hdk4) hdkw _).alloc _) ⟨w4.heap.size,0,none⟩ 4 4 [.int .i64 (-1-(N:Int)),.int .i64 (-1-(N:Int)),.int .i64 (-1-(N:Int)),.int .i64 (-1-(N:Int))] rfl rfl (CH (by simpa using heap_alloc_new (w4.setCell ⟨wb,12,none⟩ (.slice (some ⟨g4,0,none⟩) (N+4) cap4)) _)) tY (by decide) (by unfold maxLen;omega) (by omega) (by omega) (w4.heap.size+1) (by simp) ?_;intro g5 cap5 w5 hown5 hgr5 hat5 hlt5;have hw5:=qZ hwb hwl kp4.up hwS hgr5 hdkw;have e11:=(cell_of_heap hw5 13).trans (yU h11);have f11:=frozen_of_heap hw5 13)
   |(at_builtin;refine wpList_append_lies _ rfl _ _ 78 rfl 0 64 i1 (.slice none 0 0) 1 24 Tryz.underlying78 hi1 hy0 hy1 hy2 rfl (by decide) (.slice po N capo) N us (by rfl) ((kp3.up.owns hos hdo).alloc _) ⟨w3.heap.size,0,none⟩ 4 4 [.slice p k cap,.slice (some ⟨g1,0,none⟩) (k+1) cap1,.slice (some ⟨g2,0,none⟩) (k+2) cap2,.slice (some ⟨g3,0,none⟩) (k+3) cap3] rfl rfl (CH (heap_alloc_new w3 _)) ui (by decide) (by unfold maxLen;omega) (by omega) (by omega) (w3.heap.size+1) (by simp) ?_;intro g4 cap4 w4 hown4 hgr4 hat4 hlt4;have kp4:=kp3.AY hgr4 hBo hwo;obtain⟨_,_,_,_,_,_,_,_⟩:=id kp4)
   |(at_builtin;refine br _ rfl _ _ 64 rfl 0 57 i0 (.agg #[.int .i64 0,.slice none 0 0]) 2 32 Tryz.underlying64 hi hz0 hz1 hz2 rfl (by decide) (.slice p k cap) k (marksF (-1-(N:Int)) k) (by rfl) (hownl2.alloc _) ⟨w2.heap.size,0,none⟩ 3 3 (marksF (-1-(N:Int)) 3) rfl rfl (CH (heap_alloc_new w2 _)) (jk _ _) (by decide) (by unfold maxLen;omega) (by omega) (by omega) (w2.heap.size+1) (by simp) ?_;intro g3 cap3 w3 hown3 hownl3 htw3 hlt3;have kp3:=kp2.step htw3.upd hB1 hB2 (fun i hi=>.inl hi);obtain⟨_,_,_,_,_,_,_,_⟩:=id kp3)
   |(at_builtin;refine br _ rfl _ _ 64 rfl 0 57 i0 (.agg #[.int .i64 0,.slice none 0 0]) 2 32 Tryz.underlying64 hi hz0 hz1 hz2 rfl (by decide) (.slice p k cap) k (marksF (-1-(N:Int)) k) (by rfl) (hownl1.alloc _) ⟨w1.heap.size,0,none⟩ 2 2 (marksF (-1-(N:Int)) 2) rfl rfl (CH (heap_alloc_new w1 _)) (jk _ _) (by decide) (by unfold maxLen;omega) (by omega) (by omega) (w1.heap.size+1) (by simp) ?_;intro g2 cap2 w2 hown2 hownl2 htw2 hlt2;have kp2:=kp1.step htw2.upd hB1 hB2 (fun i hi=>.inl hi);obtain⟨_,_,_,_,_,_,_,_⟩:=id kp2)
   |(at_builtin;refine br _ rfl _ _ 64 rfl 0 57 i0 (.agg #[.int .i64 0,.slice none 0 0]) 2 32 Tryz.underlying64 hi hz0 hz1 hz2 rfl (by decide) (.slice p k cap) k (marksF (-1-(N:Int)) k) (by rfl) (hown.alloc _) ⟨wr.heap.size,0,none⟩ 1 1 (marksF (-1-(N:Int)) 1) rfl rfl (CH (heap_alloc_new wr _)) (jk _ _) (by decide) (by unfold maxLen;omega) (by omega) (by omega) (wr.heap.size+1) (by simp) ?_;intro g1 cap1 w1 hown1 hownl1 htw1 hlt1;have kp1:=kp0.step htw1.upd hB1 hB2 (fun i hi=>.inl hi);obtain⟨_,_,_,_,_,_,_,_⟩:=id kp1))
  go_end0
  have s1:=(kp0.up.size);have s3:=kp3.up.size;have s4:=kp4.up.size;have hwl3:wb<w3.heap.size:=by omega
  have upF:an [some wb,(Value.slice po N capo).ownBlock,kov.ownBlock] w3 (w5.setCell ⟨wb,13,none⟩ (.slice (some ⟨g5,0,none⟩) (N+4) cap5)):=((((((an.refl _ w3).alloc _).grown hgr4 (fun i hi=>.inl (by simp[hi]))).setCell (.inl (by simp)) _).alloc _).grown hgr5 (fun i hi=>.inl (by simp[hi]))).setCell (.inl (by simp)) _;have hg4:g4≠wb∧kov.ownBlock≠some g4:=by
   rcases hat4 with h|h
   ·exact⟨fun e=>d1 (by rw[h,e]),d3 _ h⟩
   exact⟨by omega,fun e=>by have:=(hko.lt _ e).2;omega⟩
  have hg5:g5≠wb:=by
   rcases hat5 with h|h
   ·exact fun e=>d2 (by rw[h,e])
   omega
  have hlb:∀b,(Value.slice p k cap).ownBlock=some b→some b∉[some wb,(Value.slice po N capo).ownBlock,kov.ownBlock]:=fun b hb hm=>by
   simp only[Co,Cq,or_false]at hm;rcases hm with hm|hm|hm
   ·exact d4 (by rw[hb,hm])
   ·exact(d5 b hb).1 hm.symm
   exact(d5 b hb).2 hm.symm
  have hnew:∀b,w.heap.size≤b→some b∉[some wb,(Value.slice po N capo).ownBlock,kov.ownBlock]:=fun b hb hm=>by
   simp only[Co,Cq,or_false]at hm;rcases hm with hm|hm|hm
   ·simp at hm;omega
   ·have:=(hos.lt b hm.symm).2;omega
   have:=(hko.lt b hm.symm).2;omega
  have hgb:∀g H,((Value.slice p k cap).ownBlock=some g∨g=H)→w.heap.size≤H→some g∉[some wb,(Value.slice po N capo).ownBlock,kov.ownBlock]:=fun g H h hH=>by
   rcases h with h|h
   ·exact hlb g h
   exact hnew g (by omega)
  have sr:w.heap.size≤wr.heap.size:=s1;have z1:w.heap.size≤w1.heap.size:=by have:=htw1.upd.size;simp at this;omega
  have z2:w.heap.size≤w2.heap.size:=by have:=htw2.upd.size;simp at this;omega
  rw[←jl]at hown1 hown2 hown3;have ml:aI w3 (.slice p k cap) k (-1-(N:Int)):=aI.Av hownl3;have mg:aI w3 (.slice (some ⟨g1,0,none⟩) (k+1) cap1) (k+1) (-1-(N:Int)):=((((aI.Av hown1).below ((Ck _ _).alloc (Cl _) _)).two htw2 (by omega) hown2).below ((Ck _ _).alloc (Cl _) _)).two htw3 (by omega) hown3;have mh:aI w3 (.slice (some ⟨g2,0,none⟩) (k+2) cap2) (k+2) (-1-(N:Int)):=((aI.Av hown2).below ((Ck _ _).alloc (Cl _) _)).two htw3 (by omega) hown3;have mj:aI w3 (.slice (some ⟨g3,0,none⟩) (k+3) cap3) (k+3) (-1-(N:Int)):=aI.Av hown3;have y1:w1.heap.size≤w2.heap.size:=by have:=htw2.upd.size;simp at this;omega
  have y2:w2.heap.size≤w3.heap.size:=by have:=htw3.upd.size;simp at this;omega
  have y3:w3.heap.size≤w4.heap.size:=by have:=hgr4.size;simp at this;omega
  have hxs:∀x∈[Value.slice p k cap,.slice (some ⟨g1,0,none⟩) (k+1) cap1,.slice (some ⟨g2,0,none⟩) (k+2) cap2,.slice (some ⟨g3,0,none⟩) (k+3) cap3],∀b,x.ownBlock=some b→(Value.slice p k cap).ownBlock=some b∨(w.heap.size≤b∧b<w3.heap.size):=by
   intro x hx b hb;simp only[Co,Cq,or_false]at hx;rcases hx with rfl|rfl|rfl|rfl
   ·exact .inl hb
   ·simp[Cp]at hb;subst hb;rcases htw1.at with h|h;exact .inl h;exact .inr (by omega)
   ·simp[Cp]at hb;subst hb;rcases htw2.at with h|h;exact .inl h;exact .inr (by omega)
   simp[Cp]at hb;subst hb;rcases htw3.at with h|h;exact .inl h;exact .inr (by omega)
  refine⟨rfl,.slice (some ⟨g4,0,none⟩) (N+4) cap4,.slice (some ⟨g5,0,none⟩) (N+4) cap5,.slice (some ⟨g1,0,none⟩) (k+1) cap1,.slice (some ⟨g2,0,none⟩) (k+2) cap2,.slice (some ⟨g3,0,none⟩) (k+3) cap3,?_,?_,?_,?_,?_,?_,?_,?_,?_,?_,?_,?_,?_,?_,?_⟩
  ·exact ae hw5 _
  ·refine ai (D5.kept ((ai hown4 ?_ _).alloc _) hgr5 ?_) ?_ _
   ·intro b hb e;simp[Cp]at hb;exact hg4.1 (by rw[hb,e])
   ·right;intro e;exact hg4.2 (by rw[←e];rfl)
   intro b hb e;simp[Cp]at hb;exact hg4.1 (by rw[hb,e])
  ·refine ai hown5 ?_ _;intro b hb e;simp[Cp]at hb;exact hg5 (by rw[hb,e])
  ·exact ml.upd upF hlb
  ·exact mg.upd upF (fun b hb=>by simp[Cp]at hb;subst hb;exact hgb _ _ htw1.at (by omega))
  ·exact mh.upd upF (fun b hb=>by simp[Cp]at hb;subst hb;exact hgb _ _ htw2.at (by omega))
  ·exact mj.upd upF (fun b hb=>by simp[Cp]at hb;subst hb;exact hgb _ _ htw3.at (by omega))
  ·refine(kp3.up.mono fun i hi=>?_).trans upF fun i hi=>.inl ?_
   ·simp only[CK]at hi;simp[hi]
   simp only[Co,Cq,or_false]at hi ⊢;rcases hi with hi|hi|hi <;> simp[hi]
  ·intro b hb;simp[Cp]at hb;subst hb;rcases hat4 with h|h;exact .inl h;exact .inr (by omega)
  ·intro b hb;simp[Cp]at hb;subst hb;rcases hat5 with h|h;exact .inl h;exact .inr (by omega)
  ·intro b hb;simp[Cp]at hb;subst hb;rcases htw1.at with h|h;exact .inl h;exact .inr (by omega)
  ·intro b hb;simp[Cp]at hb;subst hb;rcases htw2.at with h|h;exact .inl h;exact .inr (by omega)
  ·intro b hb;simp[Cp]at hb;subst hb;rcases htw3.at with h|h;exact .inl h;exact .inr (by omega)
  ·intro b hb;simp[Cp]at hb
   subst hb;refine⟨fun e=>?_,fun x hx e=>?_⟩
   ·simp[Cp]at e;subst e;rcases hat5 with h|h
    ·exact hg4.2 h
    omega
   have hxx:=hxs x hx _ e;rcases hat4 with h|h
   ·rcases hxx with h'|h'
    ·exact(d5 _ h').1 h
    have:=(hos.lt _ h).2;omega
   rcases hxx with h'|h'
   ·have:=(hl.lt _ h').2;omega
   omega
  intro b hb x hx e;simp[Cp]at hb
  subst hb;have hxx:=hxs x hx _ e;rcases hat5 with h|h
  ·rcases hxx with h'|h'
   ·exact(d5 _ h').2 h
   have:=(hko.lt _ h).2;omega
  rcases hxx with h'|h'
  ·have:=(hl.lt _ h').2;omega
  omega
def cK(k:Nat)(n:Nat):List Value:=CM n (.int .u8 (k:Int))
theorem mZ(k n:Nat):(cK k n).length=n*1:=by simp[cK]
theorem mc(k n m:Nat):cK k (n+m)=cK k n++cK k m:=by simp[cK,List.replicate_append_replicate]
theorem rU(k:Nat)(h:i<n):(cK k n)[i]?=some (.int .u8 (k:Int)):=by
 unfold cK;rw[List.getElem?_replicate,if_pos h]
def aJ(w:World)(u:Value)(m:Nat)(k:Nat):Prop:=∃p cap,u=.slice p m cap∧∀i,i<m→∃g,p=some ⟨g,0,none⟩∧w.cell? ⟨g,i,none⟩=some (.int .u8 (k:Int))
theorem aJ.below{k:Nat}(h:aJ w u m k)(hb:Below w.heap.size w w'):aJ w' u m k:=by
 obtain⟨p,cap,hv,hc⟩:=h;refine⟨p,cap,hv,fun i hi=>?_⟩;obtain⟨g,hg,c0⟩:=hc i hi;exact⟨g,hg,aa hb c0⟩
theorem aJ.Au{k:Nat}(h:w.ownsRow base e 1 (.slice (some ⟨g,0,none⟩) N cap) N (cK k N))(hM:M≤N):aJ w (.slice (some ⟨g,0,none⟩) M cap') M k:=by
 refine⟨_,_,rfl,fun i hi=>⟨g,rfl,?_⟩⟩;have m0:=rU k (show i<N by omega);have c:=h.cells (g:=g) rfl;have c0:=c _ _ m0;rw[CS,CJ]at c0
 exact c0
theorem aJ.Av{k:Nat}(h:w.ownsRow base e 1 v N (cK k N)):aJ w v N k:=by
 rcases id h.2 with⟨rfl,rfl⟩|⟨g,cap,cur,rfl,_⟩
 ·exact⟨_,_,rfl,fun i hi=>by omega⟩
 exact aJ.Au h (Cl _)
theorem aJ.two{k:Nat}(h:aJ w u M k)(ht:eR w w' l n g cap H)(hM:M≤n+m)(ho:w'.ownsRow base e 1 (.slice (some ⟨g,0,none⟩) (n+m) cap) (n+m) (cK k (n+m))):aJ w' u M k:=by
 rcases ht with⟨rfl,hg⟩|⟨_,hb⟩
 ·obtain⟨p,capu,rfl,hc⟩:=h;by_cases h0:M=0
  ·subst h0;exact⟨_,_,rfl,fun i hi=>by omega⟩
  obtain⟨gu,rfl,-⟩:=hc 0 (by omega);by_cases e:gu=g
  ·subst e;exact aJ.Au ho hM
  refine⟨_,_,rfl,fun i hi=>⟨gu,rfl,?_⟩⟩;obtain⟨g',hg',c0⟩:=hc i hi;obtain rfl:gu=g':=by simpa using hg'
  exact hg.cell c0 (by simpa using e)
 exact h.below hb
theorem aJ.upd{k:Nat}(h:aJ w u M k)(hu:an S w w')(hS:∀b,u.ownBlock=some b→some b∉S):aJ w' u M k:=by
 obtain⟨p,capu,rfl,hc⟩:=h;refine⟨_,_,rfl,fun i hi=>?_⟩;obtain⟨g,rfl,c0⟩:=hc i hi;exact⟨g,rfl,hu.cell c0 (hS g rfl)⟩
theorem rT{k:Nat}(hx:xs.length=n*1)(hi:i<n):((cK k i++xs.drop i).set i (.int .u8 (k:Int)))=cK k (i+1)++xs.drop (i+1):=by
 have hl:=mZ k i;have d:xs.drop i=xs[i]'(by omega)::xs.drop (i+1):=by rw[C9 (by omega)]
 rw[d,Dz _ _ (by omega)];simp only[hl,Nat.mul_one,Dt,Cs];rw[mc];simp[cK]
theorem lW(h:w.ownsRow base e 1 (.slice (some ⟨g,0,none⟩) n cap) n xs)(_hi:i<n)(x:Value):(w.setCell ⟨g,i,none⟩ x).ownsRow base e 1 (.slice (some ⟨g,0,none⟩) n cap) n (xs.set i x):=by
 rcases h.2 with⟨h1,_⟩|⟨g',cap2,cur2,hv,hb,hg,h1,h2,h3,h4⟩
 ·cases h1
 simp only[Value.slice.injEq,Option.some.injEq,Addr.mk.injEq,and_true,true_and]at hv;obtain⟨rfl,rfl⟩:=hv;refine⟨by simp[h.1],.inr ⟨g,cap,_,rfl,hb,ae hg x,h1,h2,by simp[h3],?_⟩⟩;simp only[Array.toList_setIfInBounds,List.take_set,h4]
theorem jm(k:Nat)(n:Nat):∀u∈cK k n,u.oneCell'=true:=fun u hu=>by
 rw[(List.mem_replicate.1 hu).2]
 rfl
structure ya(w:World)(S:List (Option Nat))(wb:Nat)(osv kov:Value)(W:World):Prop where
 c10:W.cell? ⟨wb,8,none⟩=some osv
 c11:W.cell? ⟨wb,9,none⟩=some kov
 f10:W.frozen? ⟨wb,8,none⟩=false
 f11:W.frozen? ⟨wb,9,none⟩=false
 up:an S w W
theorem ya.step(h:ya w S wb osv kov W)(hu:an T (W.alloc o) W')(hw:some wb∉T)(hST:∀i,some i∈T→some i∈S∨w.heap.size≤i):ya w S wb osv kov W':=by
 have hwl:wb<W.heap.size:=Cy W _ h.c10;have hl:∀b,b<W.heap.size→(W.alloc o).heap[b]?=W.heap[b]?:=fun b hb=>CF W o b hb
 have hc:∀b j v,some b∉T→W.cell? ⟨b,j,none⟩=some v→W'.cell? ⟨b,j,none⟩=some v:=fun b j v hS hv =>
  hu.cell ((CE (a:=⟨b,j,none⟩) (hl b (Cy W _ hv))).trans hv) hS
 have hf:∀j,W'.frozen? ⟨wb,j,none⟩=W.frozen? ⟨wb,j,none⟩:=fun j=>by
  rw[C6 (a:=⟨wb,j,none⟩) (hu.block wb (by simp;omega) hw),C6 (a:=⟨wb,j,none⟩) (hl wb hwl)]
 refine⟨hc _ _ _ hw h.c10,hc _ _ _ hw h.c11,(hf 8).trans h.f10,(hf 9).trans h.f11,(h.up.alloc o).trans hu hST⟩
theorem uj{e:Nat}:∀u∈[Value.slice p a b,.slice x c d,.slice y e f,.slice z g h],u.oneCell'=true:=by
 intro u hu;simp only[Co,Cq,or_false]at hu;rcases hu with rfl|rfl|rfl|rfl <;> rfl
theorem tZ{a:Int}:∀u∈[Value.int .i64 a,.int .i64 a,.int .i64 a,.int .i64 a],u.oneCell'=true:=by
 intro u hu;simp only[Co,Cq,or_false]at hu;rcases hu with rfl|rfl|rfl|rfl <;> rfl
theorem re{T:TypeId}(hwb:w.heap[wb]?=some (.cells C T (0,0)))(hwl:wb<w.heap.size)(hu:an S w w4)(hS:some wb∉S)(hg:((w4.setCell ⟨wb,8,none⟩ X).alloc o).grownBy w5 kov.ownBlock)(hk:∀i,kov.ownBlock=some i→i≠wb):w5.heap[wb]?=some (.cells (C.setIfInBounds 8 X) T (0,0)):=by
 have h4:w4.heap[wb]?=some (.cells C T (0,0)):=(hu.block wb hwl hS).trans hwb;have hs:wb<(w4.setCell ⟨wb,8,none⟩ X).heap.size:=by have:=hu.size;simp[Dy];omega
 rw[hg.block wb (by simp;simp at hs;omega) (fun e=>hk wb e.symm rfl),CF _ _ _ hs];exact ae h4 X
theorem zI(h:C[9]?=some kov):(C.setIfInBounds 8 X)[9]?=some kov:=by
 rw[CY (by decide)];exact h
theorem ya.AY(h:ya w S wb osv kov W)(hg:(W.alloc o).grownBy W' row)(hw:∀i,row=some i→i≠wb):ya w (row::S) wb osv kov W':=by
 have hu:an [row] (W.alloc o) W':=(an.refl _ _).grown hg fun k hk=>.inl (by simp[hk])
 have h':ya w (row::S) wb osv kov W:=⟨h.c10,h.c11,h.f10,h.f11,h.up.mono fun i hi=>CQ _ hi⟩;exact h'.step hu (fun e=>hw wb (CK.1 e).symm rfl) fun i hi=>.inl (by simp at hi;simp[hi])
theorem Tryz.AI:(Tryz.prog.info? 5).map (fun i=>(i.zero,i.size,i.bytes))=some (some (.int .u8 0),1,1):=by kernel_rfl
theorem Tryz.Bg:(Tryz.prog.info? 55).map (fun i=>(i.zero,i.size,i.bytes))=some (some (.slice none 0 0),1,24):=by kernel_rfl
theorem Tryz.Be:(Tryz.prog.info? 3).map (fun i=>(i.zero,i.size,i.bytes))=some (some (.int .i64 0),1,8):=by kernel_rfl
theorem yX(wb:Nat)(C:Array Value)(T:TypeId)(osv kov:Value)(N:Nat)(us ks:List Value)(p:Option Addr)(n cap:Nat)(xs:List Value)(w:World)(hwb:w.heap[wb]?=some (.cells C T (0,0)))(hC:C.size=14)(h10:C[8]?=some osv)(h11:C[9]?=some kov)(hos:w.ownsRow 0 55 1 osv N us)(hko:w.ownsRow 0 3 1 kov N ks)(hl:w.ownsRow 0 5 1 (.slice p n cap) n xs)(d1:osv.ownBlock≠some wb)(d2:kov.ownBlock≠some wb)(d3:∀k,osv.ownBlock=some k→kov.ownBlock≠some k)(d4:(Value.slice p n cap).ownBlock≠some wb)(d5:∀k,(Value.slice p n cap).ownBlock=some k→osv.ownBlock≠some k∧kov.ownBlock≠some k)(hN:N≤100000000000)(hn:n≤100000000000)(mk:Nat)(hmk:mk=(N / 4*37+1) % 256):Calls Tryz.prog 68 #[.pointer (some ⟨wb,8,none⟩),.slice p n cap] w fun e w'=>e=.returned (.tuple #[])∧∃osv' kov' g h j,w'.heap[wb]?=some (.cells ((C.setIfInBounds 8 osv').setIfInBounds 9 kov') T (0,0))∧w'.ownsRow 0 55 1 osv' (N+4) (us++[.slice p n cap,g,h,j])∧w'.ownsRow 0 3 1 kov' (N+4) (ks++[.int .i64 (mk:Int),.int .i64 (mk:Int),.int .i64 (mk:Int),.int .i64 (mk:Int)])∧aJ w' (.slice p n cap) n mk∧aJ w' g (n+1) mk∧aJ w' h (n+2) mk∧aJ w' j (n+3) mk∧an [some wb,osv.ownBlock,kov.ownBlock,(Value.slice p n cap).ownBlock] w w'∧(∀b,osv'.ownBlock=some b→osv.ownBlock=some b∨w.heap.size≤b)∧(∀b,kov'.ownBlock=some b→kov.ownBlock=some b∨w.heap.size≤b)∧(∀b,g.ownBlock=some b→(Value.slice p n cap).ownBlock=some b∨w.heap.size≤b)∧(∀b,h.ownBlock=some b→(Value.slice p n cap).ownBlock=some b∨w.heap.size≤b)∧(∀b,j.ownBlock=some b→(Value.slice p n cap).ownBlock=some b∨w.heap.size≤b)∧(∀b,osv'.ownBlock=some b→kov'.ownBlock≠some b∧∀x∈[Value.slice p n cap,g,h,j],x.ownBlock≠some b)∧(∀b,kov'.ownBlock=some b→∀x∈[Value.slice p n cap,g,h,j],x.ownBlock≠some b):=by
 obtain⟨i0,hi,hz0,hz1,hz2⟩:=info_parts Tryz.AI;obtain⟨i1,hi1,hy0,hy1,hy2⟩:=info_parts Tryz.Bg;obtain⟨i2,hi2,hx0,hx1,hx2⟩:=info_parts Tryz.Be;have g10:w.cell? ⟨wb,8,none⟩=some osv:=by rw[cell_of_heap hwb,h10]
 have g11:w.cell? ⟨wb,9,none⟩=some kov:=by rw[cell_of_heap hwb,h11]
 have hwl:=Cy w _ g10;obtain⟨po,capo,hpo⟩:∃po capo,osv=.slice po N capo:=by
  rcases hos.2 with⟨rfl,rfl⟩|⟨g,cap',_,rfl,_⟩
  ·exact⟨_,_,rfl⟩
  exact⟨_,_,rfl⟩
 subst hpo;have hdv:(N:Int).tdiv 4=((N / 4:Nat):Int):=by rw[Int.tdiv_eq_ediv_of_nonneg (by omega)];omega
 have hmk2:(((N / 4:Nat):Int)*37+1) % 256=(mk:Int):=by omega
 have hmk3:(mk:Int) % 256=(mk:Int):=by omega
 have hmk4:mk<256:=by omega
 have hN4:N / 4≤100000000000:=by omega
 clear hmk;generalize N / 4=N4 at *;go_enter Tryz.func68,Tryz.ntmps68
 go_wp2
 go_loopw [6] (fun i wr=>∃k:Nat,k≤n∧i=.int .i64 k∧wr.ownsRow 0 5 1 (.slice p n cap) n (cK mk k++xs.drop k)∧an [(Value.slice p n cap).ownBlock] w wr) (fun i _=>n-(intOf i).toNat)
 case atStart=>exact⟨0,CB _,rfl,by simpa[cK] using hl,an.refl _ _⟩
 case round =>
  obtain⟨k,hk,rfl,hown,hup⟩:=hrel;have hszr:w.heap.size≤wr.heap.size:=hup.size;have hdm:∀g,(Value.slice p n cap).ownBlock=some g→g<w.heap.size:=fun g hg=>(hl.lt g hg).2
  by_cases hlt:k<n
  ·obtain⟨g,cap0,hv,-,hgl⟩:=hown.form (by omega);obtain⟨rfl,-,rfl⟩:p=some ⟨g,0,none⟩∧True∧cap=cap0:=by simpa using hv
   have hset:=lW hown hlt (.int .u8 (mk:Int));rw[rT hl.1 hlt]at hset
   obtain⟨cc,hcc⟩:∃c,wr.heap[g]?=some (.cells c 5 (0,0)):=by
    rcases hown.2 with⟨h1,_⟩|⟨g',cap2,cur2,hv,hb,hg,h1⟩
    ·cases h1
    simp only[Value.slice.injEq,Option.some.injEq,Addr.mk.injEq,and_true,true_and]at hv;obtain⟨rfl,rfl⟩:=hv;exact⟨_,hg⟩
   have hf:∀o,wr.frozen? ⟨g,o,none⟩=false:=frozen_of_heap hcc
   obtain⟨y0,c0⟩:∃y,wr.cell? ⟨g,k,none⟩=some y:=by
    have hlen:=hown.1;have hj:k<(cK mk k++xs.drop k).length:=by omega
    have:=hown.cells (g:=g) rfl k _ (Cr hj);rw[CS,CJ]at this
    exact⟨_,this⟩
   have HSET:=hset;replace HSET:Hid _:=HSET;clear hset;go_wp2
   go_roundw
   case rel=>exact⟨k+1,by omega,by go_num,HSET.out,hup.setCell (.inl (by simp[Cp])) _⟩
   case measure=>simp[intOf];omega
  obtain rfl:k=n:=by omega
  have hd:xs.drop k=[]:=List.drop_eq_nil_of_le (by rw[hl.1];omega);rw[hd,Da]at hown
  clear hd;have r10:wr.cell? ⟨wb,8,none⟩=some (.slice po N capo):=hup.cell g10 (by simpa using fun e=>d4 e.symm);have r11:wr.cell? ⟨wb,9,none⟩=some kov:=hup.cell g11 (by simpa using fun e=>d4 e.symm);have hfz:∀o,wr.frozen? ⟨wb,o,none⟩=false:=fun o=>by
   rw[C6 (hup.block wb hwl (by simpa using fun e=>d4 e.symm))];exact frozen_of_heap hwb o
  have hB2:some wb∉[(Value.slice p k cap).ownBlock]:=by simpa using fun e=>d4 e.symm
  have up0:an [(Value.slice p k cap).ownBlock] w wr:=hup;have hdo:∀i,(Value.slice po N capo).ownBlock=some i→some i∉[(Value.slice p k cap).ownBlock]:=fun i hi hm=>(d5 i (CK.1 hm).symm).1 hi
  have hdk:∀i,kov.ownBlock=some i→some i∉[(Value.slice p k cap).ownBlock]:=fun i hi hm=>(d5 i (CK.1 hm).symm).2 hi
  have hdk4:∀i,kov.ownBlock=some i→some i∉(Value.slice po N capo).ownBlock::[(Value.slice p k cap).ownBlock]:=fun i hi hm=>by
   rcases Co.1 hm with hm|hm
   ·exact d3 i hm.symm hi
   exact hdk i hi hm
  have hdkw:∀i,kov.ownBlock=some i→i≠wb:=fun i hi e=>d2 (by rw[hi,e])
  have hwS:some wb∉(Value.slice po N capo).ownBlock::[(Value.slice p k cap).ownBlock]:=fun hm=>by
   rcases Co.1 hm with hm|hm
   ·exact d1 hm.symm
   exact hB2 hm
  have hwo:∀i,(Value.slice po N capo).ownBlock=some i→i≠wb:=fun i hi e=>d1 (by rw[hi,e])
  have kp0:ya w [(Value.slice p k cap).ownBlock] wb (.slice po N capo) kov wr:=⟨r10,r11,hfz 8,hfz 9,up0⟩;go_wp2_with (first
   |(at_builtin;refine wpList_append_lies _ rfl _ _ 75 rfl 0 3 i2 (.int .i64 0) 1 8 Tryz.underlying75 hi2 hx0 hx1 hx2 rfl (by decide) kov N ks (by rfl) ((ai (kp4.up.owns hko hdk4) hdkw _).alloc _) ⟨w4.heap.size,0,none⟩ 4 4 [.int .i64 (mk:Int),.int .i64 (mk:Int),.int .i64 (mk:Int),.int .i64 (mk:Int)] rfl rfl (CH (by simpa using heap_alloc_new (w4.setCell ⟨wb,8,none⟩ (.slice (some ⟨g4,0,none⟩) (N+4) cap4)) _)) tZ (by decide) (by unfold maxLen;omega) (by omega) (by omega) (w4.heap.size+1) (by simp) ?_;intro g5 cap5 w5 hown5 hgr5 hat5 hlt5;have hw5:=re hwb hwl kp4.up hwS hgr5 hdkw;have e11:=(cell_of_heap hw5 9).trans (zI h11);have f11:=frozen_of_heap hw5 9)
   |(at_builtin;refine wpList_append_lies _ rfl _ _ 61 rfl 0 55 i1 (.slice none 0 0) 1 24 Tryz.underlying61 hi1 hy0 hy1 hy2 rfl (by decide) (.slice po N capo) N us (by rfl) ((kp3.up.owns hos hdo).alloc _) ⟨w3.heap.size,0,none⟩ 4 4 [.slice p k cap,.slice (some ⟨g1,0,none⟩) (k+1) cap1,.slice (some ⟨g2,0,none⟩) (k+2) cap2,.slice (some ⟨g3,0,none⟩) (k+3) cap3] rfl rfl (CH (heap_alloc_new w3 _)) uj (by decide) (by unfold maxLen;omega) (by omega) (by omega) (w3.heap.size+1) (by simp) ?_;intro g4 cap4 w4 hown4 hgr4 hat4 hlt4;have kp4:=kp3.AY hgr4 hwo;obtain⟨_,_,_,_,_⟩:=id kp4)
   |(at_builtin;refine br _ rfl _ _ 55 rfl 0 5 i0 (.int .u8 0) 1 1 Tryz.underlying55 hi hz0 hz1 hz2 rfl (by decide) (.slice p k cap) k (cK mk k) (by rfl) (hownl2.alloc _) ⟨w2.heap.size,0,none⟩ 3 3 (cK mk 3) rfl rfl (CH (heap_alloc_new w2 _)) (jm _ _) (by decide) (by unfold maxLen;omega) (by omega) (by omega) (w2.heap.size+1) (by simp) ?_;intro g3 cap3 w3 hown3 hownl3 htw3 hlt3;have kp3:=kp2.step htw3.upd hB2 (fun i hi=>.inl hi);obtain⟨_,_,_,_,_⟩:=id kp3)
   |(at_builtin;refine br _ rfl _ _ 55 rfl 0 5 i0 (.int .u8 0) 1 1 Tryz.underlying55 hi hz0 hz1 hz2 rfl (by decide) (.slice p k cap) k (cK mk k) (by rfl) (hownl1.alloc _) ⟨w1.heap.size,0,none⟩ 2 2 (cK mk 2) rfl rfl (CH (heap_alloc_new w1 _)) (jm _ _) (by decide) (by unfold maxLen;omega) (by omega) (by omega) (w1.heap.size+1) (by simp) ?_;intro g2 cap2 w2 hown2 hownl2 htw2 hlt2;have kp2:=kp1.step htw2.upd hB2 (fun i hi=>.inl hi);obtain⟨_,_,_,_,_⟩:=id kp2)
   |(at_builtin;refine br _ rfl _ _ 55 rfl 0 5 i0 (.int .u8 0) 1 1 Tryz.underlying55 hi hz0 hz1 hz2 rfl (by decide) (.slice p k cap) k (cK mk k) (by rfl) (hown.alloc _) ⟨wr.heap.size,0,none⟩ 1 1 (cK mk 1) rfl rfl (CH (heap_alloc_new wr _)) (jm _ _) (by decide) (by unfold maxLen;omega) (by omega) (by omega) (wr.heap.size+1) (by simp) ?_;intro g1 cap1 w1 hown1 hownl1 htw1 hlt1;have kp1:=kp0.step htw1.upd hB2 (fun i hi=>.inl hi);obtain⟨_,_,_,_,_⟩:=id kp1))
  go_end0
  have s1:=(kp0.up.size);have s3:=kp3.up.size;have s4:=kp4.up.size;have hwl3:wb<w3.heap.size:=by omega
  have upF:an [some wb,(Value.slice po N capo).ownBlock,kov.ownBlock] w3 (w5.setCell ⟨wb,9,none⟩ (.slice (some ⟨g5,0,none⟩) (N+4) cap5)):=((((((an.refl _ w3).alloc _).grown hgr4 (fun i hi=>.inl (by simp[hi]))).setCell (.inl (by simp)) _).alloc _).grown hgr5 (fun i hi=>.inl (by simp[hi]))).setCell (.inl (by simp)) _;have hg4:g4≠wb∧kov.ownBlock≠some g4:=by
   rcases hat4 with h|h
   ·exact⟨fun e=>d1 (by rw[h,e]),d3 _ h⟩
   exact⟨by omega,fun e=>by have:=(hko.lt _ e).2;omega⟩
  have hg5:g5≠wb:=by
   rcases hat5 with h|h
   ·exact fun e=>d2 (by rw[h,e])
   omega
  have hlb:∀b,(Value.slice p k cap).ownBlock=some b→some b∉[some wb,(Value.slice po N capo).ownBlock,kov.ownBlock]:=fun b hb hm=>by
   simp only[Co,Cq,or_false]at hm;rcases hm with hm|hm|hm
   ·exact d4 (by rw[hb,hm])
   ·exact(d5 b hb).1 hm.symm
   exact(d5 b hb).2 hm.symm
  have hnew:∀b,w.heap.size≤b→some b∉[some wb,(Value.slice po N capo).ownBlock,kov.ownBlock]:=fun b hb hm=>by
   simp only[Co,Cq,or_false]at hm;rcases hm with hm|hm|hm
   ·simp at hm;omega
   ·have:=(hos.lt b hm.symm).2;omega
   have:=(hko.lt b hm.symm).2;omega
  have hgb:∀g H,((Value.slice p k cap).ownBlock=some g∨g=H)→w.heap.size≤H→some g∉[some wb,(Value.slice po N capo).ownBlock,kov.ownBlock]:=fun g H h hH=>by
   rcases h with h|h
   ·exact hlb g h
   exact hnew g (by omega)
  have sr:w.heap.size≤wr.heap.size:=s1;have z1:w.heap.size≤w1.heap.size:=by have:=htw1.upd.size;simp at this;omega
  have z2:w.heap.size≤w2.heap.size:=by have:=htw2.upd.size;simp at this;omega
  rw[←mc]at hown1 hown2 hown3;have ml:aJ w3 (.slice p k cap) k mk:=aJ.Av hownl3;have mg:aJ w3 (.slice (some ⟨g1,0,none⟩) (k+1) cap1) (k+1) mk:=((((aJ.Av hown1).below ((Ck _ _).alloc (Cl _) _)).two htw2 (by omega) hown2).below ((Ck _ _).alloc (Cl _) _)).two htw3 (by omega) hown3;have mh:aJ w3 (.slice (some ⟨g2,0,none⟩) (k+2) cap2) (k+2) mk:=((aJ.Av hown2).below ((Ck _ _).alloc (Cl _) _)).two htw3 (by omega) hown3;have mj:aJ w3 (.slice (some ⟨g3,0,none⟩) (k+3) cap3) (k+3) mk:=aJ.Av hown3;have y1:w1.heap.size≤w2.heap.size:=by have:=htw2.upd.size;simp at this;omega
  have y2:w2.heap.size≤w3.heap.size:=by have:=htw3.upd.size;simp at this;omega
  have y3:w3.heap.size≤w4.heap.size:=by have:=hgr4.size;simp at this;omega
  have hxs:∀x∈[Value.slice p k cap,.slice (some ⟨g1,0,none⟩) (k+1) cap1,.slice (some ⟨g2,0,none⟩) (k+2) cap2,.slice (some ⟨g3,0,none⟩) (k+3) cap3],∀b,x.ownBlock=some b→(Value.slice p k cap).ownBlock=some b∨(w.heap.size≤b∧b<w3.heap.size):=by
   intro x hx b hb;simp only[Co,Cq,or_false]at hx;rcases hx with rfl|rfl|rfl|rfl
   ·exact .inl hb
   ·simp[Cp]at hb;subst hb;rcases htw1.at with h|h;exact .inl h;exact .inr (by omega)
   ·simp[Cp]at hb;subst hb;rcases htw2.at with h|h;exact .inl h;exact .inr (by omega)
   simp[Cp]at hb;subst hb;rcases htw3.at with h|h;exact .inl h;exact .inr (by omega)
  refine⟨rfl,.slice (some ⟨g4,0,none⟩) (N+4) cap4,.slice (some ⟨g5,0,none⟩) (N+4) cap5,.slice (some ⟨g1,0,none⟩) (k+1) cap1,.slice (some ⟨g2,0,none⟩) (k+2) cap2,.slice (some ⟨g3,0,none⟩) (k+3) cap3,?_,?_,?_,?_,?_,?_,?_,?_,?_,?_,?_,?_,?_,?_,?_⟩
  ·exact ae hw5 _
  ·refine ai (D5.kept ((ai hown4 ?_ _).alloc _) hgr5 ?_) ?_ _
   ·intro b hb e;simp[Cp]at hb;exact hg4.1 (by rw[hb,e])
   ·right;intro e;exact hg4.2 (by rw[←e];rfl)
   intro b hb e;simp[Cp]at hb;exact hg4.1 (by rw[hb,e])
  ·refine ai hown5 ?_ _;intro b hb e;simp[Cp]at hb;exact hg5 (by rw[hb,e])
  ·exact ml.upd upF hlb
  ·exact mg.upd upF (fun b hb=>by simp[Cp]at hb;subst hb;exact hgb _ _ htw1.at (by omega))
  ·exact mh.upd upF (fun b hb=>by simp[Cp]at hb;subst hb;exact hgb _ _ htw2.at (by omega))
  ·exact mj.upd upF (fun b hb=>by simp[Cp]at hb;subst hb;exact hgb _ _ htw3.at (by omega))
  ·refine(kp3.up.mono fun i hi=>?_).trans upF fun i hi=>.inl ?_
   ·simp only[CK]at hi;simp[hi]
   simp only[Co,Cq,or_false]at hi ⊢;rcases hi with hi|hi|hi <;> simp[hi]
  ·intro b hb;simp[Cp]at hb;subst hb;rcases hat4 with h|h;exact .inl h;exact .inr (by omega)
  ·intro b hb;simp[Cp]at hb;subst hb;rcases hat5 with h|h;exact .inl h;exact .inr (by omega)
  ·intro b hb;simp[Cp]at hb;subst hb;rcases htw1.at with h|h;exact .inl h;exact .inr (by omega)
  ·intro b hb;simp[Cp]at hb;subst hb;rcases htw2.at with h|h;exact .inl h;exact .inr (by omega)
  ·intro b hb;simp[Cp]at hb;subst hb;rcases htw3.at with h|h;exact .inl h;exact .inr (by omega)
  ·intro b hb;simp[Cp]at hb
   subst hb;refine⟨fun e=>?_,fun x hx e=>?_⟩
   ·simp[Cp]at e;subst e;rcases hat5 with h|h
    ·exact hg4.2 h
    omega
   have hxx:=hxs x hx _ e;rcases hat4 with h|h
   ·rcases hxx with h'|h'
    ·exact(d5 _ h').1 h
    have:=(hos.lt _ h).2;omega
   rcases hxx with h'|h'
   ·have:=(hl.lt _ h').2;omega
   omega
  intro b hb x hx e;simp[Cp]at hb
  subst hb;have hxx:=hxs x hx _ e;rcases hat5 with h|h
  ·rcases hxx with h'|h'
   ·exact(d5 _ h').2 h
   have:=(hko.lt _ h).2;omega
  rcases hxx with h'|h'
  ·have:=(hl.lt _ h').2;omega
  omega
end
section
open Go.RowKit
def uM(w:World)(v:Value)(bb:List (Nat×Nat)):Prop:=∃p cap,v=.slice p bb.length cap∧∀(i:Nat) (e:Nat×Nat),bb[i]?=some e→∃g u,p=some ⟨g,0,none⟩∧w.cell? ⟨g,i,none⟩=some u∧aJ w u e.1 e.2
def uK(w:World)(v:Value)(bb:List (Nat×Nat)):Prop:=∃p cap,v=.slice p bb.length cap∧∀(i:Nat) (e:Nat×Nat),bb[i]?=some e→∃g,p=some ⟨g,0,none⟩∧w.cell? ⟨g,i,none⟩=some (.int .i64 (e.2:Int))
def uL(w:World)(v:Value)(bk:List (Nat×Int)):Prop:=∃p cap,v=.slice p bk.length cap∧∀(i:Nat) (e:Nat×Int),bk[i]?=some e→∃g u,p=some ⟨g,0,none⟩∧w.cell? ⟨g,i,none⟩=some u∧aI w u e.1 e.2
theorem uM.below{w w':World}{v:Value}{bb:List (Nat×Nat)}(h:uM w v bb)(hb:Below w.heap.size w w'):uM w' v bb:=by
 obtain⟨p,cap,hv,hc⟩:=h;refine⟨p,cap,hv,fun i x hx=>?_⟩;obtain⟨g,u,hg,hcell,hn⟩:=hc i x hx;exact⟨g,u,hg,aa hb hcell,hn.below hb⟩
theorem uK.below{w w':World}{v:Value}{bb:List (Nat×Nat)}(h:uK w v bb)(hb:Below w.heap.size w w'):uK w' v bb:=by
 obtain⟨p,cap,hv,hc⟩:=h;refine⟨p,cap,hv,fun i x hx=>?_⟩;obtain⟨g,hg,hcell⟩:=hc i x hx;exact⟨g,hg,aa hb hcell⟩
theorem uL.below{w w':World}{v:Value}{bk:List (Nat×Int)}(h:uL w v bk)(hb:Below w.heap.size w w'):uL w' v bk:=by
 obtain⟨p,cap,hv,hc⟩:=h;refine⟨p,cap,hv,fun i x hx=>?_⟩;obtain⟨g,u,hg,hcell,hn⟩:=hc i x hx;exact⟨g,u,hg,aa hb hcell,hn.below hb⟩
attribute [local go_sem ↓] Go.wp_at_zero Go.wp_at_succ
theorem zx(wb:Nat)(bsv kbv osv kov fsv kfv:Value)(bb:List (Nat×Nat))(bk bf:List (Nat×Int))(w:World)(h8:w.cell? ⟨wb,8,none⟩=some bsv)(h9:w.cell? ⟨wb,9,none⟩=some kbv)(h10:w.cell? ⟨wb,10,none⟩=some osv)(h11:w.cell? ⟨wb,11,none⟩=some kov)(h12:w.cell? ⟨wb,12,none⟩=some fsv)(h13:w.cell? ⟨wb,13,none⟩=some kfv)(hB:uM w bsv bb)(hBK:uK w kbv bb)(hO:uJ w osv bk)(hK:pJ w kov bk)(hF:uL w fsv bf)(hFK:pJ w kfv bf)(hbl:bb.length≤maxLen)(hbm:∀e∈bb,e.1≤maxLen∧e.2<256)(hl:bk.length≤maxLen)(hm:∀e∈bk,e.1≤maxLen)(hfl:bf.length≤maxLen)(hfm:∀e∈bf,e.1≤maxLen):Calls Tryz.prog 34 #[.pointer (some ⟨wb,8,none⟩)] w fun e w'=>e=.returned (.bool true)∧Below w.heap.size w w':=by
 obtain⟨p,cap,hp,-⟩:=id hO;obtain⟨q,capq,hq,-⟩:=id hK;obtain⟨pB,capB,hpB,-⟩:=id hB;obtain⟨qB,capqB,hqB,-⟩:=id hBK;obtain⟨pF,capF,hpF,-⟩:=id hF;obtain⟨qF,capqF,hqF,-⟩:=id hFK;subst hp hq hpB hqB hpF hqF;have hwb:=Cy w _ h8;unfold maxLen at hl hm hbl hbm hfl hfm;have HB:Hid (uM w (.slice pB bb.length capB) bb∧uK w (.slice qB bb.length capqB) bb):=⟨hB,hBK⟩;have HO:Hid (uJ w (.slice p bk.length cap) bk∧pJ w (.slice q bk.length capq) bk):=⟨hO,hK⟩;have HF:Hid (uL w (.slice pF bf.length capF) bf∧pJ w (.slice qF bf.length capqF) bf):=⟨hF,hFK⟩;clear hB hBK hO hK hF hFK;go_enter Tryz.func34,Tryz.ntmps34
 go_wp2
 go_loopw [3] (fun i wr=>∃k:Nat,k≤bb.length∧i=.int .i64 k∧Below w.heap.size w wr) (fun i _=>bb.length-(intOf i).toNat)
 case atStart=>exact⟨0,CB _,rfl,Ck _ _⟩
 case round =>
  obtain⟨k,hk,rfl,hbr⟩:=hrel;obtain⟨wa,hwa⟩:∃x,x=wr:=⟨_,rfl⟩
  subst hwa;have g8:=aa hbr h8;have g9:=aa hbr h9;have g10:=aa hbr h10;by_cases hlt:k<bb.length
  ·obtain⟨p',cap',hp',hc'⟩:=HB.out.1.below hbr;obtain⟨q',capq',hq',hcq'⟩:=HB.out.2.below hbr;obtain⟨g,u,hg,cu,hu⟩:=hc' k bb[k] (Cr hlt);obtain⟨gq,hgq,cq⟩:=hcq' k bb[k] (Cr hlt);obtain⟨rfl,-,rfl⟩:pB=p'∧True∧capB=cap':=by simpa using hp'
   obtain⟨rfl,-,rfl⟩:qB=q'∧True∧capqB=capq':=by simpa using hq'
   subst hg hgq;have hmk:=hbm _ (CN hlt);generalize bb[k]=E at *;obtain⟨m,mk⟩:=E;simp only at cq hu hmk;clear hp' hq' hc' hcq';have k0:(0:Int)≤(k:Int):=by omega
   have k1:(k:Int)<(bb.length:Int):=by omega
   obtain⟨pu,capu,rfl,hcu⟩:=hu;have e1:(mk:Int) % 256=mk:=by omega
   go_wp2
   go_loopw [4] (fun i wr2=>∃j n:Nat,j≤m∧i=.int .i64 j∧wr2=wa.drewN n) (fun i _=>m-(intOf i).toNat)
   case atStart=>exact⟨0,0,CB _,rfl,rfl⟩
   case round =>
    obtain⟨j,nd,hj,rfl,rfl⟩:=hrel;by_cases hjl:j<m
    ·obtain⟨gu,rfl,c0⟩:=hcu j hjl;have j0:(0:Int)≤(j:Int):=by omega
     have j1:(j:Int)<(m:Int):=by omega
     clear hcu;go_wp2
     go_quiet ((fail))
     go_wp2
     go_roundw
     case rel=>exact⟨j+1,_,by omega,by go_num,rfl⟩
     case measure=>simp[intOf];omega
    clear hcu;go_wp2
    go_roundw
    case rel=>exact⟨k+1,by omega,by go_num,below_drewN hbr _⟩
    case measure=>simp[intOf];omega
  have hki:¬ (k:Int)<(bb.length:Int):=by omega
  clear hlt hk;go_wp2
  clear hki g8 g9;go_loopw [5] (fun i wr=>∃k:Nat,k≤bk.length∧i=.int .i64 k∧Below w.heap.size w wr) (fun i _=>bk.length-(intOf i).toNat)
  case atStart=>exact⟨0,CB _,rfl,hbr⟩
  case round =>
   clear hbr g10;obtain⟨k,hk,rfl,hbr⟩:=hrel;obtain⟨wa,hwa⟩:∃x,x=wr:=⟨_,rfl⟩
   subst hwa;have g10:=aa hbr h10;have g11:=aa hbr h11;have g12:=aa hbr h12;have hwl:=hbr.size;by_cases hlt:k<bk.length
   ·obtain⟨p',cap',hp',hc'⟩:=HO.out.1.below hbr;obtain⟨q',capq',hq',hcq'⟩:=HO.out.2.below hbr;obtain⟨g,u,hg,cu,hu⟩:=hc' k bk[k] (Cr hlt);obtain⟨gq,hgq,cq⟩:=hcq' k bk[k] (Cr hlt);obtain⟨rfl,-,rfl⟩:p=p'∧True∧cap=cap':=by simpa using hp'
    obtain⟨rfl,-,rfl⟩:q=q'∧True∧capq=capq':=by simpa using hq'
    subst hg hgq;have hmk:=hm _ (CN hlt);generalize bk[k]=E at *;obtain⟨m,mk⟩:=E;simp only at cq hu hmk;clear hp' hq' hc' hcq';have k0:(0:Int)≤(k:Int):=by omega
    have k1:(k:Int)<(bk.length:Int):=by omega
    have n11:=World.new_ne wa _ g11;have nq:=World.new_ne wa _ cq;go_wp2
    go_region_held3 (fun w'=>w'.cell? ⟨wb,11,none⟩=some (.slice (some ⟨gq,0,none⟩) bk.length capq)∧w'.cell? ⟨gq,k,none⟩=some (.int .i64 mk)) (go_keep) (fail)
    obtain⟨pu,capu,rfl,hcu⟩:=hu;go_wp2
    go_loopw [7] (fun i wr2=>∃j n:Nat,j≤m∧i=.int .i64 j∧wr2=(wa.alloc (.cells #[.int .i64 mk,.int .i64 mk,.string ⟨#[109,105,110,101]⟩] 68)).drewN n) (fun i _=>m-(intOf i).toNat)
    case atStart=>exact⟨0,1,CB _,rfl,rfl⟩
    case round =>
     obtain⟨j,nd,hj,rfl,rfl⟩:=hrel;have hgl:=Cy wa _ cu;have hwl8:=Cy wa _ g10;by_cases hjl:j<m
     ·obtain⟨gu,rfl,c0,c1,c2⟩:=hcu j hjl;have hgu:=Cy wa _ c0;have j0:(0:Int)≤(j:Int):=by omega
      have j1:(j:Int)<(m:Int):=by omega
      clear hcu;go_wp2
      go_quiet ((fail))
      go_wp2
      go_roundw
      case rel=>exact⟨j+1,_,by omega,by go_num,rfl⟩
      case measure=>simp[intOf];omega
     clear hcu;go_wp2
     go_roundw
     case rel=>exact⟨k+1,by omega,by go_num,below_drewN (hbr.alloc hwl _) _⟩
     case measure=>simp[intOf];omega
   have hki:¬ (k:Int)<(bk.length:Int):=by omega
   clear hlt hk;go_wp2
   clear hki g10 g11;go_loopw [8] (fun i wr=>∃k:Nat,k≤bf.length∧i=.int .i64 k∧Below w.heap.size w wr) (fun i _=>bf.length-(intOf i).toNat)
   case atStart=>exact⟨0,CB _,rfl,hbr⟩
   case round =>
    clear hbr g12 hwl;obtain⟨k,hk,rfl,hbr⟩:=hrel;obtain⟨wa,hwa⟩:∃x,x=wr:=⟨_,rfl⟩
    subst hwa;have g12:=aa hbr h12;have g13:=aa hbr h13;by_cases hlt:k<bf.length
    ·obtain⟨p',cap',hp',hc'⟩:=HF.out.1.below hbr;obtain⟨q',capq',hq',hcq'⟩:=HF.out.2.below hbr;obtain⟨g,u,hg,cu,hu⟩:=hc' k bf[k] (Cr hlt);obtain⟨gq,hgq,cq⟩:=hcq' k bf[k] (Cr hlt);obtain⟨rfl,-,rfl⟩:pF=p'∧True∧capF=cap':=by simpa using hp'
     obtain⟨rfl,-,rfl⟩:qF=q'∧True∧capqF=capq':=by simpa using hq'
     subst hg hgq;have hmk:=hfm _ (CN hlt);generalize bf[k]=E at *;obtain⟨m,mk⟩:=E;simp only at cq hu hmk;clear hp' hq' hc' hcq';have k0:(0:Int)≤(k:Int):=by omega
     have k1:(k:Int)<(bf.length:Int):=by omega
     obtain⟨pu,capu,rfl,hcu⟩:=hu;go_wp2
     go_loopw [9] (fun i wr2=>∃j n:Nat,j≤m∧i=.int .i64 j∧wr2=wa.drewN n) (fun i _=>m-(intOf i).toNat)
     case atStart=>exact⟨0,0,CB _,rfl,rfl⟩
     case round =>
      obtain⟨j,nd,hj,rfl,rfl⟩:=hrel;by_cases hjl:j<m
      ·obtain⟨gu,rfl,c0,c1⟩:=hcu j hjl;have j0:(0:Int)≤(j:Int):=by omega
       have j1:(j:Int)<(m:Int):=by omega
       clear hcu;go_wp2
       go_quiet ((fail))
       go_wp2
       go_roundw
       case rel=>exact⟨j+1,_,by omega,by go_num,rfl⟩
       case measure=>simp[intOf];omega
      clear hcu;go_wp2
      go_roundw
      case rel=>exact⟨k+1,by omega,by go_num,below_drewN hbr _⟩
      case measure=>simp[intOf];omega
    go_wp2
    go_ret
    exact⟨rfl,hbr⟩
end
section
open Go.RowKit Go.Proofs
attribute [local go_sem ↓] Go.wp_at_zero Go.wp_at_succ
variable {N k:Nat} {w:World}
theorem vH{base:Nat}{e:TypeId}{g n:Nat}{xs:List Value}(h:w.ownsRow base e 1 (.slice (some ⟨g,0,none⟩) n n) n xs):w.heap[g]?=some (.cells xs.toArray e (0,0)):=by
 rcases h.2 with⟨h1,_⟩|⟨g',cap2,cur,hv,hb,hg,h1,h2,h3,h4⟩
 ·cases h1
 simp only[Value.slice.injEq,Option.some.injEq,Addr.mk.injEq,and_true,true_and]at hv;obtain⟨rfl,rfl⟩:=hv;rw[hg,←h4,List.take_of_length_le (by simp[h3])]
def gv(f:List UInt8)(k N:Nat):List Value:=Lib.byteCells f++(CM (k-f.length) (Value.int .u8 77)++CM (N-k) (Value.int .u8 0))
theorem aV(f:List UInt8):(Lib.byteCells f).length=f.length:=by simp[Lib.byteCells]
theorem yK(f:List UInt8)(h1:f.length≤k)(h2:k≤N):(gv f k N).length=N:=by
 unfold gv;simp only[Cz,aV,D1];omega
theorem yJ(f:List UInt8)(h1:f.length≤k)(h2:k<N):(gv f k N).set k (Value.int .u8 77)=gv f (k+1) N:=by
 unfold gv;have hb:=aV f;obtain⟨d,rfl⟩:∃d,k=f.length+d:=⟨k-f.length,by omega⟩
 obtain⟨r,hr⟩:∃r,N-(f.length+d)=r+1:=⟨N-(f.length+d)-1,by omega⟩
 rw[Dz _ _ (by omega),Dz _ _ (by simp[hb]),hr,show N-(f.length+d+1)=r by omega];simp only[hb,DM,D1,Dt,List.replicate_succ,Cs];rw[show f.length+d+1-f.length=d+1 by omega,List.replicate_succ'];simp
theorem yL(f:List UInt8):gv f (f.length+8) (f.length+8)=Lib.byteCells f++CM 8 (Value.int .u8 77):=by
 unfold gv;rw[DM,Dt];simp
theorem oz{p:Option Addr}{c:Nat}{f:List UInt8}(h:aM w (.slice p f.length c) f)(h0:0<f.length):∃ad,p=some ad∧∀j v,(Lib.byteCells f)[j]?=some v→w.cell? (ad.add j)=some v:=by
 obtain⟨p',c',h1,h2⟩:=h;simp only[Value.slice.injEq,true_and]at h1;obtain⟨rfl,rfl⟩:=h1;obtain⟨b,o,hp,-⟩:=h2 0 f[0] (Cr h0);refine⟨⟨b,o,none⟩,hp,fun j v hv=>?_⟩;unfold Lib.byteCells at hv;rw[Dj]at hv
 obtain⟨x,hx,rfl⟩:=Option.map_eq_some_iff.1 hv;obtain⟨b',o',hp',hc⟩:=h2 j x hx;rw[hp]at hp'
 simp only[Option.some.injEq,Addr.mk.injEq,and_true]at hp';obtain⟨rfl,rfl⟩:=hp';rw[CS];exact hc
theorem Tryz.Bw:(Tryz.prog.info? 5).map (·.size)=some 1:=by kernel_rfl
theorem yN(p:Option Addr)(c:Nat)(f:List UInt8)(hf:f.length≤1000000)(w:World)(hb:aM w (.slice p f.length c) f):Calls Tryz.prog 114 #[.slice p f.length c] w fun e w'=>e=.returned (.slice (some ⟨w.heap.size,0,none⟩) (f.length+8) (f.length+8))∧w'.heap[w.heap.size]?=some (.cells (Lib.byteCells f++CM 8 (Value.int .u8 77)).toArray 5 (0,0))∧Below w.heap.size w w':=by
 obtain⟨i0,hi0,hz0,hz1,hz2⟩:=info_parts Tryz.AI;have HB:=hid hb;have hl:(f.length:Int)+8=((f.length+8:Nat):Int):=by omega
 obtain⟨N,hN⟩:∃N,f.length+8=N:=⟨_,rfl⟩
 have HN:Hid (f.length+8=N):=hN;have hNi:(f.length:Int)+8=(N:Int):=by omega
 obtain⟨X,hX⟩:∃X,X=Lib.byteCells f:=⟨_,rfl⟩
 have HX:Hid (X=Lib.byteCells f):=hX;have hXl:X.length=f.length:=by rw[hX];exact aV f
 have HX1:Hid (∀v∈X,v.oneCell'=true):=fun v hv=>by
  rw[HX.out]at hv;unfold Lib.byteCells at hv;obtain⟨b,-,rfl⟩:=List.mem_map.1 hv
  rfl
 clear hb hX hl;have HM:Hid (∀w1:World,w1.ownsRow w.heap.size 5 1 (.slice (some ⟨w.heap.size,0,none⟩) N N) N (madeCells (Value.int .u8 0).cells (N*1)).toList→w1.heap[w.heap.size]?=some (.cells (CM f.length (Value.int .u8 0)++(gv f f.length N).drop f.length).toArray 5 (0,0))):=fun w1 h=>by
  show _=_
  rw[vH h];congr 2
  have e:(madeCells (Value.int .u8 0).cells (N*1)).toList=CM N (Value.int .u8 0):=by
   apply List.ext_getElem
   ·simp[madeCells]
   intro i h1 h2;simp[madeCells,Value.cells];rw[Nat.mod_one]
   rfl
  rw[e];unfold gv;rw[List.drop_append_of_le_length (by rw[aV];exact Cl _),←aV f,List.drop_length];have:=HN.out;simp only[aV,Dt,List.replicate_zero,DC];rw[List.replicate_append_replicate];congr 2
  omega
 go_enter Tryz.func114,Tryz.ntmps114
 go_wp2_with (first
  |(at_make;refine wpList_make_full _ rfl _ _ 55 rfl w.heap.size 5 i0 _ 1 Tryz.underlying55 hi0 hz0 hz1 .i64 .i64 (N:Int) (N:Int) N rfl rfl rfl rfl (by rw[hz2];omega) (by unfold maxLen;omega) (Cl _) ?_;intro w1 hown1 hgr1;have hb1:Below w.heap.size w w1:=⟨hgr1.os,hgr1.tape,hgr1.output,hgr1.size,fun b hb=>hgr1.block b hb (by simp)⟩;have HM1:=HM.out w1 hown1;have HMH:Hid _:=HM1;have HB1:Hid (Below w.heap.size w w1):=hb1;clear hown1 HM1 hgr1)
  |(refine wpList_copy_splice rfl _ _ 55 55 rfl 5 Tryz.underlying55 Tryz.Bw (some ⟨w.heap.size,0,none⟩) p N N f.length c rfl rfl w.heap.size 0 _ 5 HMH.out X (by rw[hXl];exact(Nat.min_eq_left (by omega)).symm) (fun h0=>⟨rfl,by obtain⟨ad,a1,a2⟩:=oz HB.out (by omega);exact⟨ad,a1,fun j v hv=>aa HB1.out (a2 j v (by rw[←HX.out];exact hv))⟩⟩) (by simp[gv,aV,hXl]) HX1.out w.heap.size w HB1.out (Cl _) ?_;intro w2 HG2 hB2))
 have HG:Hid (w2.heap[w.heap.size]?=some (.cells (gv f f.length N).toArray 5 (0,0))):=by
  show _=_
  rw[HG2.out];congr 2
  unfold splice;rw[List.take_zero,DC,hXl,CJ,List.drop_append_of_le_length (by simp),List.drop_of_length_le (by simp),DC,HX.out];unfold gv;rw[List.drop_append_of_le_length (by rw[aV];exact Cl _),←aV f,List.drop_length];simp
 have HBB:Hid (Below w.heap.size w w2):=hB2;clear HG2 hB2 HMH HB1 HM HB;go_loopw [4] (fun i wr=>∃k:Nat,f.length≤k∧k≤N∧i=.int .i64 (k:Int)∧Hid (wr.heap[w.heap.size]?=some (.cells (gv f k N).toArray 5 (0,0))∧Below w.heap.size w wr)) (fun i _=>N-(intOf i).toNat)
 case atStart=>exact⟨f.length,Cl _,by omega,rfl,HG.out,HBB.out⟩
 case round =>
  clear HG HBB;obtain⟨k,hk1,hk2,rfl,HI⟩:=hrel;by_cases hlt:k<N
  ·have hki:(k:Int)<(N:Int):=by omega
   have hlen:=yK f hk1 hk2;obtain⟨y,c0⟩:∃y,wr.cell? ⟨w.heap.size,k,none⟩=some y:=by
    rw[cell_of_heap HI.out.1];exact⟨_,by rw[List.getElem?_toArray];exact Cr (by omega)⟩
   have f0:wr.frozen? ⟨w.heap.size,k,none⟩=false:=frozen_of_heap HI.out.1 k;go_wp2
   go_roundw
   case rel =>
    refine⟨k+1,by omega,by omega,by simp,?_,HI.out.2.setCell (Cl _) _⟩;rw[ae HI.out.1,Cw,yJ f hk1 hlt]
   case measure=>simp[intOf];omega
  obtain rfl:k=N:=by omega
  have hki:¬ (k:Int)<(k:Int):=by omega
  go_wp2
  go_ret
  refine⟨by rw[←HN.out];rfl,?_,HI.out.2⟩;rw[HI.out.1,←HN.out,yL]
  rfl
def cl(f:List UInt8)(k:Nat):List Value:=CM k (Value.int .u8 99)++(Lib.byteCells f++CM 8 (Value.int .u8 77)).drop k
theorem wI(f:List UInt8)(hk:k<f.length+8):(cl f k).set k (Value.int .u8 99)=cl f (k+1):=by
 unfold cl;have hl:k<(Lib.byteCells f++CM 8 (Value.int .u8 77)).length:=by simp only[Cz,D1,aV];omega
 rw[C9 hl,Dz _ _ (by simp)];simp only[D1,Dt,Cs];rw[show CM (k+1) (Value.int .u8 99)=CM k (Value.int .u8 99)++[Value.int .u8 99] from List.replicate_succ',List.append_assoc]
 rfl
theorem yS(f:List UInt8)(hk:k<f.length+8):(cl f k)[k]?=some (if h:k<f.length then .int .u8 (f[k].toNat:Int) else .int .u8 77):=by
 unfold cl;rw[C5 (by simp),D1,Dt,List.getElem?_drop,DG];by_cases h:k<f.length
 ·rw[List.getElem?_append_left (by rw[aV];exact h),dif_pos h];unfold Lib.byteCells;rw[Dj,Cr h]
  rfl
 rw[C5 (by rw[aV];omega),aV,dif_neg h,List.getElem?_replicate,if_pos (by omega)]
theorem yR(z:Nat)(p:Option Addr)(c:Nat)(f:List UInt8)(hf:f.length≤1000000)(w:World)(hz:w.heap[z]?=some (.cells (Lib.byteCells f++CM 8 (Value.int .u8 77)).toArray 5 (0,0)))(hb:aM w (.slice p f.length c) f)(hne:∀(i:Nat) (x:UInt8),f[i]?=some x→∀b o,p=some ⟨b,o,none⟩→b≠z):Calls Tryz.prog 115 #[.slice (some ⟨z,0,none⟩) (f.length+8) (f.length+8),.slice p f.length c] w fun e w'=>e=.returned (.bool true)∧an [some z] w w':=by
 have HB:=hid hb;have HNE:=hid hne;obtain⟨N,hN⟩:∃N,f.length+8=N:=⟨_,rfl⟩
 have HZ:Hid (w.heap[z]?=some (.cells (cl f 0).toArray 5 (0,0))):=by
  show _=_
  rw[hz];simp[cl]
 rw[hN];clear hb hz hne;go_enter Tryz.func115,Tryz.ntmps115
 go_wp2
 go_loopw [5,6] (fun v i wr=>∃k:Nat,k≤N∧i=.int .i64 (k:Int)∧v=.bool true∧Hid (wr.heap[z]?=some (.cells (cl f k).toArray 5 (0,0))∧an [some z] w wr)) (fun _ i _=>N-(intOf i).toNat)
 case atStart=>exact⟨0,CB _,rfl,rfl,HZ.out,an.refl _ _⟩
 case round =>
  clear HZ;obtain⟨k,hk,rfl,rfl,HI⟩:=hrel;by_cases hlt:k<N
  ·have hki:(k:Int)<(N:Int):=by omega
   have hg:=yS f (show k<f.length+8 by omega);have f0:wr.frozen? ⟨z,k,none⟩=false:=frozen_of_heap HI.out.1 k;by_cases hkf:k<f.length
   ·have hkfi:(k:Int)<(f.length:Int):=by omega
    rw[dif_pos hkf]at hg;have c0:wr.cell? ⟨z,k,none⟩=some (.int .u8 (f[k].toNat:Int)):=by rw[cell_of_heap HI.out.1,List.getElem?_toArray];exact hg
    obtain⟨p',c',h1,h2⟩:=HB.out;simp only[Value.slice.injEq,true_and]at h1;obtain⟨rfl,rfl⟩:=h1;obtain⟨b,o,hp,hc⟩:=h2 k f[k] (Cr hkf);have hbz:=HNE.out k f[k] (Cr hkf) b o hp;subst hp;have c1:wr.cell? ⟨b,o+k,none⟩=some (.int .u8 (f[k].toNat:Int)):=HI.out.2.cell hc (by simp;exact hbz);have hr:Below wr.heap.size wr wr:=Ck _ _;generalize f[k].toNat=xk at *;clear hg h2 hc;go_upto_region 6 with fail
    go_quiet ((fail))
    go_wp2
    go_roundw
    case rel =>
     refine⟨k+1,by omega,by simp,rfl,?_,?_⟩
     ·have hh:(wr.drewN nq).heap[z]?=some (.cells (cl f k).toArray 5 (0,0)):=HI.out.1;rw[ae hh,Cw,wI f (by omega)]
     have hu:an [some z] w (wr.drewN nq):=HI.out.2.below (below_drewN (Ck _ wr) nq);exact hu.setCell (.inl (by simp)) _
    case measure=>simp[intOf];omega
   have hkfi:¬ (k:Int)<(f.length:Int):=by omega
   rw[dif_neg hkf]at hg;have c0:wr.cell? ⟨z,k,none⟩=some (Value.int .u8 77):=by rw[cell_of_heap HI.out.1,List.getElem?_toArray];exact hg
   clear hg;go_wp2
   go_roundw
   case rel =>
    refine⟨k+1,by omega,by simp,by simp,?_,HI.out.2.setCell (.inl (by simp)) _⟩;rw[ae HI.out.1,Cw,wI f (by omega)]
   case measure=>simp[intOf];omega
  have hki:¬ (k:Int)<(N:Int):=by omega
  go_wp2
  go_ret
  exact⟨rfl,HI.out.2⟩
end
end Go.Proofs.YtckmppkdpnhodaaGreatDoor
