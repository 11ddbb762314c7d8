import Derived.Test.YtckmppkdpnhodaaGreatDoorT07
import Derived.Deep.Cut
import Derived.Test.YtckmppkdpnhodaaGreatDoorT00
set_option maxRecDepth 100000
set_option maxHeartbeats 8000000
set_option linter.unusedVariables false
set_option linter.unusedSimpArgs false
open List renaming getElem?_eq_some_iff→CT,getElem?_append_right→C5,mem_cons→Co,not_mem_nil→Cq,getElem_set_ne→D8,getElem_append_left→Df,getElem?_eq_getElem→Cr
open Nat renaming zero_add→CJ,lt_of_lt_of_le→CG,add_sub_cancel_left→DM,le_refl→Cl,le_trans→CC
open Go.Addr renaming add_mid→CS
open Array renaming getElem?_eq_some_iff→Cn,getElem?_setIfInBounds_self_of_lt→Dq,getElem?_setIfInBounds_ne→CY
open Go.World renaming block_lt_of_cell?→Cy,cell?_of_block→CE
open Go.RowKit.Below renaming refl→Ck
namespace Go.Proofs.YtckmppkdpnhodaaGreatDoor
section
open Go.RowKit
structure cX where
 av:Value
 bsv:Value
 kbv:Value
 fsv:Value
 kfv:Value
structure aS(QT:Type) where
 n:Nat
 rbs:List Nat
 q:QT
 tr:List Dn
 xss:List (List Nat)
 since:List Nat
 fresh:List Bool
 bk:List (Nat×Int)
 sp:Bool
structure aC where
 wb:Nat
 lb:Nat
 capl:Nat
 tv:Value
 bvs:List Value
 kb:Nat
 capk:Nat
 KB:Array Value
 sv:Value
 fb:Nat
 capf:Nat
 FB:Array Value
 osv:Value
 kov:Value
 us:List Value
 rv:cX
def aC.C(L:aC)(n:Nat)(sp:Bool):Array Value:=#[.int .i64 (n:Int),.slice (some ⟨L.lb,0,none⟩) n L.capl,L.tv,.slice (some ⟨L.kb,0,none⟩) n L.capk,L.rv.av,L.sv,.slice (some ⟨L.fb,0,none⟩) n L.capf,.bool sp,L.rv.bsv,L.rv.kbv,L.osv,L.kov,L.rv.fsv,L.rv.kfv]
def bm(tr:List Dn)(bvs:List Value):List Value:=(tr.zip bvs).flatMap fun x=>[.int .i64 (x.1.org:Int),.int .i64 (x.1.seq:Int),.string x.1.text,.string x.1.c.k.bs,.string x.1.c.word,.int .i64 (x.1.c.count:Int),x.2]
variable {QT:Type} (R:World→Nat→List Nat→cX→QT→(Nat→Prop)→Prop)
structure ar(w:World)(c:Nat→Nat)(L:aC)(st:aS QT):Prop where
 npos:2≤st.n∧st.n≤5
 wbk:w.heap[L.wb]?=some (.cells (L.C st.n st.sp) 82 (0,0))
 wbc:c L.wb=1
 lbc:c L.lb=2
 lcell:∀i (h:i<st.rbs.length),w.cell? ⟨L.lb,i,none⟩=some (.pointer (some ⟨st.rbs[i],0,none⟩))
 llen:st.rbs.length=st.n
 trow:w.ownsRow 0 91 7 L.tv st.tr.length (bm st.tr L.bvs)
 tvc:∀b,L.tv.ownBlock=some b→c b=3
 blen:L.bvs.length=st.tr.length
 bef:∀i (h:i<st.tr.length) (h':i<L.bvs.length),aT w L.bvs[i] st.tr[i].bef∧(∀b,L.bvs[i].ownBlock=some b→c b=9∧b<w.heap.size)∧st.tr[i].bef.length≤maxLen
 kbk:w.heap[L.kb]?=some (.cells L.KB 75 (0,0))
 kbc:c L.kb=4
 xlen:st.xss.length=st.n
 xrow:∀i (h:i<st.xss.length),∃u,L.KB[i]?=some u∧w.ownsRow 0 3 1 u st.xss[i].length (ints st.xss[i])∧∀b,u.ownBlock=some b→c b=10+i
 slen:st.since.length=st.n
 srow:w.ownsRow 0 3 1 L.sv st.n (ints st.since)
 svc:∀b,L.sv.ownBlock=some b→c b=5
 fbk:w.heap[L.fb]?=some (.cells L.FB 4 (0,0))
 fbc:c L.fb=6
 flen:st.fresh.length=st.n
 fcell:∀i (h:i<st.fresh.length),L.FB[i]?=some (.bool st.fresh[i])
 orow:w.ownsRow 0 62 1 L.osv st.bk.length L.us
 ovc:∀b,L.osv.ownBlock=some b→c b=7
 marks:∀i (h:i<st.bk.length) (h':i<L.us.length),bc w L.us[i] st.bk[i].1 st.bk[i].2∧∀b,L.us[i].ownBlock=some b→c b=9∧b<w.heap.size
 krow:w.ownsRow 0 3 1 L.kov st.bk.length (st.bk.map fun e=>.int .i64 e.2)
 kvc:∀b,L.kov.ownBlock=some b→c b=8
 rest:R w st.n st.rbs L.rv st.q fun b=>c b=20
end
section
open Go.RowKit
theorem gL:∀(tr:List Dn) (bvs:List Value) (i:Nat) (h:i<tr.length) (h':i<bvs.length),∀o v,[Value.int .i64 (tr[i].org:Int),.int .i64 (tr[i].seq:Int),.string tr[i].text,.string tr[i].c.k.bs,.string tr[i].c.word,.int .i64 (tr[i].c.count:Int),bvs[i]][o]?=some v→(bm tr bvs)[i*7+o]?=some v
 |[],_,i,h,_=>by simp at h
 |_::_,[],i,_,h'=>by simp at h'
 |d::tr,b::bvs,0,_,_=>fun o v ho=>by
  have hl:o<7:=by
   have:=(CT.1 ho).1;simpa using this
  have e:bm (d::tr) (b::bvs)=[Value.int .i64 (d.org:Int),.int .i64 (d.seq:Int),.string d.text,.string d.c.k.bs,.string d.c.word,.int .i64 (d.c.count:Int),b]++bm tr bvs:=by simp[bm]
  rw[e,Nat.zero_mul,CJ,List.getElem?_append_left (by simpa using hl)];exact ho
 |d::tr,b::bvs,i+1,h,h'=>fun o v ho=>by
  have ih:=gL tr bvs i (by simpa using h) (by simpa using h') o v (by simpa using ho);have e:bm (d::tr) (b::bvs)=[Value.int .i64 (d.org:Int),.int .i64 (d.seq:Int),.string d.text,.string d.c.k.bs,.string d.c.word,.int .i64 (d.c.count:Int),b]++bm tr bvs:=by simp[bm]
  rw[e,C5 (by simp;omega)];have:(i+1)*7+o-7=i*7+o:=by omega
  simpa[this] using ih
variable {QT:Type} {R:World→Nat→List Nat→cX→QT→(Nat→Prop)→Prop}
theorem ar.trace{w:World}{c:Nat→Nat}{L:aC}{st:aS QT}(h:ar R w c L st):dX (fun b=>c b=3∨c b=9) w L.tv st.tr:=by
 rcases id h.trow.2 with⟨hv,h0⟩|⟨g,cap,cur,hv,hb,hg,h1,h2,h3,h4⟩
 ·refine⟨none,0,by rw[hv,h0],fun i d hd=>?_⟩;have:=(CT.1 hd).1;omega
 refine⟨some ⟨g,0,none⟩,cap,hv,fun i d hd=>?_⟩;obtain⟨hi,rfl⟩:=CT.1 hd;have hi':i<L.bvs.length:=by rw[h.blen];exact hi
 obtain⟨hn,hc,hl⟩:=h.bef i hi hi';have hcell:∀o v,[Value.int .i64 (st.tr[i].org:Int),.int .i64 (st.tr[i].seq:Int),.string st.tr[i].text,.string st.tr[i].c.k.bs,.string st.tr[i].c.word,.int .i64 (st.tr[i].c.count:Int),L.bvs[i]][o]?=some v→w.cell? ⟨g,i*7+o,none⟩=some v:=fun o v ho=>by
  have:=h.trow.cells (g:=g) (by rw[hv];rfl) _ _ (gL st.tr L.bvs i hi hi' o v ho);rwa[CS,CJ]at this
 exact⟨g,L.bvs[i],rfl,.inl (h.tvc g (by rw[hv];rfl)),hcell 0 _ rfl,hcell 1 _ rfl,hcell 2 _ rfl,hcell 3 _ rfl,hcell 4 _ rfl,hcell 5 _ rfl,hcell 6 _ rfl,hn,fun b hb=>.inr (hc b hb).1,hl⟩
def aS.asked(st:aS QT)(k:Nat)(ids:List Nat):aS QT:={st with
  xss:=st.xss.set k ids
  fresh:=st.fresh.set k false
  bk:=st.bk++[(ids.length,-1-(st.bk.length:Int)),(ids.length+1,-1-(st.bk.length:Int)),(ids.length+2,-1-(st.bk.length:Int)),(ids.length+3,-1-(st.bk.length:Int))]}
structure aG(w:World)(c:Nat→Nat)(w':World)(c':Nat→Nat):Prop where
 os:w'.os=w.os
 tape:w'.tape=w.tape
 output:w'.output=w.output
 size:w.heap.size≤w'.heap.size
 col:∀b,b<w.heap.size→c' b=c b
 zero:∀b,b<w.heap.size→c b=0→w'.heap[b]?=w.heap[b]?
structure dT{QT:Type}(R:World→Nat→List Nat→cX→QT→(Nat→Prop)→Prop):Prop where
 same:∀{w w':World} {n:Nat} {rbs:List Nat} {rv:cX} {q:QT} {F F':Nat→Prop},R w n rbs rv q F→w.heap.size≤w'.heap.size→(∀b,F b→b<w.heap.size→w'.heap[b]?=w.heap[b]?∧F' b)→R w' n rbs rv q F'
theorem ar.asked(hR:dT R){w w':World}{c:Nat→Nat}{L:aC}{st:aS QT}(h:ar R w c L st){k:Nat}(hk:k<st.n){ids:List Nat}{u:Value}(hu:L.KB[k]?=some u)(huc:∀b,u.ownBlock=some b→c b=10+k)(hp:iO w w' L.wb L.kb L.fb k (L.C st.n st.sp) L.KB L.FB 82 75 4 L.osv L.kov u st.bk.length L.us (st.bk.map fun e=>.int .i64 e.2) ids):∃c' L',L'.wb=L.wb∧ar R w' c' L' (st.asked k ids)∧aG w c w' c':=by
 obtain⟨up,hfresh,u',osv',kov',l,g,h',j,pk,prow,pub,pwb,pos,pko,ml,mg,mh,mj,nos,nko,nx,du,dos,dko⟩:=hp;obtain⟨n1,n2⟩:=h.npos;let c':Nat→Nat:=fun b=>if b<w.heap.size then c b else if u'.ownBlock=some b then 10+k else if osv'.ownBlock=some b then 7 else if kov'.ownBlock=some b then 8 else 9
 have cold:∀b,b<w.heap.size→c' b=c b:=fun b hb=>if_pos hb
 have same:∀b,b<w.heap.size→c b≠1→c b≠4→c b≠6→c b≠10+k→c b≠7→c b≠8→w'.heap[b]?=w.heap[b]?:=fun b hb a1 a2 a3 a4 a5 a6 =>
  up.block b hb fun hm=>by
   simp only[Co,Cq,or_false,Option.some.injEq]at hm;rcases hm with hm|hm|hm|hm|hm|hm
   ·exact a1 (by rw[hm];exact h.wbc)
   ·exact a2 (by rw[hm];exact h.kbc)
   ·exact a3 (by rw[hm];exact h.fbc)
   ·exact a4 (huc b hm.symm)
   ·exact a5 (h.ovc b hm.symm)
   exact a6 (h.kvc b hm.symm)
 have owns:∀{e:TypeId} {size:Nat} {v:Value} {n:Nat} {xs:List Value} (col:Nat),w.ownsRow 0 e size v n xs→(∀b,v.ownBlock=some b→c b=col)→col≠1→col≠4→col≠6→col≠10+k→col≠7→col≠8→w'.ownsRow 0 e size v n xs:=fun col ho hc a1 a2 a3 a4 a5 a6=>by
  refine⟨ho.1,?_⟩;rcases ho.2 with hn|⟨g,cap,cur,rfl,hb,hg,rest⟩
  ·exact .inl hn
  have e:=hc g rfl;exact .inr ⟨g,cap,cur,rfl,hb,by rw[same g (Cn.1 hg).1 (by omega) (by omega) (by omega) (by omega) (by omega) (by omega)];exact hg,rest⟩
 have clt:∀{e:TypeId} {size:Nat} {v:Value} {n:Nat} {xs:List Value} {col:Nat},w.ownsRow 0 e size v n xs→(∀b,v.ownBlock=some b→c b=col)→∀b,v.ownBlock=some b→c' b=col:=fun ho hc b hb=>by
  rw[cold b (ho.lt b hb).2];exact hc b hb
 have wbl:=(Cn.1 h.wbk).1;have kbl:=(Cn.1 h.kbk).1;have fbl:=(Cn.1 h.fbk).1;have hks:k<L.KB.size:=(Cn.1 hu).1;have lus:L.us.length=st.bk.length:=by simpa using h.orow.1
 refine⟨c',{L with KB:=L.KB.setIfInBounds k u',FB:=L.FB.setIfInBounds k (.bool false),osv:=osv',kov:=kov',us:=L.us++[l,g,h',j]},rfl,?_,⟨up.os,up.tape,up.output,up.size,cold,fun b hb e=>same b hb (by omega) (by omega) (by omega) (by omega) (by omega) (by omega)⟩⟩;have cnew:∀b,w.heap.size≤b→∀x∈[l,g,h',j],x.ownBlock=some b→c' b=9:=fun b hb x hx e=>by
  have h1:¬ b<w.heap.size:=by omega
  show(if b<w.heap.size then c b else _)=9
  rw[if_neg h1,if_neg (fun e'=>(du b e').2.2 x hx e),if_neg (fun e'=>(dos b e').2 x hx e),if_neg (fun e'=>dko b e' x hx e)]
 have col1:c' L.wb=1:=(cold _ wbl).trans h.wbc;exact
  {npos:=h.npos
   wbk:=by
    have e:((L.C st.n st.sp).setIfInBounds 10 osv').setIfInBounds 11 kov'=aC.C {L with KB:=L.KB.setIfInBounds k u',FB:=L.FB.setIfInBounds k (.bool false),osv:=osv',kov:=kov',us:=L.us++[l,g,h',j]} st.n st.sp:=by
     simp[aC.C]
    rw[e]at pwb;exact pwb
   wbc:=col1
   lbc:=by
    by_cases hl:L.lb<w.heap.size
    ·exact(cold _ hl).trans h.lbc
    have h0:0<st.rbs.length:=by rw[h.llen];omega
    exact absurd (Cy w _ (h.lcell 0 h0)) hl
   lcell:=fun i hi=>by
    have hc:=h.lcell i hi;have hl:=Cy w _ hc;have e:=h.lbc;exact(CE (a:=⟨L.lb,i,none⟩) (same L.lb hl (by omega) (by omega) (by omega) (by omega) (by omega) (by omega))).trans hc
   llen:=h.llen
   trow:=owns 3 h.trow h.tvc (by omega) (by omega) (by omega) (by omega) (by omega) (by omega)
   tvc:=clt h.trow h.tvc
   blen:=h.blen
   bef:=fun i hi hi'=>by
    obtain⟨a1,a2,a3⟩:=h.bef i hi hi';refine⟨a1.same fun b hb hl=>?_,fun b hb=>?_,a3⟩
    ·have e:=(a2 b hb).1;exact same b hl (by omega) (by omega) (by omega) (by omega) (by omega) (by omega)
    have e:=a2 b hb;exact⟨(cold b e.2).trans e.1,CG e.2 up.size⟩
   kbk:=pk
   kbc:=(cold _ kbl).trans h.kbc
   xlen:=by simp[aS.asked,h.xlen]
   xrow:=fun i hi=>by
    by_cases hik:i=k
    ·subst hik;refine⟨u',by simp[Dq hks],?_,fun b hb=>?_⟩
     ·simpa[aS.asked] using prow
     rcases pub b hb with h1|h1
     ·by_cases hl:b<w.heap.size
      ·rw[cold b hl];exact huc b h1
      show(if b<w.heap.size then c b else _)=_
      rw[if_neg hl,if_pos hb]
     show(if b<w.heap.size then c b else _)=_
     rw[if_neg (by omega),if_pos hb]
    have hi2:i<st.xss.length:=by simpa[aS.asked] using hi
    obtain⟨v,hv,ho,hc⟩:=h.xrow i hi2;have hin:i<st.n:=by rw[←h.xlen];exact hi2
    refine⟨v,by simp only;rw[CY (fun e=>hik e.symm)];exact hv,?_,clt ho hc⟩;have:=owns (10+i) ho hc (by omega) (by omega) (by omega) (by omega) (by omega) (by omega);have e:(st.asked k ids).xss[i]=st.xss[i]:=by simp[aS.asked,D8 (fun e=>hik e.symm)]
    rw[e];exact this
   slen:=h.slen
   srow:=owns 5 h.srow h.svc (by omega) (by omega) (by omega) (by omega) (by omega) (by omega)
   svc:=clt h.srow h.svc
   fbk:=hfresh
   fbc:=(cold _ fbl).trans h.fbc
   flen:=by simp[aS.asked,h.flen]
   fcell:=fun i hi=>by
    have hi2:i<st.fresh.length:=by simpa[aS.asked] using hi
    have hf:=h.fcell i hi2;by_cases hik:i=k
    ·subst hik;have:i<L.FB.size:=(Cn.1 hf).1;simp[aS.asked,Dq this]
    simp only;rw[CY (fun e=>hik e.symm),hf];simp[aS.asked,D8 (fun e=>hik e.symm)]
   orow:=by simpa[aS.asked] using pos
   ovc:=fun b hb=>by
    by_cases hl:b<w.heap.size
    ·rw[cold b hl];rcases nos b hb with h1|h1
     ·exact h.ovc b h1
     omega
    show(if b<w.heap.size then c b else _)=_
    rw[if_neg hl,if_neg (fun e=>(du b e).1 hb),if_pos hb]
   marks:=fun i hi hi'=>by
    by_cases hold:i<st.bk.length
    ·have hold':i<L.us.length:=by omega
     obtain⟨a1,a2⟩:=h.marks i hold hold';have e1:(L.us++[l,g,h',j])[i]=L.us[i]:=Df hold';have e2:(st.asked k ids).bk[i]=st.bk[i]:=by simp[aS.asked,Df hold]
     simp only[e1,e2];refine⟨a1.upd up fun b hb hm=>?_,fun b hb=>?_⟩
     ·have e:=(a2 b hb).1;simp only[Co,Cq,or_false,Option.some.injEq]at hm;rcases hm with hm|hm|hm|hm|hm|hm
      ·rw[hm,h.wbc]at e;omega
      ·rw[hm,h.kbc]at e;omega
      ·rw[hm,h.fbc]at e;omega
      ·have:=huc b hm.symm;omega
      ·have:=h.ovc b hm.symm;omega
      have:=h.kvc b hm.symm;omega
     have e:=a2 b hb;exact⟨(cold b e.2).trans e.1,CG e.2 up.size⟩
    have hlen:i<st.bk.length+4:=by simpa[aS.asked] using hi
    obtain⟨t,rfl⟩:∃t,i=st.bk.length+t:=⟨i-st.bk.length,by omega⟩
    have ht:t<4:=by omega
    have e1:∀x,[l,g,h',j][t]?=some x→(L.us++[l,g,h',j])[st.bk.length+t]'hi'=x:=fun x hx=>by
     have:(L.us++[l,g,h',j])[st.bk.length+t]?=some x:=by
      rw[C5 (by omega),lus,DM];exact hx
     rw[Cr hi']at this;exact Option.some.inj this
    have e2:∀x,[(ids.length,-1-(st.bk.length:Int)),(ids.length+1,-1-(st.bk.length:Int)),(ids.length+2,-1-(st.bk.length:Int)),(ids.length+3,-1-(st.bk.length:Int))][t]?=some x→(st.asked k ids).bk[st.bk.length+t]'hi=x:=fun x hx=>by
     have:(st.asked k ids).bk[st.bk.length+t]?=some x:=by
      simp only[aS.asked];rw[C5 (by omega),DM];exact hx
     rw[Cr hi]at this;exact Option.some.inj this
    rcases(show t=0∨t=1∨t=2∨t=3 by omega) with rfl|rfl|rfl|rfl
    ·simp only[e1 l rfl,e2 _ rfl];exact⟨ml,fun b hb=>⟨cnew b (nx l (by simp) b hb).1 l (by simp) hb,(nx l (by simp) b hb).2⟩⟩
    ·simp only[e1 g rfl,e2 _ rfl];exact⟨mg,fun b hb=>⟨cnew b (nx g (by simp) b hb).1 g (by simp) hb,(nx g (by simp) b hb).2⟩⟩
    ·simp only[e1 h' rfl,e2 _ rfl];exact⟨mh,fun b hb=>⟨cnew b (nx h' (by simp) b hb).1 h' (by simp) hb,(nx h' (by simp) b hb).2⟩⟩
    simp only[e1 j rfl,e2 _ rfl];exact⟨mj,fun b hb=>⟨cnew b (nx j (by simp) b hb).1 j (by simp) hb,(nx j (by simp) b hb).2⟩⟩
   krow:=by simpa[aS.asked] using pko
   kvc:=fun b hb=>by
    by_cases hl:b<w.heap.size
    ·rw[cold b hl];rcases nko b hb with h1|h1
     ·exact h.kvc b h1
     omega
    show(if b<w.heap.size then c b else _)=_
    rw[if_neg hl,if_neg (fun e=>(du b e).2.1 hb),if_neg (fun e=>(dos b e).1 hb),if_pos hb]
   rest:=hR.same h.rest up.size fun b hb hl=>⟨same b hl (by omega) (by omega) (by omega) (by omega) (by omega) (by omega),(cold b hl).trans hb⟩}
end
section
open Go.RowKit
variable {QT:Type} {R:World→Nat→List Nat→cX→QT→(Nat→Prop)→Prop}
theorem kI(hR:dT R){w:World}{c:Nat→Nat}{L:aC}{st:aS QT}(h:ar R w c L st){k:Nat}(hk:k<st.n)(ids:List Nat)(told:Told st.tr ids)(hx:∃m,m≤ids.length∧st.xss[k]'(by rw[h.xlen];exact hk)=ids.take m∧(st.fresh[k]'(by rw[h.flen];exact hk)=true∨m=ids.length))(hTl:st.tr.length≤1000000000000)(hil:ids.length≤10000000000)(hN:st.bk.length≤100000000000)(hKn:Calls Tryz.prog 28 #[.pointer (some ⟨st.rbs[k]'(by rw[h.llen];exact hk),0,none⟩)] w fun e w'=>∃p cap,e=.returned (.slice p ids.length cap)∧w'.ownsRow w.heap.size 68 3 (.slice p ids.length cap) ids.length (cR st.tr ids)∧Below w.heap.size w w'):Calls Tryz.prog 35 #[.pointer (some ⟨L.wb,0,none⟩),.int .i64 (k:Int)] w fun e w'=>e=.returned (.bool true)∧∃c' L',L'.wb=L.wb∧ar R w' c' L' (st.asked k ids)∧aG w c w' c':=by
 obtain⟨m,hm,hxm,hf⟩:=hx;have hkx:k<st.xss.length:=by rw[h.xlen];exact hk
 have hkf:k<st.fresh.length:=by rw[h.flen];exact hk
 have hkr:k<st.rbs.length:=by rw[h.llen];exact hk
 obtain⟨u,hu,hrow,huc⟩:=h.xrow k hkx;have hlm:(ids.take m).length=m:=by simp;omega
 rw[hxm,hlm]at hrow;obtain⟨n1,n2⟩:=h.npos;have ne:∀{a b:Nat} {x y:Nat},c a=x→c b=y→x≠y→a≠b:=fun ha hb hxy e=>hxy (by rw[←ha,←hb,e])
 have nv:∀{v:Value} {b x y:Nat},(∀a,v.ownBlock=some a→c a=x)→c b=y→x≠y→v.ownBlock≠some b:=fun hv hb hxy e=>hxy (by rw[←hv _ e,←hb])
 have nn:∀{v v':Value} {x y:Nat},(∀a,v.ownBlock=some a→c a=x)→(∀a,v'.ownBlock=some a→c a=y)→x≠y→∀b,v.ownBlock=some b→v'.ownBlock≠some b:=fun hv hv' hxy b e e'=>hxy (by rw[←hv _ e,←hv' _ e'])
 have hP:∀b,(c b=3∨c b=9)→b≠L.wb∧b≠L.kb∧b≠L.fb∧u.ownBlock≠some b:=fun b hb=>by
  refine⟨?_,?_,?_,?_⟩
  ·intro e;subst e;have:=h.wbc;omega
  ·intro e;subst e;have:=h.kbc;omega
  ·intro e;subst e;have:=h.fbc;omega
  intro e;have:=huc b e;omega
 cases hfv:st.fresh[k]
 ·have hmi:m=ids.length:=by
   rcases hf with hf|hf
   ·rw[hfv]at hf;cases hf
   exact hf
  have hFB:L.FB[k]?=some (.bool false):=by rw[h.fcell k hkf,hfv]
  refine(sC L.wb st.rbs[k] L.lb L.kb L.fb k (L.C st.n st.sp) L.KB L.FB _ _ _ L.tv L.osv L.kov u st.n L.capl st.n L.capk st.n L.capf st.bk.length m L.us (st.bk.map fun e=>.int .i64 e.2) st.tr ids (fun b=>c b=3∨c b=9) w
   h.wbk (by simp[aC.C]) (by simp[aC.C]) (by simp[aC.C]) (by simp[aC.C]) (by simp[aC.C]) (by simp[aC.C]) (by simp[aC.C]) hk hk hk (h.lcell k hkr) h.kbk hu hrow h.fbk hFB h.trace hTl hil h.orow h.krow hN told hmi (ne h.wbc h.kbc (by omega)) (ne h.wbc h.fbc (by omega)) (ne h.kbc h.fbc (by omega)) (nv huc h.wbc (by omega)) (nv huc h.kbc (by omega)) (nv huc h.fbc (by omega)) (nv h.ovc h.wbc (by omega)) (nv h.ovc h.kbc (by omega)) (nv h.ovc h.fbc (by omega)) (nn h.ovc huc (by omega)) (nv h.kvc h.wbc (by omega)) (nv h.kvc h.kbc (by omega)) (nv h.kvc h.fbc (by omega)) (nn h.kvc huc (by omega)) (nn h.ovc h.kvc (by omega)) hP hKn).mono fun e w' ⟨he,hp⟩=>⟨he,h.asked hR hk hu huc hp⟩
 have hFB:L.FB[k]?=some (.bool true):=by rw[h.fcell k hkf,hfv]
 refine(uC L.wb st.rbs[k] L.lb L.kb L.fb k (L.C st.n st.sp) L.KB L.FB _ _ _ L.tv L.osv L.kov u st.n L.capl st.n L.capk st.n L.capf st.bk.length m L.us (st.bk.map fun e=>.int .i64 e.2) st.tr ids (fun b=>c b=3∨c b=9) w
  h.wbk (by simp[aC.C]) (by simp[aC.C]) (by simp[aC.C]) (by simp[aC.C]) (by simp[aC.C]) (by simp[aC.C]) (by simp[aC.C]) hk hk hk (h.lcell k hkr) h.kbk hu hrow h.fbk hFB h.trace hTl hil h.orow h.krow hN told hm (ne h.wbc h.kbc (by omega)) (ne h.wbc h.fbc (by omega)) (ne h.kbc h.fbc (by omega)) (nv huc h.wbc (by omega)) (nv huc h.kbc (by omega)) (nv huc h.fbc (by omega)) (nv h.ovc h.wbc (by omega)) (nv h.ovc h.kbc (by omega)) (nv h.ovc h.fbc (by omega)) (nn h.ovc huc (by omega)) (nv h.kvc h.wbc (by omega)) (nv h.kvc h.kbc (by omega)) (nv h.kvc h.fbc (by omega)) (nn h.kvc huc (by omega)) (nn h.ovc h.kvc (by omega)) hP hKn).mono fun e w' ⟨he,hp⟩=>⟨he,h.asked hR hk hu huc hp⟩
end
section
open Go.RowKit Go.Proofs
variable {QT:Type} {R:World→Nat→List Nat→cX→QT→(Nat→Prop)→Prop}
theorem ar.below(hR:dT R){w w':World}{c:Nat→Nat}{L:aC}{st:aS QT}(h:ar R w c L st)(hb:Below w.heap.size w w'):ar R w' c L st:=by
 have ow:∀{e:TypeId} {size:Nat} {v:Value} {n:Nat} {xs:List Value},w.ownsRow 0 e size v n xs→w'.ownsRow 0 e size v n xs:=fun ho=>(an.of_below (S:=[]) hb).owns ho (by simp)
 have bl:∀{b:Nat} {o:Obj},w.heap[b]?=some o→w'.heap[b]?=some o:=fun {b o} ho=>(hb.block b (Cn.1 ho).1).trans ho
 exact
  {npos:=h.npos
   wbk:=bl h.wbk
   wbc:=h.wbc
   lbc:=h.lbc
   lcell:=fun i hi=>aa hb (h.lcell i hi)
   llen:=h.llen
   trow:=ow h.trow
   tvc:=h.tvc
   blen:=h.blen
   bef:=fun i hi hi'=>by
    obtain⟨a1,a2,a3⟩:=h.bef i hi hi';exact⟨a1.below hb,fun b hb'=>⟨(a2 b hb').1,CG (a2 b hb').2 hb.size⟩,a3⟩
   kbk:=bl h.kbk
   kbc:=h.kbc
   xlen:=h.xlen
   xrow:=fun i hi=>by
    obtain⟨u,a1,a2,a3⟩:=h.xrow i hi;exact⟨u,a1,ow a2,a3⟩
   slen:=h.slen
   srow:=ow h.srow
   svc:=h.svc
   fbk:=bl h.fbk
   fbc:=h.fbc
   flen:=h.flen
   fcell:=h.fcell
   orow:=ow h.orow
   ovc:=h.ovc
   marks:=fun i hi hi'=>by
    obtain⟨a1,a2⟩:=h.marks i hi hi';exact⟨a1.below hb,fun b hb'=>⟨(a2 b hb').1,CG (a2 b hb').2 hb.size⟩⟩
   krow:=ow h.krow
   kvc:=h.kvc
   rest:=hR.same h.rest hb.size fun b hF hl=>⟨hb.block b hl,hF⟩}
theorem aG.refl(w:World)(c:Nat→Nat):aG w c w c:=⟨rfl,rfl,rfl,Cl _,fun _ _=>rfl,fun _ _ _=>rfl⟩
theorem aG.trans{a b d:World}{c1 c2 c3:Nat→Nat}(h:aG a c1 b c2)(k:aG b c2 d c3):aG a c1 d c3:=⟨k.os.trans h.os,k.tape.trans h.tape,k.output.trans h.output,CC h.size k.size,fun i hi=>(k.col i (CG hi h.size)).trans (h.col i hi),fun i hi h0=>(k.zero i (CG hi h.size) ((h.col i hi).trans h0)).trans (h.zero i hi h0)⟩
theorem aG.below{a b:World}{c:Nat→Nat}(h:Below a.heap.size a b):aG a c b c:=⟨h.os,h.tape,h.output,h.size,fun _ _=>rfl,fun i hi _=>h.block i hi⟩
theorem ar.cell{w:World}{c:Nat→Nat}{L:aC}{st:aS QT}(h:ar R w c L st)(o:Nat):w.cell? ⟨L.wb,o,none⟩=(L.C st.n st.sp)[o]?:=cell_of_heap h.wbk o
end
section
open Go.RowKit Go.Proofs
variable {c:Nat→Nat} {k:Nat} {w:World}
variable {QT:Type} {R:World→Nat→List Nat→cX→QT→(Nat→Prop)→Prop}
attribute [local go_sem ↓] Go.wp_at_zero Go.wp_at_succ
def bz(R:World→Nat→List Nat→cX→QT→(Nat→Prop)→Prop)(w:World)(c:Nat→Nat)(L:aC)(st:aS QT)(k:Nat)(ids:List Nat):Prop:=Calls Tryz.prog 35 #[.pointer (some ⟨L.wb,0,none⟩),.int .i64 (k:Int)] w fun e w'=>e=.returned (.bool true)∧∃c' L',L'.wb=L.wb∧ar R w' c' L' (st.asked k ids)∧aG w c w' c'
theorem ar.reads{L:aC}{st:aS QT}(h:ar R w c L st)(hk:k<st.n):∃lb capl kb capk u,w.cell? ⟨L.wb,1,none⟩=some (.slice (some ⟨lb,0,none⟩) st.n capl)∧w.cell? ⟨L.wb,2,none⟩=some L.tv∧w.cell? ⟨L.wb,3,none⟩=some (.slice (some ⟨kb,0,none⟩) st.n capk)∧w.cell? ⟨lb,k,none⟩=some (.pointer (some ⟨st.rbs[k]'(by rw[h.llen];exact hk),0,none⟩))∧w.cell? ⟨kb,k,none⟩=some u∧aT w u (st.xss[k]'(by rw[h.xlen];exact hk)):=by
 obtain⟨u,hu,hrow,-⟩:=h.xrow k (by rw[h.xlen];exact hk);exact⟨L.lb,L.capl,L.kb,L.capk,u,by rw[h.cell];simp[aC.C],by rw[h.cell];simp[aC.C],by rw[h.cell];simp[aC.C],h.lcell k _,by rw[cell_of_heap h.kbk];exact hu,aT.Au hrow⟩
theorem rA(hR:dT R){L:aC}{st:aS QT}(h:ar R w c L st)(hk:k<st.n)(ids:List Nat)(hA:bz R w c L st k ids)(hids:∀y∈ids,y<st.tr.length)(hs:Small st.tr)(hne:∀x∈bu st.tr ids,x≠[])(hwl:∀x∈bu st.tr ids,x.length≤8)(hl:st.tr.length≤maxLen)(hil:ids.length≤100000000)(hV:∀w' c' L',ar R w' c' L' (st.asked k ids)→aG w c w' c'→Calls Tryz.prog 23 #[.pointer (some ⟨st.rbs[k]'(by rw[h.llen];exact hk),0,none⟩)] w' fun e w''=>∃s,e=.returned (.string s)∧gK st.tr ids s∧Below w'.heap.size w' w''):Calls Tryz.prog 33 #[.pointer (some ⟨L.wb,0,none⟩),.int .i64 (k:Int)] w fun e w'=>e=.returned (.bool true)∧∃c' L',L'.wb=L.wb∧ar R w' c' L' (st.asked k ids)∧aG w c w' c':=by
 have HA:=hid hA;have HV:=hid hV;have hkx:k<st.xss.length:=by rw[h.xlen];exact hk
 have hx:(st.asked k ids).xss[k]'(by simp[aS.asked];exact hkx)=ids:=by simp[aS.asked]
 have HRV:Hid (∀W tv u,bL W tv st.tr→aT W u ids→Calls Tryz.prog 64 #[tv,u] W fun e w'=>∃s,e=.returned (.string s)∧gK st.tr ids s∧Below W.heap.size W w'):=fun W tv u hT hK=>qe tv u st.tr ids W hT hK hids hs hne hwl hl hil
 have hk5:st.n≤5:=h.npos.2;generalize hrb:st.rbs[k]'(by rw[h.llen];exact hk)=rb at *;have HRB:Hid (st.rbs[k]'(by rw[h.llen];exact hk)=rb):=hrb;have HX:Hid ((st.asked k ids).xss[k]'(by simp[aS.asked];exact hkx)=ids):=hx;clear hA hV hx hrb hids hs hne hwl;generalize hwb:L.wb=wb at *;have k0:(0:Int)≤(k:Int):=by omega
 have k1:(k:Int)<(st.n:Int):=by omega
 unfold bz at HA;rw[hwb]at HA
 have HWB:Hid (L.wb=wb):=hwb;clear hwb;go_enter Tryz.func33,Tryz.ntmps33
 go_wp2_with (first
  |(go_at_call 35;refine HA.out.mono ?_;rintro e w1 ⟨rfl,c1,L1,hL1,hm1,hst1⟩;obtain⟨lb,capl,kb,capk,u,r1,r2,r3,rl,rk,rn⟩:=hm1.reads hk;rw[hL1]at r1 r2 r3;replace rl:w1.cell? ⟨lb,k,none⟩=some (.pointer (some ⟨rb,0,none⟩)):=rl.trans (by rw[←HRB.out];rfl))
  |(go_at_call 23;refine(HV.out _ c1 L1 hm1 hst1).mono ?_;rintro e w2 ⟨s,rfl,hsv,hb2⟩))
 have hm2:=hm1.below hR hb2;have b2:=aa hb2 r2;have b3:=aa hb2 r3;have bk:=aa hb2 rk;have hT2:bL w2.drew L1.tv st.tr:=(hm2.trace.at).below ((Ck _ w2).drew);have hN2:aT w2.drew u ids:=by
  have e:=HX.out;have:=rn.below hb2;rw[e]at this
  exact this.below ((Ck _ w2).drew)
 have HRW:Hid (Calls Tryz.prog 64 #[L1.tv,u] w2.drew fun e w'=>∃s,e=.returned (.string s)∧gK st.tr ids s∧Below w2.drew.heap.size w2.drew w'):=HRV.out _ _ _ hT2 hN2;have HM2:Hid (ar R w2 c1 L1 (st.asked k ids)):=hm2;have HSV:Hid (gK st.tr ids s):=hsv;have HST:Hid (aG w c w1 c1):=hst1;have HL1:Hid (L1.wb=wb):=hL1;clear hT2 hN2 hm1 hm2 hsv hst1 hL1 HRV HA HV r1 r2 r3 rl rk rn;generalize L1.tv=tv at *;have hsn:(st.asked k ids).n=st.n:=rfl;rw[hsn]at *
 clear hsn;go_region_held3 (fun w'=>w'.cell? ⟨wb,2,none⟩=some tv∧w'.cell? ⟨wb,3,none⟩=some (.slice (some ⟨kb,0,none⟩) st.n capk)∧w'.cell? ⟨kb,k,none⟩=some u) (first|exact⟨b2,b3,bk⟩|exact⟨aa hb3 b2,aa hb3 b3,aa hb3 bk⟩) (first|(go_at_call 64;refine HRW.out.mono ?_;rintro e w3 ⟨t,rfl,htv,hb3⟩))
 obtain rfl:s=t:=HSV.out.unique htv;go_wp2
 go_ret
 exact⟨rfl,c1,L1,HL1.out,HM2.out.below hR (((Ck _ w2).drew).trans hb3),HST.out.trans ((aG.below hb2).trans (aG.below (((Ck _ w2).drew).trans hb3)))⟩
end
section
open Go.RowKit Go.Proofs
variable {c:Nat→Nat} {k:Nat} {w:World}
variable {QT:Type} {R:World→Nat→List Nat→cX→QT→(Nat→Prop)→Prop}
attribute [local go_sem ↓] Go.wp_at_zero Go.wp_at_succ
theorem uq(hR:dT R){L:aC}{st:aS QT}(h:ar R w c L st)(hk:k<st.n)(ids:List Nat)(hA:bz R w c L st k ids)(s:ByteArray)(hs:s.size≤maxLen)(hr:aY s=none)(hD:∀w' c' L',ar R w' c' L' (st.asked k ids)→aG w c w' c'→Calls Tryz.prog 20 #[.pointer (some ⟨st.rbs[k]'(by rw[h.llen];exact hk),0,none⟩),.string s] w' fun e w''=>e=.returned (.int .i64 2)∧Below w'.heap.size w' w''):Calls Tryz.prog 16 #[.pointer (some ⟨L.wb,0,none⟩),.int .i64 (k:Int),.string s] w fun e w'=>e=.returned (.bool true)∧∃c' L',L'.wb=L.wb∧ar R w' c' L' (st.asked k ids)∧aG w c w' c':=by
 have HA:=hid hA;have HRD:Hid (∀W,Calls Tryz.prog 39 #[.string s] W fun e w'=>(∃(x y:ByteArray) (z:Int),e=.returned (.tuple #[.agg #[.string x,.string y,.int .i64 z],.bool false]))∧Below W.heap.size W w'):=fun W=>vA s W hs hr
 have HD:=hid hD;have hk5:st.n≤5:=h.npos.2;generalize hrb:st.rbs[k]'(by rw[h.llen];exact hk)=rb at *;have HRB:Hid (st.rbs[k]'(by rw[h.llen];exact hk)=rb):=hrb;clear hA hD hrb hs hr;generalize hwb:L.wb=wb at *;have k0:(0:Int)≤(k:Int):=by omega
 have k1:(k:Int)<(st.n:Int):=by omega
 unfold bz at HA;rw[hwb]at HA
 clear hwb;go_enter Tryz.func16,Tryz.ntmps16
 go_wp2_with (first
  |(go_at_call 35;refine HA.out.mono ?_;rintro e w1 ⟨rfl,c1,L1,hL1,hm1,hst1⟩)
  |(go_at_call 39;refine(HRD.out _).mono ?_;rintro e w2 ⟨⟨x,y,z,rfl⟩,hb2⟩;have hm3:=(hm1.below hR hb2).below hR ((Ck _ w2).alloc (Cl _) (.cells #[.string x,.string y,.int .i64 z] 85));have hst3:=(hst1.trans (aG.below hb2)).trans (aG.below ((Ck _ w2).alloc (Cl _) (.cells #[.string x,.string y,.int .i64 z] 85)));obtain⟨lb,capl,kb,capk,u,r1,r2,r3,rl,rk,rn⟩:=hm3.reads hk;rw[hL1]at r1 r2 r3;replace rl:=rl.trans (show some (Value.pointer (some ⟨_,0,none⟩))=some (.pointer (some ⟨rb,0,none⟩)) by rw[←HRB.out];rfl))
  |(go_at_call 20;refine(HD.out _ c1 L1 hm3 hst3).mono ?_;rintro e w4 ⟨rfl,hb4⟩))
 go_ret
 exact⟨rfl,c1,L1,hL1,hm3.below hR hb4,hst3.trans (aG.below hb4)⟩
def gE(tr:List Dn)(ids:List Nat)(cm:Cm):Bool:=(decide (cm.k=.listen) && decide (bw tr ids cm.word=0)) || (decide (cm.k=.finWait) && !hasB tr ids .established cm.word)
theorem ny(hR:dT R){L:aC}{st:aS QT}(h:ar R w c L st)(hk:k<st.n)(ids:List Nat)(hA:bz R w c L st k ids)(s:ByteArray)(hs:s.size≤maxLen)(cm:Cm)(hr:aY s=some cm)(hids:∀y∈ids,y<st.tr.length)(hsm:Small st.tr)(hl:st.tr.length≤maxLen)(hil:ids.length≤100000000)(hla:gE st.tr ids cm=true)(hD:∀w' c' L',ar R w' c' L' (st.asked k ids)→aG w c w' c'→Calls Tryz.prog 20 #[.pointer (some ⟨st.rbs[k]'(by rw[h.llen];exact hk),0,none⟩),.string s] w' fun e w''=>e=.returned (.int .i64 3)∧Below w'.heap.size w' w''):Calls Tryz.prog 16 #[.pointer (some ⟨L.wb,0,none⟩),.int .i64 (k:Int),.string s] w fun e w'=>e=.returned (.bool true)∧∃c' L',L'.wb=L.wb∧ar R w' c' L' (st.asked k ids)∧aG w c w' c':=by
 have HA:=hid hA;have HRD:Hid (∀W,Calls Tryz.prog 39 #[.string s] W fun e w'=>e=.returned (.tuple #[.agg #[.string cm.k.bs,.string cm.word,.int .i64 (cm.count:Int)],.bool true])∧Below W.heap.size W w'):=fun W=>ke s W hs hr
 have HD:=hid hD;have HNU:Hid (∀W tv u,bL W tv st.tr→aT W u ids→Calls Tryz.prog 40 #[tv,u,.string cm.word] W fun e w'=>e=.returned (.int .i64 (bw st.tr ids cm.word:Int))∧Below W.heap.size W w'):=fun W tv u hT hK=>gC tv u st.tr ids cm.word W hT hK hids hsm hl (by omega)
 have HHA:Hid (∀W tv u,bL W tv st.tr→aT W u ids→Calls Tryz.prog 41 #[tv,u,.string ⟨#[97,112,112,108,121]⟩,.string cm.word] W fun e w'=>e=.returned (.bool (hasB st.tr ids .established cm.word))∧Below W.heap.size W w'):=fun W tv u hT hK=>lE tv u st.tr ids .established cm.word W hT hK hids hl (by omega)
 have hkx:k<st.xss.length:=by rw[h.xlen];exact hk
 have HX:Hid ((st.asked k ids).xss[k]'(by simp[aS.asked];exact hkx)=ids):=by simp[Hid,aS.asked]
 have hk5:st.n≤5:=h.npos.2;generalize hrb:st.rbs[k]'(by rw[h.llen];exact hk)=rb at *;have HRB:Hid (st.rbs[k]'(by rw[h.llen];exact hk)=rb):=hrb;have HLA:=hid hla;clear hA hD hrb hs hr hids hsm hla;generalize hwb:L.wb=wb at *;have k0:(0:Int)≤(k:Int):=by omega
 have k1:(k:Int)<(st.n:Int):=by omega
 unfold bz at HA;rw[hwb]at HA
 clear hwb;obtain⟨kd,word,cnt⟩:=cm;simp only at HRD HNU HHA;go_enter Tryz.func16,Tryz.ntmps16
 go_wp2_with (first
  |(go_at_call 35;refine HA.out.mono ?_;rintro e w1 ⟨rfl,c1,L1,hL1,hm1,hst1⟩)
  |(go_at_call 39;refine(HRD.out _).mono ?_;rintro e w2 ⟨rfl,hb2⟩;have hm3:=(hm1.below hR hb2).below hR ((Ck _ w2).alloc (Cl _) (.cells #[.string kd.bs,.string word,.int .i64 (cnt:Int)] 85));have hst3:=(hst1.trans (aG.below hb2)).trans (aG.below ((Ck _ w2).alloc (Cl _) (.cells #[.string kd.bs,.string word,.int .i64 (cnt:Int)] 85)));obtain⟨lb,capl,kb,capk,u,r1,r2,r3,rl,rk,rn⟩:=hm3.reads hk;rw[hL1]at r1 r2 r3;replace rl:=rl.trans (show some (Value.pointer (some ⟨_,0,none⟩))=some (.pointer (some ⟨rb,0,none⟩)) by rw[←HRB.out];rfl))
  |(go_at_call 20;refine(HD.out _ c1 L1 hm3 hst3).mono ?_;rintro e w4 ⟨rfl,hb4⟩))
 have hm4:=hm3.below hR hb4;have hst4:=hst3.trans (aG.below hb4);have b2:=aa hb4 r2;have b3:=aa hb4 r3;have bk:=aa hb4 rk;have v0:w4.cell? ⟨w2.heap.size,0,none⟩=some (.string kd.bs):=aa hb4 (by simp);have v1:w4.cell? ⟨w2.heap.size,1,none⟩=some (.string word):=aa hb4 (by simp);have hT4:bL w4 L1.tv st.tr:=hm4.trace.at;have hN4:aT w4 u ids:=by
  have:=rn.below hb4;rwa[HX.out]at this
 have hsn:(st.asked k ids).n=st.n:=rfl;rw[hsn]at *
 clear hsn r1 r2 r3 rl rk rn hm1 hst1 hm3 hst3 HRD HD HA;have HM4:Hid (ar R w4 c1 L1 (st.asked k ids)):=hm4;have HST:Hid (aG w c w4 c1):=hst4;have HL1:Hid (L1.wb=wb):=hL1;have HNW:Hid (Calls Tryz.prog 40 #[L1.tv,u,.string word] w4.drew fun e w'=>e=.returned (.int .i64 (bw st.tr ids word:Int))∧Below w4.drew.heap.size w4.drew w'):=HNU.out _ _ _ (hT4.below ((Ck _ w4).drew)) (hN4.below ((Ck _ w4).drew));have HHW:Hid (∀W,Below w4.heap.size w4 W→Calls Tryz.prog 41 #[L1.tv,u,.string ⟨#[97,112,112,108,121]⟩,.string word] W fun e w'=>e=.returned (.bool (hasB st.tr ids .established word))∧Below W.heap.size W w'):=fun W hW=>HHA.out _ _ _ (hT4.below hW) (hN4.below hW)
 clear hm4 hst4 hL1 hT4 hN4 HNU HHA;generalize L1.tv=tv at *;have hnl:=gD st.tr ids word;go_region_held3 (fun w'=>w'.cell? ⟨wb,2,none⟩=some tv∧w'.cell? ⟨wb,3,none⟩=some (.slice (some ⟨kb,0,none⟩) st.n capk)∧w'.cell? ⟨kb,k,none⟩=some u∧w'.cell? ⟨w2.heap.size,1,none⟩=some (.string word)) (first|exact⟨b2,b3,bk,v1⟩|exact⟨aa hb5 b2,aa hb5 b3,aa hb5 bk,aa hb5 v1⟩) (first|(go_at_call 40;refine HNW.out.mono ?_;rintro e w5 ⟨rfl,hb5⟩))
 have hb45:Below w4.heap.size w4 w5:=((Ck _ w4).drew).trans hb5;have d2:=aa hb45 b2;have d3:=aa hb45 b3;have dk:=aa hb45 bk;have x0:=aa hb45 v0;have x1:=aa hb45 v1;have HHV:Hid (Calls Tryz.prog 41 #[tv,u,.string ⟨#[97,112,112,108,121]⟩,.string word] w5.drew fun e w'=>e=.returned (.bool (hasB st.tr ids .established word))∧Below w5.drew.heap.size w5.drew w'):=HHW.out _ hb45.drew;go_wp2_with fail
 go_region_held3 (fun w'=>w'.cell? ⟨wb,2,none⟩=some tv∧w'.cell? ⟨wb,3,none⟩=some (.slice (some ⟨kb,0,none⟩) st.n capk)∧w'.cell? ⟨kb,k,none⟩=some u∧w'.cell? ⟨w2.heap.size,1,none⟩=some (.string word)) (first|exact⟨d2,d3,dk,x1⟩|exact⟨aa hb6 d2,aa hb6 d3,aa hb6 dk,aa hb6 x1⟩) (first|(go_at_call 41;refine HHV.out.mono ?_;rintro e w6 ⟨rfl,hb6⟩))
 have hb56:Below w5.heap.size w5 w6:=((Ck _ w5).drew).trans hb6;have hb46:Below w4.heap.size w4 w6:=hb45.trans (hb56.mono hb45.size);have y0:=aa hb56 x0;have hlk:=HLA.out;simp only[gE,Bool.or_eq_true,Bool.and_eq_true,decide_eq_true_eq,Bool.not_eq_true']at hlk;generalize bw st.tr ids word=nn at *;generalize hasB st.tr ids .established word=hb at *;rcases hlk with⟨rfl,rfl⟩|⟨rfl,rfl⟩
 all_goals
  simp only[Kd.bs]at y0;go_wp2
  go_ret
  exact⟨rfl,c1,L1,HL1.out,HM4.out.below hR hb46,HST.out.trans (aG.below hb46)⟩
end
section
open Go.RowKit Go.Proofs
variable {c:Nat→Nat} {k:Nat} {w:World}
variable {QT:Type} {R:World→Nat→List Nat→cX→QT→(Nat→Prop)→Prop}
attribute [local go_sem ↓] Go.wp_at_zero Go.wp_at_succ
theorem ar.lists{L:aC}{st:aS QT}(h:ar R w c L st):tg w (.slice (some ⟨L.kb,0,none⟩) st.n L.capk) st.xss:=by
 refine⟨some ⟨L.kb,0,none⟩,L.capk,by rw[h.xlen],fun i xs hx=>?_⟩;obtain⟨hi,rfl⟩:=CT.1 hx;obtain⟨u,hu,hrow,-⟩:=h.xrow i hi;exact⟨L.kb,u,rfl,by rw[cell_of_heap h.kbk];exact hu,aT.Au hrow⟩
theorem ar.unknown{L:aC}{st:aS QT}(h:ar R w c L st)(k:Nat){a:Nat}(ha:a<st.xss.length)(hTl:st.tr.length≤1000000000000)(hal:st.xss[a].length≤maxLen):Calls Tryz.prog 42 #[.pointer (some ⟨L.wb,0,none⟩),.int .i64 (k:Int),.int .i64 (a:Int)] w fun e w'=>e=.returned (.int .i64 (gk st.tr k st.xss[a] st.tr.length:Int))∧w'=w:=pM L.wb L.tv _ st.tr st.xss k a w (by rw[h.cell];simp[aC.C]) (by rw[h.cell];simp[aC.C]) h.trace.at h.lists hTl (by have:=h.xlen;have:=h.npos;omega) ha hal
theorem ar.AR{L:aC}{st:aS QT}(h:ar R w c L st)(hk:k<st.since.length):∃g cap,w.cell? ⟨L.wb,5,none⟩=some (.slice (some ⟨g,0,none⟩) st.n cap)∧w.cell? ⟨g,k,none⟩=some (.int .i64 (st.since[k]:Int)):=by
 have hn:=h.npos;obtain⟨g,cap,hv,-,-⟩:=h.srow.form (by omega);refine⟨g,cap,by rw[h.cell,←hv];simp[aC.C],?_⟩;have:=h.srow.cells (g:=g) (by rw[hv];rfl) k (.int .i64 (st.since[k]:Int)) (by simp[ints,hk]);rwa[CS,CJ]at this
theorem sj(hR:dT R){L:aC}{st:aS QT}(h:ar R w c L st)(hk:k<st.n)(ids:List Nat)(hA:bz R w c L st k ids)(s:ByteArray)(hs:s.size≤maxLen)(cm:Cm)(hr:aY s=some cm)(hids:∀y∈ids,y<st.tr.length)(hsm:Small st.tr)(hl:st.tr.length≤maxLen)(hil:ids.length≤100000000)(hla:gE st.tr ids cm=false)(Q:Nat→aS QT→Prop)(idsO:Nat→List Nat)(hQ0:∀w' c' L',ar R w' c' L' (st.asked k ids)→aG w c w' c'→Q 0 (st.asked k ids))(hQn:∀i st',Q i st'→st'.n=st.n∧st'.tr=st.tr∧st'.since=st.since)(hQk:∀st',Q k st'→Q (k+1) st')(hQa:∀i st',i≠k→i<st.n→Q i st'→Q (i+1) (st'.asked i (idsO i))∧(idsO i).length≤maxLen)(hAO:∀i w' c' L' st',i≠k→i<st.n→ar R w' c' L' st'→Q i st'→aG w c w' c'→bz R w' c' L' st' i (idsO i))(hTl:st.tr.length≤1000000000000)(h8:8≤st.since[k]'(by rw[h.slen];exact hk))(h8l:∀x∈st.since,x≤1000000000000)(hD:∀w' c' L',ar R w' c' L' (st.asked k ids)→aG w c w' c'→Calls Tryz.prog 20 #[.pointer (some ⟨st.rbs[k]'(by rw[h.llen];exact hk),0,none⟩),.string s] w' fun e w''=>e=.returned (.int .i64 4)∧Below w'.heap.size w' w''):Calls Tryz.prog 16 #[.pointer (some ⟨L.wb,0,none⟩),.int .i64 (k:Int),.string s] w fun e w'=>e=.returned (.bool true)∧∃c' L' st',L'.wb=L.wb∧ar R w' c' L' st'∧Q st.n st'∧aG w c w' c':=by
 have HA:=hid hA;have HRD:Hid (∀W,Calls Tryz.prog 39 #[.string s] W fun e w'=>e=.returned (.tuple #[.agg #[.string cm.k.bs,.string cm.word,.int .i64 (cm.count:Int)],.bool true])∧Below W.heap.size W w'):=fun W=>ke s W hs hr
 have HD:=hid hD;have HNU:Hid (∀W tv u,bL W tv st.tr→aT W u ids→Calls Tryz.prog 40 #[tv,u,.string cm.word] W fun e w'=>e=.returned (.int .i64 (bw st.tr ids cm.word:Int))∧Below W.heap.size W w'):=fun W tv u hT hK=>gC tv u st.tr ids cm.word W hT hK hids hsm hl (by omega)
 have HHA:Hid (∀W tv u,bL W tv st.tr→aT W u ids→Calls Tryz.prog 41 #[tv,u,.string ⟨#[97,112,112,108,121]⟩,.string cm.word] W fun e w'=>e=.returned (.bool (hasB st.tr ids .established cm.word))∧Below W.heap.size W w'):=fun W tv u hT hK=>lE tv u st.tr ids .established cm.word W hT hK hids hl (by omega)
 have hkx:k<st.xss.length:=by rw[h.xlen];exact hk
 have HX:Hid ((st.asked k ids).xss[k]'(by simp[aS.asked];exact hkx)=ids):=by simp[Hid,aS.asked]
 have hk5:st.n≤5:=h.npos.2;have HSL:Hid (st.since.length=st.n):=h.slen;generalize hrb:st.rbs[k]'(by rw[h.llen];exact hk)=rb at *;have HRB:Hid (st.rbs[k]'(by rw[h.llen];exact hk)=rb):=hrb;have HLA:=hid hla;have HQ0:Hid _:=hQ0;have HQN:Hid _:=hQn;have HQK:Hid _:=hQk;have HQA:Hid _:=hQa;have HAO:Hid _:=hAO;have H8:=hid h8;have H8L:=hid h8l;clear hA hD hrb hs hr hids hsm hla hQ0 hQn hQk hQa hAO h8 h8l;generalize hwb:L.wb=wb at *;have k0:(0:Int)≤(k:Int):=by omega
 have k1:(k:Int)<(st.n:Int):=by omega
 unfold bz at HA;rw[hwb]at HA
 clear hwb;obtain⟨kd,word,cnt⟩:=cm;simp only at HRD HNU HHA;go_enter Tryz.func16,Tryz.ntmps16
 go_wp2_with (first
  |(go_at_call 35;refine HA.out.mono ?_;rintro e w1 ⟨rfl,c1,L1,hL1,hm1,hst1⟩)
  |(go_at_call 39;refine(HRD.out _).mono ?_;rintro e w2 ⟨rfl,hb2⟩;have hm3:=(hm1.below hR hb2).below hR ((Ck _ w2).alloc (Cl _) (.cells #[.string kd.bs,.string word,.int .i64 (cnt:Int)] 85));have hst3:=(hst1.trans (aG.below hb2)).trans (aG.below ((Ck _ w2).alloc (Cl _) (.cells #[.string kd.bs,.string word,.int .i64 (cnt:Int)] 85)));obtain⟨lb,capl,kb,capk,u,r1,r2,r3,rl,rk,rn⟩:=hm3.reads hk;rw[hL1]at r1 r2 r3;replace rl:=rl.trans (show some (Value.pointer (some ⟨_,0,none⟩))=some (.pointer (some ⟨rb,0,none⟩)) by rw[←HRB.out];rfl))
  |(go_at_call 20;refine(HD.out _ c1 L1 hm3 hst3).mono ?_;rintro e w4 ⟨rfl,hb4⟩))
 have hm4:=hm3.below hR hb4;have hst4:=hst3.trans (aG.below hb4);have b2:=aa hb4 r2;have b3:=aa hb4 r3;have bk:=aa hb4 rk;have v0:w4.cell? ⟨w2.heap.size,0,none⟩=some (.string kd.bs):=aa hb4 (by simp);have v1:w4.cell? ⟨w2.heap.size,1,none⟩=some (.string word):=aa hb4 (by simp);have hT4:bL w4 L1.tv st.tr:=hm4.trace.at;have hN4:aT w4 u ids:=by
  have:=rn.below hb4;rwa[HX.out]at this
 have hsn:(st.asked k ids).n=st.n:=rfl;rw[hsn]at *
 clear hsn r1 r2 r3 rl rk rn hm1 hst1 hm3 hst3 HRD HD HA;have HM4:Hid (ar R w4 c1 L1 (st.asked k ids)):=hm4;have HST:Hid (aG w c w4 c1):=hst4;have HL1:Hid (L1.wb=wb):=hL1;have HNW:Hid (Calls Tryz.prog 40 #[L1.tv,u,.string word] w4.drew fun e w'=>e=.returned (.int .i64 (bw st.tr ids word:Int))∧Below w4.drew.heap.size w4.drew w'):=HNU.out _ _ _ (hT4.below ((Ck _ w4).drew)) (hN4.below ((Ck _ w4).drew));have HHW:Hid (∀W,Below w4.heap.size w4 W→Calls Tryz.prog 41 #[L1.tv,u,.string ⟨#[97,112,112,108,121]⟩,.string word] W fun e w'=>e=.returned (.bool (hasB st.tr ids .established word))∧Below W.heap.size W w'):=fun W hW=>HHA.out _ _ _ (hT4.below hW) (hN4.below hW)
 clear hm4 hst4 hL1 hT4 hN4 HNU HHA;generalize L1.tv=tv at *;have hnl:=gD st.tr ids word;go_region_held3 (fun w'=>w'.cell? ⟨wb,2,none⟩=some tv∧w'.cell? ⟨wb,3,none⟩=some (.slice (some ⟨kb,0,none⟩) st.n capk)∧w'.cell? ⟨kb,k,none⟩=some u∧w'.cell? ⟨w2.heap.size,1,none⟩=some (.string word)) (first|exact⟨b2,b3,bk,v1⟩|exact⟨aa hb5 b2,aa hb5 b3,aa hb5 bk,aa hb5 v1⟩) (first|(go_at_call 40;refine HNW.out.mono ?_;rintro e w5 ⟨rfl,hb5⟩))
 have hb45:Below w4.heap.size w4 w5:=((Ck _ w4).drew).trans hb5;have d2:=aa hb45 b2;have d3:=aa hb45 b3;have dk:=aa hb45 bk;have x0:=aa hb45 v0;have x1:=aa hb45 v1;have HHV:Hid (Calls Tryz.prog 41 #[tv,u,.string ⟨#[97,112,112,108,121]⟩,.string word] w5.drew fun e w'=>e=.returned (.bool (hasB st.tr ids .established word))∧Below w5.drew.heap.size w5.drew w'):=HHW.out _ hb45.drew;go_wp2_with fail
 go_region_held3 (fun w'=>w'.cell? ⟨wb,2,none⟩=some tv∧w'.cell? ⟨wb,3,none⟩=some (.slice (some ⟨kb,0,none⟩) st.n capk)∧w'.cell? ⟨kb,k,none⟩=some u∧w'.cell? ⟨w2.heap.size,1,none⟩=some (.string word)) (first|exact⟨d2,d3,dk,x1⟩|exact⟨aa hb6 d2,aa hb6 d3,aa hb6 dk,aa hb6 x1⟩) (first|(go_at_call 41;refine HHV.out.mono ?_;rintro e w6 ⟨rfl,hb6⟩))
 have hb56:Below w5.heap.size w5 w6:=((Ck _ w5).drew).trans hb6;have hb46:Below w4.heap.size w4 w6:=hb45.trans (hb56.mono hb45.size);have y0:=aa hb56 x0;have hlk:=HLA.out;simp only[gE,Bool.or_eq_false_iff,Bool.and_eq_false_iff,decide_eq_false_iff_not,Bool.not_eq_false']at hlk;have HQ00:Hid (Q 0 (st.asked k ids)):=HQ0.out _ _ _ HM4.out HST.out;have hb46m:=HM4.out.below hR hb46;have hst6:=HST.out.trans (aG.below (c:=c1) hb46);generalize bw st.tr ids word=nn at *;generalize hasB st.tr ids .established word=hb at *;have hlr:(kd.bs.toList == [114,101,109,111,118,101])=false∨((nn:Int) == 0)=false:=by
  rcases hlk.1 with h1|h1
  ·exact .inl (ko h1)
  exact .inr (by rw[beq_eq_false_iff_ne];omega)
 have hlv:(kd.bs.toList == [114,101,118,111,107,101])=false∨hb=true:=by
  rcases hlk.2 with h1|h1
  ·exact .inl (km h1)
  exact .inr h1
 clear hlk;have HMM:Hid (ar R w6 c1 L1 (st.asked k ids)):=hb46m;have HSS:Hid (aG w c w6 c1):=hst6;clear hb46m hst6 b2 b3 bk v0 v1 d2 d3 dk x0 x1 HNW HHW HHV hb45 hb5 hb6 hb56 hb46 HM4 HST hb4 hb2;generalize kd.bs=kv at *;go_upto_region 10 with fail
 go_cut [85] from 70 (fun v wc=>v=.bool false∧wc=w6)
 case first =>
  rcases hlr with hlr|hlr
  ·rcases hlv with hlv|hlv
   ·go_wp2_with fail
    all_goals go_meet
    all_goals first|(case rel=>exact⟨rfl,rfl⟩)|skip
   subst hlv;go_wp2_with fail
   all_goals go_meet
   all_goals first|(case rel=>exact⟨rfl,rfl⟩)|skip
  rcases hlv with hlv|hlv
  ·go_wp2_with fail
   all_goals go_meet
   all_goals first|(case rel=>exact⟨rfl,rfl⟩)|skip
  subst hlv;go_wp2_with fail
  all_goals go_meet
  all_goals first|(case rel=>exact⟨rfl,rfl⟩)|skip
 case rest =>
  obtain⟨rfl,rfl⟩:=hcut;clear hlr hlv y0;go_wp2_with fail
  have hn5:st.n≤5:=hk5;go_loopw [13] (fun v wr=>∃(i:Nat) (c':Nat→Nat) (L':aC) (st':aS QT),i≤st.n∧v=.int .i64 i∧Hid (ar R wr c' L' st')∧L'.wb=wb∧Hid (Q i st')∧Hid (aG w c wr c')) (fun v _=>st.n-(intOf v).toNat)
  case atStart=>exact⟨0,c1,L1,_,Nat.zero_le _,rfl,HMM.out,HL1.out,HQ00.out,HSS.out⟩
  case round =>
   obtain⟨i,c',L',st',hi,rfl,hM,hL',hq,hS⟩:=hrel;obtain⟨hn',ht',hs'⟩:=HQN.out i st' hq.out;have r0:wr.cell? ⟨wb,0,none⟩=some (.int .i64 (st.n:Int)):=by rw[←hL',hM.out.cell,hn'];simp[aC.C]
   by_cases hlt:i<st.n
   ·by_cases hik:i=k
    ·subst hik;go_wp2_with fail
     go_roundw
     case rel =>
      have R1:i+1≤st.n∧Value.int .i64 ((i:Int)+1)=.int .i64 ((i+1:Nat):Int)∧Hid (ar R wr c' L' st')∧L'.wb=wb∧Hid (Q (i+1) st')∧Hid (aG w c wr c'):=⟨by omega,by go_num,hM,hL',HQK.out st' hq.out,hS⟩
      first
       |exact⟨i+1,c',L',st',R1⟩
       |((repeat apply Exists.intro);exact⟨⟨i+1,c',L',st',R1⟩,rfl⟩)
     case measure=>simp[intOf];omega
    obtain⟨hq1,hol⟩:=HQA.out i st' hik hlt hq.out;have HASK:Hid (bz R wr c' L' st' i (idsO i)):=HAO.out i wr c' L' st' hik hlt hM.out hq.out hS.out;unfold bz at HASK;rw[hL']at HASK
    have hix:i<(st'.asked i (idsO i)).xss.length:=by simp[aS.asked,hM.out.xlen,hn'];exact hlt
    have hxi:(st'.asked i (idsO i)).xss[i]=idsO i:=by simp[aS.asked]
    have HUN:Hid (∀W c7 L7,ar R W c7 L7 (st'.asked i (idsO i))→L7.wb=wb→∃un:Nat,un≤1000000000000∧Calls Tryz.prog 42 #[.pointer (some ⟨wb,0,none⟩),.int .i64 (k:Int),.int .i64 (i:Int)] W fun e w'=>e=.returned (.int .i64 (un:Int))∧w'=W):=fun W c7 L7 hm7 hL7=>by
     have htl:(st'.asked i (idsO i)).tr.length≤1000000000000:=by show st'.tr.length≤_;rw[ht'];exact hTl
     have:=hm7.unknown k hix htl (by rw[hxi];exact hol);rw[hL7]at this
     exact⟨_,CC (sK _ _ _ _) htl,this⟩
    have bik:((i:Int) == (k:Int))=false:=by rw[beq_eq_false_iff_ne];omega
    have HQ1:Hid (Q (i+1) (st'.asked i (idsO i))):=hq1;clear hq hM hix hxi hq1;go_wp2_with (first
     |(go_at_call 35;refine HASK.out.mono ?_;rintro e w7 ⟨rfl,c7,L7,hL7,hm7,hs7⟩;obtain⟨un,hun,HU⟩:=HUN.out w7 c7 L7 hm7 hL7)
     |(go_at_call 42;refine HU.mono ?_;rintro e w8 ⟨rfl,hw8⟩;have hw8':=hw8.symm;clear hw8;subst hw8'))
    all_goals
     go_roundw
     case rel =>
      have R1:i+1≤st.n∧Value.int .i64 ((i:Int)+1)=.int .i64 ((i+1:Nat):Int)∧Hid (ar R w7 c7 L7 (st'.asked i (idsO i)))∧L7.wb=wb∧Hid (Q (i+1) (st'.asked i (idsO i)))∧Hid (aG w c w7 c7):=⟨by omega,by go_num,hm7,hL7,HQ1,hS.out.trans hs7⟩
      first
       |exact⟨i+1,c7,L7,_,R1⟩
       |((repeat apply Exists.intro);exact⟨⟨i+1,c7,L7,_,R1⟩,rfl⟩)
     case measure=>simp[intOf];omega
   obtain rfl:i=st.n:=by omega
   have hks:k<st'.since.length:=by rw[hs',HSL.out];exact hk
   obtain⟨gs,caps,r5,rs⟩:=hM.out.AR hks;rw[hL',hn']at r5
   have h8:8≤st'.since[k]:=by have:=H8.out;simp only[hs'];exact this
   have h8l:st'.since[k]≤1000000000000:=by have:=H8L.out;rw[←hs']at this;exact this _ (List.getElem_mem hks)
   generalize st'.since[k]=sk at *;go_wp2_with fail
   go_ret
   exact⟨aF (by simp;omega),c',L',st',hL',hM.out,hq.out,hS.out⟩
end
section
open Go.RowKit Go.Proofs
variable {c c':Nat→Nat} {w:World}
variable {QT:Type} {R:World→Nat→List Nat→cX→QT→(Nat→Prop)→Prop}
theorem ar.BV(hR:dT R){L:aC}{st:aS QT}(h:ar R w c L st)(hc:∀b,b<w.heap.size→c' b=c b):ar R w c' L st:=by
 have clt:∀{e:TypeId} {size:Nat} {v:Value} {n:Nat} {xs:List Value} {col:Nat},w.ownsRow 0 e size v n xs→(∀b,v.ownBlock=some b→c b=col)→∀b,v.ownBlock=some b→c' b=col:=fun ho hcol b hb=>by
  rw[hc b (ho.lt b hb).2];exact hcol b hb
 exact
  {npos:=h.npos
   wbk:=h.wbk
   wbc:=(hc _ (Cn.1 h.wbk).1).trans h.wbc
   lbc:=by
    have h0:0<st.rbs.length:=by rw[h.llen];have:=h.npos;omega
    exact(hc _ (Cy w _ (h.lcell 0 h0))).trans h.lbc
   lcell:=h.lcell
   llen:=h.llen
   trow:=h.trow
   tvc:=clt h.trow h.tvc
   blen:=h.blen
   bef:=fun i hi hi'=>by
    obtain⟨a1,a2,a3⟩:=h.bef i hi hi';exact⟨a1,fun b hb=>⟨(hc b (a2 b hb).2).trans (a2 b hb).1,(a2 b hb).2⟩,a3⟩
   kbk:=h.kbk
   kbc:=(hc _ (Cn.1 h.kbk).1).trans h.kbc
   xlen:=h.xlen
   xrow:=fun i hi=>by
    obtain⟨u,a1,a2,a3⟩:=h.xrow i hi;exact⟨u,a1,a2,clt a2 a3⟩
   slen:=h.slen
   srow:=h.srow
   svc:=clt h.srow h.svc
   fbk:=h.fbk
   fbc:=(hc _ (Cn.1 h.fbk).1).trans h.fbc
   flen:=h.flen
   fcell:=h.fcell
   orow:=h.orow
   ovc:=clt h.orow h.ovc
   marks:=fun i hi hi'=>by
    obtain⟨a1,a2⟩:=h.marks i hi hi';exact⟨a1,fun b hb=>⟨(hc b (a2 b hb).2).trans (a2 b hb).1,(a2 b hb).2⟩⟩
   krow:=h.krow
   kvc:=clt h.krow h.kvc
   rest:=hR.same h.rest (Cl _) fun b hF hl=>⟨rfl,(hc b hl).trans hF⟩}
def cD(w:World)(c:Nat→Nat):Nat→Nat:=fun b=>if b<w.heap.size then c b else 0
theorem ar.Az(hR:dT R){L:aC}{st:aS QT}(h:ar R w c L st):ar R w (cD w c) L st:=h.BV hR fun _ hb=>if_pos hb
theorem aG.Az{w':World}(h:aG w c w' c'):aG w c w' (cD w' c'):=⟨h.os,h.tape,h.output,h.size,fun b hb=>(if_pos (CG hb h.size)).trans (h.col b hb),h.zero⟩
def aS.did(st:aS QT)(_k:Nat)(q:QT):aS QT:={st with q:=q}
theorem ar.did(hR:dT R){w w':World}{c:Nat→Nat}{L:aC}{st:aS QT}(h:ar R w c L st)(k:Nat){q:QT}(hos:w'.os=w.os)(htape:w'.tape=w.tape)(hout:w'.output=w.output)(hsz:w.heap.size≤w'.heap.size)(same:∀b,b<w.heap.size→c b≠20→w'.heap[b]?=w.heap[b]?)(hR':R w' st.n st.rbs L.rv q fun b=>(b<w.heap.size∧c b=20)∨w.heap.size≤b):∃c',ar R w' c' L (st.did k q)∧aG w c w' c':=by
 let c':Nat→Nat:=fun b=>if b<w.heap.size then c b else 20
 have cold:∀b,b<w.heap.size→c' b=c b:=fun b hb=>if_pos hb
 have hn:=h.npos;have owns:∀{e:TypeId} {size:Nat} {v:Value} {n:Nat} {xs:List Value} (col:Nat),w.ownsRow 0 e size v n xs→(∀b,v.ownBlock=some b→c b=col)→col≠20→w'.ownsRow 0 e size v n xs:=fun col ho hc a1=>by
  refine⟨ho.1,?_⟩;rcases ho.2 with hn|⟨g,cap,cur,rfl,hb,hg,rest⟩
  ·exact .inl hn
  have e:=hc g rfl;exact .inr ⟨g,cap,cur,rfl,hb,by rw[same g (Cn.1 hg).1 (by omega)];exact hg,rest⟩
 have clt:∀{e:TypeId} {size:Nat} {v:Value} {n:Nat} {xs:List Value} {col:Nat},w.ownsRow 0 e size v n xs→(∀b,v.ownBlock=some b→c b=col)→∀b,v.ownBlock=some b→c' b=col:=fun ho hc b hb=>by
  rw[cold b (ho.lt b hb).2];exact hc b hb
 have bl:∀{b:Nat} {o:Obj},w.heap[b]?=some o→c b≠20→w'.heap[b]?=some o:=fun {b o} ho hc=>(same b (Cn.1 ho).1 hc).trans ho
 have h0:0<st.rbs.length:=by rw[h.llen];omega
 have lbl:=Cy w _ (h.lcell 0 h0);refine⟨c',?_,⟨hos,htape,hout,hsz,cold,fun b hb e=>same b hb (by omega)⟩⟩;exact
  {npos:=h.npos
   wbk:=bl h.wbk (by rw[h.wbc];omega)
   wbc:=(cold _ (Cn.1 h.wbk).1).trans h.wbc
   lbc:=(cold _ lbl).trans h.lbc
   lcell:=fun i hi=>(CE (a:=⟨L.lb,i,none⟩) (same L.lb lbl (by rw[h.lbc];omega))).trans (h.lcell i hi)
   llen:=h.llen
   trow:=owns 3 h.trow h.tvc (by omega)
   tvc:=clt h.trow h.tvc
   blen:=h.blen
   bef:=fun i hi hi'=>by
    obtain⟨a1,a2,a3⟩:=h.bef i hi hi';refine⟨a1.same fun b hb hl=>?_,fun b hb=>?_,a3⟩
    ·have e:=(a2 b hb).1;exact same b hl (by omega)
    have e:=a2 b hb;exact⟨(cold b e.2).trans e.1,CG e.2 hsz⟩
   kbk:=bl h.kbk (by rw[h.kbc];omega)
   kbc:=(cold _ (Cn.1 h.kbk).1).trans h.kbc
   xlen:=h.xlen
   xrow:=fun i hi=>by
    obtain⟨u,a1,a2,a3⟩:=h.xrow i hi;have hin:i<st.n:=by rw[←h.xlen];exact hi
    exact⟨u,a1,owns (10+i) a2 a3 (by omega),clt a2 a3⟩
   slen:=h.slen
   srow:=owns 5 h.srow h.svc (by omega)
   svc:=clt h.srow h.svc
   fbk:=bl h.fbk (by rw[h.fbc];omega)
   fbc:=(cold _ (Cn.1 h.fbk).1).trans h.fbc
   flen:=h.flen
   fcell:=h.fcell
   orow:=owns 7 h.orow h.ovc (by omega)
   ovc:=clt h.orow h.ovc
   marks:=fun i hi hi'=>by
    obtain⟨a1,a2⟩:=h.marks i hi hi';refine⟨?_,fun b hb=>⟨(cold b (a2 b hb).2).trans (a2 b hb).1,CG (a2 b hb).2 hsz⟩⟩;obtain⟨p,cap,hv,hc⟩:=a1;refine⟨p,cap,hv,fun j hj=>?_⟩;obtain⟨g,hg,c0,c1,c2⟩:=hc j hj;have hl:=Cy w _ c0;have e:=(a2 g (by rw[hv,hg];rfl)).1;have hs:=same g hl (by omega);exact⟨g,hg,(CE (a:=⟨g,_,none⟩) hs).trans c0,(CE (a:=⟨g,_,none⟩) hs).trans c1,(CE (a:=⟨g,_,none⟩) hs).trans c2⟩
   krow:=owns 8 h.krow h.kvc (by omega)
   kvc:=clt h.krow h.kvc
   rest:=by
    refine hR.same hR' (Cl _) fun b hF hl=>⟨rfl,?_⟩
    rcases hF with⟨h1,h2⟩|h1
    ·exact(cold b h1).trans h2
    exact if_neg (by omega)}
def aS.done(st:aS QT)(k:Nat)(d:Dn):aS QT:={st with tr:=st.tr++[d],since:=st.since.set k (st.since[k]?.getD 0+1),fresh:=st.fresh.set k true}
theorem jZ(tr:List Dn)(bvs:List Value)(hl:bvs.length=tr.length)(d:Dn)(b:Value):bm (tr++[d]) (bvs++[b])=bm tr bvs++[.int .i64 (d.org:Int),.int .i64 (d.seq:Int),.string d.text,.string d.c.k.bs,.string d.c.word,.int .i64 (d.c.count:Int),b]:=by
 unfold bm;rw[List.zip_append hl.symm,List.flatMap_append];simp
theorem ar.done(hR:dT R){w w':World}{c:Nat→Nat}{L:aC}{st:aS QT}(h:ar R w c L st){k:Nat}(hk:k<st.n){d:Dn}{tv' bv:Value}(up:an [some L.wb,L.tv.ownBlock,L.sv.ownBlock,some L.fb] w w')(wbk':w'.heap[L.wb]?=some (.cells ((L.C st.n st.sp).setIfInBounds 2 tv') 82 (0,0)))(trow':w'.ownsRow 0 91 7 tv' (st.tr.length+1) (bm st.tr L.bvs++[.int .i64 (d.org:Int),.int .i64 (d.seq:Int),.string d.text,.string d.c.k.bs,.string d.c.word,.int .i64 (d.c.count:Int),bv]))(tvb:∀b,tv'.ownBlock=some b→L.tv.ownBlock=some b∨w.heap.size≤b)(bvn:aT w' bv d.bef)(bvb:∀b,bv.ownBlock=some b→w.heap.size≤b∧b<w'.heap.size∧tv'.ownBlock≠some b)(bvl:d.bef.length≤maxLen)(srow':w'.ownsRow 0 3 1 L.sv st.n (ints (st.since.set k (st.since[k]?.getD 0+1))))(fbk':w'.heap[L.fb]?=some (.cells (L.FB.setIfInBounds k (.bool true)) 4 (0,0))):∃c' L',L'.wb=L.wb∧ar R w' c' L' (st.done k d)∧aG w c w' c':=by
 have hn:=h.npos;let c':Nat→Nat:=fun b=>if b<w.heap.size then c b else if tv'.ownBlock=some b then 3 else if bv.ownBlock=some b then 9 else 0
 have cold:∀b,b<w.heap.size→c' b=c b:=fun b hb=>if_pos hb
 have same:∀b,b<w.heap.size→c b≠1→c b≠3→c b≠5→c b≠6→w'.heap[b]?=w.heap[b]?:=fun b hb a1 a2 a3 a4 =>
  up.block b hb fun hm=>by
   simp only[Co,Cq,or_false,Option.some.injEq]at hm;rcases hm with hm|hm|hm|hm
   ·exact a1 (by rw[hm];exact h.wbc)
   ·exact a2 (h.tvc b hm.symm)
   ·exact a3 (h.svc b hm.symm)
   exact a4 (by rw[hm];exact h.fbc)
 have owns:∀{e:TypeId} {size:Nat} {v:Value} {n:Nat} {xs:List Value} (col:Nat),w.ownsRow 0 e size v n xs→(∀b,v.ownBlock=some b→c b=col)→col≠1→col≠3→col≠5→col≠6→w'.ownsRow 0 e size v n xs:=fun col ho hc a1 a2 a3 a4=>by
  refine⟨ho.1,?_⟩;rcases ho.2 with hn|⟨g,cap,cur,rfl,hb,hg,rest⟩
  ·exact .inl hn
  have e:=hc g rfl;exact .inr ⟨g,cap,cur,rfl,hb,by rw[same g (Cn.1 hg).1 (by omega) (by omega) (by omega) (by omega)];exact hg,rest⟩
 have clt:∀{e:TypeId} {size:Nat} {v:Value} {n:Nat} {xs:List Value} {col:Nat},w.ownsRow 0 e size v n xs→(∀b,v.ownBlock=some b→c b=col)→∀b,v.ownBlock=some b→c' b=col:=fun ho hc b hb=>by
  rw[cold b (ho.lt b hb).2];exact hc b hb
 have wbl:=(Cn.1 h.wbk).1;have kbl:=(Cn.1 h.kbk).1;have fbl:=(Cn.1 h.fbk).1;have h0:0<st.rbs.length:=by rw[h.llen];omega
 have lbl:=Cy w _ (h.lcell 0 h0);refine⟨c',{L with tv:=tv',bvs:=L.bvs++[bv],FB:=L.FB.setIfInBounds k (.bool true)},rfl,?_,⟨up.os,up.tape,up.output,up.size,cold,fun b hb e=>same b hb (by omega) (by omega) (by omega) (by omega)⟩⟩;exact
  {npos:=h.npos
   wbk:=by
    have e:(L.C st.n st.sp).setIfInBounds 2 tv'=aC.C {L with tv:=tv',bvs:=L.bvs++[bv],FB:=L.FB.setIfInBounds k (.bool true)} st.n st.sp:=by
     simp[aC.C]
    rw[e]at wbk';exact wbk'
   wbc:=(cold _ wbl).trans h.wbc
   lbc:=(cold _ lbl).trans h.lbc
   lcell:=fun i hi=>(CE (a:=⟨L.lb,i,none⟩) (same L.lb lbl (by rw[h.lbc];omega) (by rw[h.lbc];omega) (by rw[h.lbc];omega) (by rw[h.lbc];omega))).trans (h.lcell i hi)
   llen:=h.llen
   trow:=by
    have e:=jZ st.tr L.bvs h.blen d bv;show w'.ownsRow 0 _ 7 tv' (st.tr++[d]).length (bm (st.tr++[d]) (L.bvs++[bv]))
    rw[e,List.length_append];exact trow'
   tvc:=fun b hb=>by
    by_cases hl:b<w.heap.size
    ·rw[cold b hl];rcases tvb b hb with h1|h1
     ·exact h.tvc b h1
     omega
    show(if b<w.heap.size then c b else _)=_
    rw[if_neg hl,if_pos hb]
   blen:=by simp[aS.done,h.blen]
   bef:=fun i hi hi'=>by
    by_cases hold:i<st.tr.length
    ·have hold':i<L.bvs.length:=by rw[h.blen];exact hold
     obtain⟨a1,a2,a3⟩:=h.bef i hold hold';have e1:(L.bvs++[bv])[i]=L.bvs[i]:=Df hold';have e2:(st.done k d).tr[i]=st.tr[i]:=by simp[aS.done,Df hold]
     simp only[e1,e2];refine⟨a1.same fun b hb hl=>?_,fun b hb=>?_,a3⟩
     ·have e:=(a2 b hb).1;exact same b hl (by omega) (by omega) (by omega) (by omega)
     have e:=a2 b hb;exact⟨(cold b e.2).trans e.1,CG e.2 up.size⟩
    have hi2:i<st.tr.length+1:=by simpa[aS.done] using hi
    obtain rfl:i=st.tr.length:=by omega
    have e1:(L.bvs++[bv])[st.tr.length]'hi'=bv:=by simp[←h.blen]
    have e2:(st.done k d).tr[st.tr.length]'hi=d:=by simp[aS.done]
    simp only[e1,e2];refine⟨bvn,fun b hb=>⟨?_,(bvb b hb).2.1⟩,bvl⟩;have hbb:=bvb b hb;show(if b<w.heap.size then c b else _)=_
    rw[if_neg (by omega),if_neg hbb.2.2,if_pos hb]
   kbk:=(same L.kb kbl (by rw[h.kbc];omega) (by rw[h.kbc];omega) (by rw[h.kbc];omega) (by rw[h.kbc];omega)).trans h.kbk
   kbc:=(cold _ kbl).trans h.kbc
   xlen:=h.xlen
   xrow:=fun i hi=>by
    obtain⟨u,a1,a2,a3⟩:=h.xrow i hi;exact⟨u,a1,owns (10+i) a2 a3 (by omega) (by omega) (by omega) (by omega),clt a2 a3⟩
   slen:=by simp[aS.done,h.slen]
   srow:=srow'
   svc:=clt h.srow h.svc
   fbk:=fbk'
   fbc:=(cold _ fbl).trans h.fbc
   flen:=by simp[aS.done,h.flen]
   fcell:=fun i hi=>by
    have hi2:i<st.fresh.length:=by simpa[aS.done] using hi
    have hf:=h.fcell i hi2;by_cases hik:i=k
    ·subst hik;have:i<L.FB.size:=(Cn.1 hf).1;simp[aS.done,Dq this]
    simp only;rw[CY (fun e=>hik e.symm),hf];simp[aS.done,D8 (fun e=>hik e.symm)]
   orow:=owns 7 h.orow h.ovc (by omega) (by omega) (by omega) (by omega)
   ovc:=clt h.orow h.ovc
   marks:=fun i hi hi'=>by
    obtain⟨a1,a2⟩:=h.marks i hi hi';refine⟨?_,fun b hb=>⟨(cold b (a2 b hb).2).trans (a2 b hb).1,CG (a2 b hb).2 up.size⟩⟩;obtain⟨p,cap,hv,hc⟩:=a1;refine⟨p,cap,hv,fun j hj=>?_⟩;obtain⟨g,hg,c0,c1,c2⟩:=hc j hj;have hl:=Cy w _ c0;have e:=(a2 g (by rw[hv,hg];rfl)).1;have hs:=same g hl (by omega) (by omega) (by omega) (by omega);exact⟨g,hg,(CE (a:=⟨g,_,none⟩) hs).trans c0,(CE (a:=⟨g,_,none⟩) hs).trans c1,(CE (a:=⟨g,_,none⟩) hs).trans c2⟩
   krow:=owns 8 h.krow h.kvc (by omega) (by omega) (by omega) (by omega)
   kvc:=clt h.krow h.kvc
   rest:=hR.same h.rest up.size fun b hF hl=>⟨same b hl (by omega) (by omega) (by omega) (by omega),(cold b hl).trans hF⟩}
end
end Go.Proofs.YtckmppkdpnhodaaGreatDoor
