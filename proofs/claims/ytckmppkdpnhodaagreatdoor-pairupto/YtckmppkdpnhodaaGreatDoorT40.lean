import Derived.Test.YtckmppkdpnhodaaGreatDoorT38
import Derived.Test.YtckmppkdpnhodaaGreatDoorT00
set_option maxRecDepth 100000
set_option maxHeartbeats 8000000
set_option linter.unusedVariables false
set_option linter.unusedSimpArgs false
open List renaming flatMap_append→DN,length_take→CI,take_append_drop→DB,take_of_length_le→CX,mem_cons→Co,not_mem_nil→Cq,mem_iff_getElem→DD,length_append→Cz,length_drop→Ds,getElem_append_left→Df,getElem_take→D9,mem_append→CP,mem_map→CO,getElem?_eq_getElem→Cr,replicate→CM,getElem?_set_self→D0,getElem?_set_ne→DZ
open Array renaming getElem?_eq_some_iff→Cn
open Nat renaming le_refl→Cl,le_trans→CC,zero_add→CJ,zero_le→CB
open Go.Value renaming ownBlock→Cp
open Go.Addr renaming add_mid→CS
open Go.World renaming ownsRow_nil→CW,news_of_block→CH
namespace Go.Proofs.YtckmppkdpnhodaaGreatDoor
section
open Go.RowKit Go.Proofs
variable {Ls:List Lt} {S':Nat→Sr} {W:World} {a b:List It} {air air':List (Nat×Nat×List UInt8)} {fv kv lv sv:Value} {i rb wb:Nat} {rbs:List Nat} {s:Sr} {sp:Bool} {x:En}
theorem pC{avs:List Value}(hl:avs.length=air.length){k:Nat}(hk:k<air.length):au (air.take k++air.drop (k+1)) (avs.take k++avs.drop (k+1))=(au air avs).take (k*3)++(au air avs).drop ((k+1)*3):=by
 have e:∀m,m≤air.length→au air avs=au (air.take m) (avs.take m)++au (air.drop m) (avs.drop m)∧(au (air.take m) (avs.take m)).length=m*3:=fun m hm=>by
  refine⟨?_,?_⟩
  ·unfold au;rw[←DN,←List.zip_append (by rw[CI,CI];omega),DB,DB]
  rw[fo _ _ (by rw[CI,CI];omega),CI,Nat.min_eq_left hm]
 obtain⟨a1,a2⟩:=e k (by omega);obtain⟨b1,b2⟩:=e (k+1) (by omega);have h1:(au air avs).take (k*3)=au (air.take k) (avs.take k):=by
  rw[a1,List.take_append_of_le_length (by omega),CX (by omega)]
 have h2:(au air avs).drop ((k+1)*3)=au (air.drop (k+1)) (avs.drop (k+1)):=by
  rw[b1,←b2,List.drop_left]
 rw[h1,h2];unfold au;rw[←DN,←List.zip_append (by rw[CI,CI];omega)]
section
variable {w:World} {LB NB:Nat} {c:Nat→Nat} {L:aC} {st:aS Qn} {k:Nat}
theorem sh(air:List (Nat×Nat×List UInt8))(avs:List Value)(h:∀v∈avs,v.oneCell'=true):∀u∈au air avs,u.oneCell'=true:=fun u hu=>by
 obtain⟨x,hx,hm⟩:=List.mem_flatMap.1 hu;simp only[Co,Cq,or_false]at hm;rcases hm with rfl|rfl|rfl
 ·rfl
 ·rfl
 exact h _ (List.of_mem_zip hx).2
theorem yM(h:ar (aB LB NB) w c L st)(hN:st.q.air.length≤1000000000)(hk:k<st.q.air.length):Calls Tryz.prog 71 #[.pointer (some ⟨L.wb,0,none⟩),.int .i64 (k:Int)] w fun e w'=>e=.returned (.tuple #[])∧∃c' rv',ar (aB LB NB) w' c' {L with rv:=rv'} {st with q:={st.q with air:=st.q.air.take k++st.q.air.drop (k+1)}}∧aG w c w' c'∧∀b,b<w.heap.size→b≠L.wb→w'.heap[b]?=w.heap[b]?:=by
 obtain⟨c2,d,avs,bus,fus,hI,hF⟩:=id h.rest;have wl:=(Cn.1 h.wbk).1;have hal:=hI.alen;have hone:∀v∈avs,v.oneCell'=true:=fun v hv=>by
  obtain⟨i,hi,rfl⟩:=DD.1 hv;obtain⟨p,cap,e⟩:=dN (hI.adat i hi (by omega)).1;rw[e]
  rfl
 refine(zC L.wb (L.C st.n st.sp) 82 L.rv.av st.q.air.length _ w h.wbk rfl rfl hI.arow (sh _ _ hone) (by omega) k hk).mono ?_;rintro e w' ⟨rfl,p,cap,hwb',hrow,up⟩
 have hel:(st.q.air.take k++st.q.air.drop (k+1)).length=st.q.air.length-1:=by
  rw[Cz,CI,Ds];omega
 have same:∀b,b<w.heap.size→c b≠1→w'.heap[b]?=w.heap[b]?:=fun b hb h1=>up.block b hb fun hm=>by
  simp only[Co,Cq,or_false,Option.some.injEq]at hm;rw[hm,h.wbc]at h1;omega
 refine⟨rfl,fun b=>if b<w.heap.size then c b else 20,{L.rv with av:=.slice p (st.q.air.length-1) cap},?_,⟨up.os,up.tape,up.output,up.size,fun b hb=>if_pos hb,fun b hb h0=>same b hb (by omega)⟩,fun b hb hne=>up.block b hb (by simpa using hne)⟩;refine ar.AQ h up.size (fun b hb _ _=>if_pos hb) (fun b hb _ _ h1=>same b hb h1) ?_ ?_
 ·rw[hwb'];simp[aC.C]
 have hs:∀b,b<w.heap.size→c2 b≠0→w'.heap[b]?=w.heap[b]?:=fun b hl hc=>same b hl (by have:c b=20:=hF b hl hc;omega)
 have hI2:=hI.same (w':=w') (c':=fun b=>if b<w.heap.size then c2 b else 2) up.size hs fun b hb=>if_pos hb
 refine⟨_,d,avs.take k++avs.drop (k+1),bus,fus,{hI2 with arow:=?_,avc:=?_,alen:=?_,adat:=?_},fun b hl hc=>?_⟩
 ·show w'.ownsRow 0 154 3 (.slice p (st.q.air.length-1) cap) (st.q.air.take k++st.q.air.drop (k+1)).length (au (st.q.air.take k++st.q.air.drop (k+1)) (avs.take k++avs.drop (k+1)))
  rw[hel,pC hal hk];exact iD hrow
 ·intro b hb;exact if_neg (by have:=(hrow.lt b hb).1;omega)
 ·show(avs.take k++avs.drop (k+1)).length=(st.q.air.take k++st.q.air.drop (k+1)).length
  rw[hel,Cz,CI,Ds];omega
 ·intro i h1 h2;simp only;by_cases hi:i<k
  ·have q:=hI2.adat i (by omega) (by omega);rw[Df (by rw[CI];omega),Df (by rw[CI];omega),D9,D9];exact q
  rw[Cz,CI,Ds]at h1;have q:=hI2.adat (i+1) (by omega) (by omega);rw[List.getElem_append_right (by rw[CI];omega),List.getElem_append_right (by rw[CI];omega),List.getElem_drop,List.getElem_drop];have e1:k+1+(i-(avs.take k).length)=i+1:=by rw[CI];omega
  have e2:k+1+(i-(st.q.air.take k).length)=i+1:=by rw[CI];omega
  simp only[e1,e2];exact q
 by_cases hb:b<w.heap.size
 ·simp only[hb,if_true]at hc ⊢;exact hF b hb hc
 simp only[hb,if_false]
end
def dK(n:Nat)(S:Nat→Sr)(air:List (Nat×Nat×List UInt8)):Prop:=∀a∈air,∃l,fB n S l∧lA a l
theorem dK.nil(n:Nat)(S:Nat→Sr):dK n S []:=fun a ha=>by cases ha
theorem dK.grow{n:Nat}{S:Nat→Sr}(h:dK n S air)(hok:ay n S)(hg:∀i,i<n→∃l,(S' i).log=(S i).log++l):dK n S' air:=fun a ha=>by
 obtain⟨l,h1,h2⟩:=h a ha;exact⟨l,hok.lt hg h1,h2⟩
theorem dK.sub{n:Nat}{S:Nat→Sr}(h:dK n S air)(hs:∀a∈air',a∈air):dK n S air':=fun a ha=>h a (hs a ha)
theorem dK.append{n:Nat}{S:Nat→Sr}(h:dK n S air)(h':dK n S air'):dK n S (air++air'):=fun a ha=>by
 rcases CP.1 ha with q|q
 ·exact h a q
 exact h' a q
theorem dK.both{n:Nat}{S:Nat→Sr}{new:List (Nat×Nat×List UInt8)}(hB:er lA new Ls)(hL:∀l∈Ls,fB n S l):dK n S new:=fun a ha=>by
 obtain⟨l,hl,hr⟩:=mI hB a ha;exact⟨l,hL l hl,hr⟩
theorem dK.gone{n:Nat}{S:Nat→Sr}(h:dK n S air)(k:Nat):dK n S (air.take k++air.drop (k+1)):=h.sub fun a ha=>by
 rcases CP.1 ha with q|q
 ·exact List.mem_of_mem_take q
 exact List.mem_of_mem_drop q
theorem cC.done{n:Nat}{S:Nat→Sr}{tr:List Dn}{k:Nat}(h:cC n S tr)(hok:ay n S)(hk:k<n)(hl:(S' k).log=(S k).log++[x])(hoth:∀i,i≠k→(S' i).log=(S i).log)(ho:x.org=k)(hs:x.seq=aq (S k).log k+1)(ha:x.ah=bC (S k).log):cC n S' (tr++[⟨k,x.seq,aQ x.c,x.c,aR tr (S k).log⟩]):=by
 obtain⟨tr',htr⟩:∃t:List Dn,t=tr++[⟨k,x.seq,aQ x.c,x.c,aR tr (S k).log⟩]:=⟨_,rfl⟩
 rw[←htr];have hlf:=(hok.one k hk).log;have fresh:∀p (hp:p<tr.length),tr[p].org=k→tr[p].seq=x.seq→False:=fun p hp e1 e2=>by
  obtain⟨-,y,hy,h1,h2⟩:=h.own p hp;rw[e1]at hy h1
  have:=(hlf.place hy).2.1;rw[h1]at this
  omega
 have old:∀{p:Nat} (hp:p<tr.length) (hp':p<tr'.length),tr'[p]=tr[p]:=fun hp _=>by
  simp only[htr];exact Df hp
 have new:∀(hp':tr.length<tr'.length),tr'[tr.length]=⟨k,x.seq,aQ x.c,x.c,aR tr (S k).log⟩:=fun _=>by simp[htr]
 have len:tr'.length=tr.length+1:=by simp[htr]
 have hasOld:∀j,j<n→∀y∈(S j).log,∃p,∃hp:p<tr'.length,tr'[p].org=y.org∧tr'[p].seq=y.seq∧tr'[p].text=aQ y.c∧tr'[p].c=y.c∧∀z,z∈tr'[p].bef↔∃hz:z<tr'.length,tr'[z].seq≤y.ah.get tr'[z].org:=fun j hj y hy=>by
  obtain⟨p,hp,a1,a2,a3,a4,a5⟩:=h.has j hj y hy;refine⟨p,by omega,by rw[old hp];exact a1,by rw[old hp];exact a2,by rw[old hp];exact a3,by rw[old hp];exact a4,fun z=>?_⟩;rw[old hp,a5 z]
  constructor
  ·rintro ⟨hz,q⟩
   exact⟨by omega,by rw[old hz];exact q⟩
  rintro ⟨hz,q⟩
  by_cases e:z<tr.length
  ·rw[old e]at q;exact⟨e,q⟩
  obtain rfl:z=tr.length:=by omega
  rw[new]at q;simp only at q;obtain⟨pre,post,hsp⟩:=List.append_of_mem hy;have hlj:=(hok.one j hj).log;rw[hsp]at hlj
  have h1:=hlj.split.1.2.1 k;have h2:=hok.AW hk hj;rw[hsp,bO]at h2
  omega
 refine⟨fun i j hi hj e1 e2=>?_,fun j hj y hy=>?_,fun p hp=>?_⟩
 ·by_cases ei:i<tr.length
  ·by_cases ej:j<tr.length
   ·rw[old ei,old ej]at e1 e2;exact h.uniq i j ei ej e1 e2
   obtain rfl:j=tr.length:=by omega
   rw[old ei,new]at e1 e2;exact(fresh i ei e1 e2).elim
  obtain rfl:i=tr.length:=by omega
  by_cases ej:j<tr.length
  ·rw[old ej,new]at e1 e2;exact(fresh j ej e1.symm e2.symm).elim
  omega
 ·by_cases e:j=k
  ·subst e;rw[hl]at hy
   rcases CP.1 hy with hy|hy
   ·exact hasOld j hj y hy
   simp only[Co,Cq,or_false]at hy;subst hy;refine⟨tr.length,by omega,by rw[new];exact ho.symm,by rw[new],by rw[new],by rw[new],fun z=>?_⟩;rw[new,ha];simp only[bD]
   constructor
   ·intro hz;obtain⟨u,hu,rfl⟩:=CO.1 hz;obtain⟨hul,b1,b2,-⟩:=h.at hk hu;refine⟨by omega,?_⟩;rw[old hul,b1,b2];exact(hlf.place hu).2.1
   rintro ⟨hz,q⟩
   by_cases ez:z<tr.length
   ·rw[old ez]at q;obtain⟨hzo,u,hu,b1,b2⟩:=h.own z ez;have h1:=((hok.one _ hzo).log.place hu).1;obtain⟨v,hv,c1,c2⟩:=hlf.the (o:=tr[z].org) (s:=tr[z].seq) (by omega) q;exact CO.2 ⟨v,hv,h.AK ez c1.symm c2.symm⟩
   obtain rfl:z=tr.length:=by omega
   rw[new]at q;simp only at q;omega
  rw[hoth j e]at hy;exact hasOld j hj y hy
 by_cases e:p<tr.length
 ·rw[old e];obtain⟨h1,u,hu,h2⟩:=h.own p e;refine⟨h1,u,?_,h2⟩;by_cases ek:tr[p].org=k
  ·rw[ek]at hu ⊢;rw[hl];exact List.mem_append_left _ hu
  rw[hoth _ ek];exact hu
 obtain rfl:p=tr.length:=by omega
 rw[new];exact⟨hk,x,by rw[hl];simp,ho,rfl⟩
theorem tP(h:∀j,aX a j≤aX b j):bj a≤bj b:=by
 have:=h 0;have:=h 1;have:=h 2;have:=h 3;have:=h 4;unfold bj;omega
theorem lX(h:∀j,(bI a j).Perm (bI b j)):bj a=bj b:=by
 have e:∀j,aX a j=aX b j:=fun j=>by rw[←bM,←bM,(h j).length_eq]
 unfold bj;rw[e,e,e,e,e]
theorem rO(s:Sr)(l:Lt):bj (dY s l).its≤bj s.its:=tP fun j=>jS _ _ _ _
theorem fX(i:Nat):∀(D:List Lt) (S:Nat→Sr),bj (aL S D i).its≤bj (S i).its
 |[],_=>Cl _
 |l::D,S=>by
  rw[dB];refine CC (fX i D _) ?_;by_cases e:i=l.dst
  ·subst e;rw[aD];exact rO _ _
  rw[az _ _ e];exact Cl _
theorem nD.open{n:Nat}{S S3:Nat→Sr}(h:nD n S S3)(hi:i<n):bj (S3 i).its≤bj (S i).its:=by
 obtain⟨S2,Ls,D,ht,-,-,rfl⟩:=h;refine CC (fX i D S2) ?_;rw[lX (ht.its i hi)];exact Cl _
theorem dU.open{n:Nat}{s':Sr}(h:dU n i s s' Ls):bj s'.its=bj s.its:=lX fun j=>by
 have:=gA h.its j;rwa[fR]at this
section
variable {n:Nat} {S:Nat→Sr} {tr:List Dn} {k:Nat}
theorem tc{p:Nat}(hp:p<tr.length):dq tr p=tr[p]:=by
 unfold dq;rw[Cr hp]
 rfl
theorem nW(h:cC n S tr)(hok:ay n S)(hk:k<n):(aR tr (bT k (S k).log)).Perm (own tr k):=by
 refine(List.perm_ext_iff_of_nodup ?_ (qq tr k tr.length)).2 fun p=>?_
 ·have hs:(aR tr (bT k (S k).log)).Sublist (aR tr (S k).log):=by
   unfold aR bT;exact List.filter_sublist.map _
  exact(h.told hok hk).nodup.sublist hs
 rw[tR]
 constructor
 ·intro hp;obtain⟨x,hx,rfl⟩:=CO.1 hp;obtain⟨hxl,hxo⟩:=dR.1 hx;obtain⟨hl,h1,-⟩:=h.at hk hxl;exact⟨hl,by rw[tc hl,h1];exact hxo⟩
 rintro ⟨hp,ho⟩
 rw[tc hp]at ho;obtain⟨-,x,hx,h1,h2⟩:=h.own p hp;rw[ho]at hx h1
 exact CO.2 ⟨x,dR.2 ⟨hx,h1⟩,h.AK hp (by rw[ho,h1]) h2.symm⟩
theorem vG(h:cC n S tr)(hok:ay n S)(hk:k<n):(own tr k).length=aq (S k).log k:=by
 rw[←(nW h hok hk).length_eq,cB,bZ]
theorem xx(h:cC n S tr)(hok:ay n S)(hk:k<n)(hi:i<n)(hx:x∈(S k).log)(ho:x.org=k):mV tr x∈aR tr (S i).log↔x.seq≤aq (S i).log k:=by
 obtain⟨hl,h1,h2,-⟩:=h.at hk hx;have hli:=(hok.one i hi).log
 constructor
 ·intro hm;obtain⟨y,hy,e⟩:=CO.1 hm;obtain⟨hl2,g1,g2,-⟩:=h.at hi hy;have e1:y.org=k:=by
   rw[←ho,←h1,←g1];simp only[e]
  have e2:y.seq=x.seq:=by
   rw[←h2,←g2];simp only[e]
  have:=(hli.place hy).2.1;rw[e1,e2]at this
  exact this
 intro hle;obtain⟨y,hy,g1,g2⟩:=hli.the (o:=k) (s:=x.seq) ((hok.one k hk).log.place hx).1 hle;exact CO.2 ⟨y,hy,h.AK hl (by rw[h1,ho,g1]) (by rw[h2,g2])⟩
theorem zU(h:cC n S tr)(hok:ay n S)(hk:k<n)(hi:i<n):gk tr k (aR tr (S i).log) tr.length=aq (S k).log k-aq (S i).log k:=by
 have e1:gk tr k (aR tr (S i).log) tr.length=((own tr k).filter fun p=>!iI (aR tr (S i).log) p).length:=by
  unfold gk own fU;rw[List.filter_filter];congr 1
  refine List.filter_congr fun p _=>?_
  rw[Bool.and_comm]
  rfl
 rw[e1,←((nW h hok hk).filter _).length_eq];unfold aR;rw[List.filter_map,List.length_map];have e2:(bT k (S k).log).filter ((fun p=>!iI (List.map (mV tr) (S i).log) p) ∘ mV tr)=((bT k (S k).log).drop 0).filter (fun x=>decide (aq (S i).log k<x.seq)):=by
  rw[List.drop_zero];refine List.filter_congr fun x hx=>?_
  obtain⟨hxl,hxo⟩:=dR.1 hx;have:=xx h hok hk hi hxl hxo;unfold aR at this;simp only[Function.comp];unfold iI;by_cases hc:x.seq≤aq (S i).log k
  ·rw[decide_eq_true (this.2 hc),decide_eq_false (by omega)]
   rfl
  rw[decide_eq_false (fun q=>hc (this.1 q)),decide_eq_true (by omega)]
  rfl
 rw[e2,gM (hok.one k hk).log,Ds,bZ,Nat.zero_max]
theorem Ai(h:cC n S tr)(hok:ay n S)(hk:k<n)(hi:i<n)(hne:i≠k)(ho:bj (S k).its<8):gk tr k (aR tr (S i).log) tr.length<8:=by
 rw[zU h hok hk hi];obtain⟨a,ha,hp⟩:=hok.wait k hk i hi hne;have h1:=hp.length_eq;rw[bM,Ds,bZ]at h1
 have h2:=qu ho i;omega
end
structure cS(st:aS Qn)(u:Nat):Prop where
 ok:mM st
 tot:st.tr.length=bn st.n st.q.S
 air:dK st.n st.q.S st.q.air
 now:∀k,k<st.n→(st.q.S k).now≤100*u
 trl:st.tr.length≤u
 bk:st.bk.length≤2000*u
 bb:st.q.bb.length≤60000*u
 bf:st.q.bf.length≤1000*u
 airl:st.q.air.length≤100*u
 room:∀k,k<st.n→∀m,st.since[k]?=some m→bj (st.q.S k).its≤m∧m≤u
theorem cS.ask{st st':aS Qn}{u d:Nat}(h:cS st u)(k:gz st st' d)(hd:d≤2000):cS st' (u+1):=by
 have e:=k.q;have en:=k.n;have et:=k.tr;refine⟨k.ok,by rw[et,en,e];exact h.tot,by rw[en,e];exact h.air,fun i hi=>?_,by rw[et];have:=h.trl;omega,by rw[k.bk];have:=h.bk;omega,by rw[e];have:=h.bb;omega,by rw[e];have:=h.bf;omega,by rw[e];have:=h.airl;omega,fun i hi m hm=>?_⟩
 ·rw[e];have:=h.now i (by omega);omega
 rw[k.since]at hm;rw[e];have:=h.room i (by omega) m hm;omega
theorem cS.grow{st:aS Qn}{u:Nat}{S':Nat→Sr}{air:List (Nat×Nat×List UInt8)}{bb:List (Nat×Nat)}{bf:List (Nat×Int)}{fr:List Bool}(h:cS st u)(hfl:st.fresh.length=st.n)(hok:ay st.n S')(hown:∀i,i<st.n→bT i (S' i).log=bT i (st.q.S i).log)(hg:∀j,j<st.n→∃l,(S' j).log=(st.q.S j).log++l)(hfr:kK st.n st.fresh st.q.S fr S')(hnow:∀k,k<st.n→(S' k).now≤(st.q.S k).now+100)(hop:∀k,k<st.n→bj (S' k).its≤bj (st.q.S k).its)(hair:dK st.n S' air)(hal:air.length≤st.q.air.length+100)(hbb:bb.length≤st.q.bb.length+60000)(hbf:bf.length≤st.q.bf.length+1000):cS {st with q:=⟨S',air,bb,bf⟩,fresh:=fr} (u+1):=by
 refine⟨h.ok.grow hfl hok hown hg hfr,?_,hair,fun k hk=>?_,?_,?_,?_,?_,?_,fun k hk m hm=>?_⟩
 ·show st.tr.length=bn st.n S'
  rw[kN hown];exact h.tot
 ·have h1:=hnow k hk;have h2:=h.now k hk;show(S' k).now≤_
  omega
 ·have:=h.trl;show st.tr.length≤_
  omega
 ·have:=h.bk;show st.bk.length≤_
  omega
 ·have:=h.bb;show bb.length≤_
  omega
 ·have:=h.bf;show bf.length≤_
  omega
 ·have:=h.airl;show air.length≤_
  omega
 have h1:=h.room k hk m hm;have h2:=hop k hk;show bj (S' k).its≤m∧_
 omega
def gi(LB NB:Nat)(w:World)(c:Nat→Nat)(L:aC)(st:aS Qn)(u:Nat)(w':World):Prop:=∃c' L' st',L'.wb=L.wb∧ar (aB LB NB) w' c' L' st'∧aG w c w' c'∧cS st' u∧st'.n=st.n∧st'.sp=st.sp
section
variable {w0 w:World} {LB NB:Nat} {c:Nat→Nat} {L:aC} {st:aS Qn} {k u:Nat}
theorem ar.AD(h:ar (aB LB NB) w c L st):ay st.n st.q.S:=by
 obtain⟨c2,d,avs,bus,fus,hI,hF⟩:=h.rest;exact hI.ok
theorem ar.Bj(h:ar (aB LB NB) w c L st)(hw:mM st)(hk:k<st.n):gz st (st.asked k (aR st.tr (st.q.S k).log)) 4:=by
 have hlb:(st.q.S k).log.length≤10000000000:=by
  obtain⟨c2,d,avs,bus,fus,hI,hF⟩:=h.rest;have:=hI.fit.log hI.ok hk;omega
 exact⟨rfl,rfl,rfl,rfl,rfl,rfl,by simp[aS.asked],hw.asked h.xlen h.flen hk hlb⟩
theorem Ak(h:ar (aB LB NB) w c L st)(ho:bN w0 c w)(hg:bH w0)(hp:cS st u)(hu:u≤1100000)(hk:k<st.n):Calls Tryz.prog 35 #[.pointer (some ⟨L.wb,0,none⟩),.int .i64 (k:Int)] w fun e w'=>e=.returned (.bool true)∧gi LB NB w c L st (u+1) w':=by
 have h1:=hp.trl;have h2:=hp.bk;refine(ix h ho hg hp.ok hk (by omega) (by omega)).mono ?_;rintro e w' ⟨rfl,c',L',hwb,hM,hst⟩
 exact⟨rfl,c',L',_,hwb,hM,hst,hp.ask (h.Bj hp.ok hk) (by omega),rfl,rfl⟩
theorem cS.log(hp:cS st u)(h:ar (aB LB NB) w c L st)(hk:k<st.n):(st.q.S k).log.length≤u:=by
 have h1:=h.AD.AN hk;have h2:=hp.tot;have h3:=hp.trl;omega
theorem xP(h:ar (aB LB NB) w c L st)(ho:bN w0 c w)(hg:bH w0)(hp:cS st u)(hu:u≤1100000)(hk:k<st.n):Calls Tryz.prog 33 #[.pointer (some ⟨L.wb,0,none⟩),.int .i64 (k:Int)] w fun e w'=>e=.returned (.bool true)∧gi LB NB w c L st (u+1) w':=by
 have h1:=hp.trl;have h2:=hp.bk;have h3:=hp.log h hk;refine(uV h ho hg hp.ok hk (by omega) (by omega) (by omega)).mono ?_;rintro e w' ⟨rfl,c',L',hwb,hM,hst⟩
 exact⟨rfl,c',L',_,hwb,hM,hst,hp.ask (h.Bj hp.ok hk) (by omega),rfl,rfl⟩
theorem nH{S:Nat→Sr}(hl:s.log=(S i).log)(k:Nat):(bR S i s k).log=(S k).log:=by
 by_cases e:k=i
 ·subst e;rw[aD,hl]
 rw[az _ _ e]
theorem yg(h:ar (aB LB NB) w c L st)(ho:bN w0 c w)(hp:cS st u)(hu:u≤1100000)(hnb:200000000≤NB)(hk:k<st.n)(hrb:st.rbs[k]?=some rb):Calls Tryz.prog 25 #[.pointer (some ⟨rb,0,none⟩)] w fun e w'=>e=.returned (.tuple #[])∧gi LB NB w c L st (u+1) w':=by
 have hn:=hp.now k hk;refine(xQ h ho hk hrb (by omega)).mono ?_;rintro e w' ⟨rfl,c',hM,hst⟩
 have hlg:=nH (S:=st.q.S) (i:=k) (s:=eC (st.q.S k)) rfl;refine⟨rfl,c',L,_,rfl,hM,hst,?_,rfl,rfl⟩;refine hp.grow (S':=bR st.q.S k (eC (st.q.S k))) (air:=st.q.air) (bb:=st.q.bb) (bf:=st.q.bf) (fr:=st.fresh) h.flen (h.AD.BE k) (fun i hi=>by rw[hlg]) (fun j hj=>⟨[],by rw[hlg];simp⟩) (fun i hi hf=>⟨hf,hlg i⟩) (fun i hi=>?_) (fun i hi=>?_) (hp.air.grow h.AD fun j hj=>⟨[],by rw[hlg];simp⟩) (by omega) (by omega) (by omega)
 ·by_cases e:i=k
  ·subst e;rw[aD];show(st.q.S i).now+1≤_
   omega
  rw[az _ _ e];omega
 by_cases e:i=k
 ·subst e;rw[aD];exact Cl _
 rw[az _ _ e];exact Cl _
theorem yi(h:ar (aB LB NB) w c L st)(ho:bN w0 c w)(hg:bH w0)(hp:cS st u)(hu:u≤1100000)(hk:k<st.n):Calls Tryz.prog 36 #[.pointer (some ⟨L.wb,0,none⟩),.int .i64 (k:Int)] w fun e w'=>e=.returned (.bool true)∧gi LB NB w c L st (u+1) w':=by
 have b1:=hp.bb;have b2:=hp.bf;have b3:=hp.airl;refine(uZ h ho hg hk (by omega) (by omega) (by omega)).mono ?_;rintro e w' ⟨rfl,fv,os,Ls,s',w1,hF,c',rv',bb',bf',hbb,hbf,hM,hst⟩
 have hT:=hF.tos;have hlg:=nH (S:=st.q.S) (i:=k) (s:=s') hT.log;have hol:=hF.len;have hok:=h.AD;refine⟨rfl,c',{L with rv:=rv'},_,rfl,hM,hst,?_,rfl,rfl⟩;refine hp.grow (S':=bR st.q.S k s') (fr:=st.fresh) h.flen (hok.AV hk hT) (fun i hi=>by rw[hlg]) (fun j hj=>⟨[],by rw[hlg];simp⟩) (fun i hi hf=>⟨hf,hlg i⟩) (fun i hi=>?_) (fun i hi=>?_) ?_ ?_ (by omega) (by omega)
 ·by_cases e:i=k
  ·subst e;rw[aD,hT.now];omega
  rw[az _ _ e];omega
 ·by_cases e:i=k
  ·subst e;rw[aD,hT.open];exact Cl _
  rw[az _ _ e];exact Cl _
 ·refine(hp.air.grow hok fun j hj=>⟨[],by rw[hlg];simp⟩).append ?_;unfold dP;rw[List.take_length];refine dK.both (iv hF.both fun l hl=>(hT.ok l hl).1) fun l hl=>?_
  exact wZ hok hT.log (hok.lets hk hT l hl).1
 rw[Cz,ji k (Cl _)];omega
theorem xg(h:ar (aB LB NB) w c L st)(ho:bN w0 c w)(hg:bH w0)(hp:cS st u)(hu:u≤1100000)(hnb:200000000≤NB):Calls Tryz.prog 37 #[.pointer (some ⟨L.wb,0,none⟩)] w fun e w'=>e=.returned (.bool true)∧gi LB NB w c L st (u+1) w':=by
 have b1:=hp.bb;have b2:=hp.bf;have b3:=hp.airl;refine(vt h ho hg (fun k hk=>by have:=hp.now k hk;omega) (by omega) (by omega) (by omega)).mono ?_;rintro e w' ⟨rfl,c',L',fr',S',bb',bf',hwb,hR,hF,hnw,hbb,hbf,hM,hst⟩
 obtain⟨q1,q2,q3,q4,q5⟩:=hR.net h.AD;refine⟨rfl,c',L',_,hwb,hM,hst,?_,rfl,rfl⟩;exact hp.grow h.flen q1 q2 q5 hF (fun i hi=>by rw[hnw i hi];omega) (fun i hi=>hR.open hi) (hp.air.grow h.AD q5) (by omega) (by omega) (by omega)
theorem rH(h:ar (aB LB NB) w c L st)(ho:bN w0 c w)(hg:bH w0)(hp:cS st u)(hu:u≤1100000)(hnb:200000000≤NB):Calls Tryz.prog 17 #[.pointer (some ⟨L.wb,0,none⟩)] w fun e w'=>e=.returned (.bool true)∧gi LB NB w c L st (u+1) w':=by
 have b1:=hp.bb;have b2:=hp.bf;have b3:=hp.airl;have b4:=hp.trl;have b5:=hp.bk;refine(yp h ho hg hp.ok hp.tot (fun k hk=>by have:=hp.now k hk;omega) (by omega) (by omega) (by omega) (by omega) (by omega)).mono ?_;rintro e w' ⟨rfl,r,a,S3,hr,ha,hAK,mw,c',L',st',hwb,hM,hst,hX,hS⟩
 refine⟨rfl,c',L',st',hwb,hM,hst,?_,hX.n,hX.sp⟩;have en:st'.n=st.n:=hX.n;have et:st'.tr=st.tr:=hX.tr;have hrn:gh st.n r st.q.S st'.q.S:=hX.rnds;obtain⟨q1,q2,q3,q4,q5⟩:=hrn.net h.AD;have eair:st'.q.air=st.q.air:=hX.air;have x1:=hX.bb;have x2:=hX.bf;have x3:=hX.bk;have y1:st'.q.bb.length≤st.q.bb.length+1300*r:=x1;have y2:st'.q.bf.length≤st.q.bf.length+20*r:=x2;have y3:st'.bk.length=st.bk.length+a:=x3;refine⟨hX.ok,by rw[et,en,q3];exact hp.tot,by rw[en,eair];exact hp.air.grow h.AD q5,fun i hi=>?_,by rw[et];omega,by omega,by omega,by omega,by rw[eair];omega,fun i hi m hm=>?_⟩
 ·have h1:(st'.q.S i).now=(st.q.S i).now+r:=hX.now i (by show i<st.n;omega);have h2:=hp.now i (by omega);omega
 have es:st'.since=CM st.n 0++st.since.drop st.n:=hX.since;rw[es,List.getElem?_append_left (by rw[List.length_replicate];omega),List.getElem?_replicate]at hm
 rw[if_pos (by omega)]at hm;have e0:m=0:=by simpa using hm.symm
 subst e0;have:(st'.q.S i).its=[]:=by rw[hS];exact mw i (by omega)
 rw[this];exact⟨Cl _,by omega⟩
end
def iw(n:Nat)(sp:Bool)(lv kv sv fv:Value):Array Value:=#[.int .i64 (n:Int),lv,.slice none 0 0,kv,.slice none 0 0,sv,fv,.bool sp,.slice none 0 0,.slice none 0 0,.slice none 0 0,.slice none 0 0,.slice none 0 0,.slice none 0 0]
structure uN(sp:Bool)(w W:World)(c:Nat→Nat)(wb n i:Nat)(rbs:List Nat)(lv kv sv fv:Value):Prop where
 bel:Below w.heap.size w W
 old:∀b,b<w.heap.size→c b=0
 wbk:W.heap[wb]?=some (.cells (iw n sp lv kv sv fv) 82 (0,0))
 wbc:c wb=1
 wbn:w.heap.size≤wb
 len:rbs.length=i
 lrow:W.ownsRow 0 38 1 lv i (rbs.map fun b=>.pointer (some ⟨b,0,none⟩))
 lvc:∀b,lv.ownBlock=some b→c b=2
 krow:W.ownsRow 0 75 1 kv i (CM i (.slice none 0 0))
 kvc:∀b,kv.ownBlock=some b→c b=4
 srow:W.ownsRow 0 3 1 sv i (CM i (.int .i64 0))
 svc:∀b,sv.ownBlock=some b→c b=5
 frow:W.ownsRow 0 4 1 fv i (CM i (.bool true))
 fvc:∀b,fv.ownBlock=some b→c b=6
 reps:∀j (h:j<rbs.length),bp W rbs[j] n j 0 [] 0 [] (fun _=>false) (.slice none 0 0) (.slice none 0 0)∧c rbs[j]=20+j
theorem uN.step{w W1 W2 W3 W4 W5:World}{c:Nat→Nat}{n:Nat}{lv' kv' sv' fv':Value}(h:uN sp w W c wb n i rbs lv kv sv fv)(hb:Below W.heap.size W W1)(hr:bp W1 rb n i 0 [] 0 [] (fun _=>false) (.slice none 0 0) (.slice none 0 0))(hrb:W.heap.size≤rb)(p1:mN W1 W2 wb 1 (iw n sp lv kv sv fv) 82 38 lv lv' i (rbs.map fun b=>.pointer (some ⟨b,0,none⟩)) (.pointer (some ⟨rb,0,none⟩)))(p2:mN W2 W3 wb 3 (iw n sp lv' kv sv fv) 82 75 kv kv' i (CM i (.slice none 0 0)) (.slice none 0 0))(p3:mN W3 W4 wb 5 (iw n sp lv' kv' sv fv) 82 3 sv sv' i (CM i (.int .i64 0)) (.int .i64 0))(p4:mN W4 W5 wb 6 (iw n sp lv' kv' sv' fv) 82 4 fv fv' i (CM i (.bool true)) (.bool true)):∃c',uN sp w W5 c' wb n (i+1) (rbs++[rb]) lv' kv' sv' fv':=by
 have z1:=hb.size;have z2:=p1.up.size;have z3:=p2.up.size;have z4:=p3.up.size;have z5:=p4.up.size;have z0:=h.bel.size;have wbl:=(Cn.1 h.wbk).1;have lvl:∀b,lv.ownBlock=some b→b<W.heap.size:=fun b hb=>(h.lrow.lt b hb).2
 have kvl:∀b,kv.ownBlock=some b→b<W.heap.size:=fun b hb=>(h.krow.lt b hb).2
 have svl:∀b,sv.ownBlock=some b→b<W.heap.size:=fun b hb=>(h.srow.lt b hb).2
 have fvl:∀b,fv.ownBlock=some b→b<W.heap.size:=fun b hb=>(h.frow.lt b hb).2
 have l2:∀b,lv'.ownBlock=some b→b<W2.heap.size:=fun b hb=>(p1.row.lt b hb).2
 have l3:∀b,kv'.ownBlock=some b→b<W3.heap.size:=fun b hb=>(p2.row.lt b hb).2
 have l4:∀b,sv'.ownBlock=some b→b<W4.heap.size:=fun b hb=>(p3.row.lt b hb).2
 have l5:∀b,fv'.ownBlock=some b→b<W5.heap.size:=fun b hb=>(p4.row.lt b hb).2
 let c':Nat→Nat:=fun b=>if b<W.heap.size then c b else if b<W1.heap.size then 20+i else if lv'.ownBlock=some b then 2 else if kv'.ownBlock=some b then 4 else if sv'.ownBlock=some b then 5 else if fv'.ownBlock=some b then 6 else 0
 have cold:∀b,b<W.heap.size→c' b=c b:=fun b hb=>if_pos hb
 have ups:∀b,b<W1.heap.size→(b<W.heap.size→c b≠1∧c b≠2∧c b≠4∧c b≠5∧c b≠6)→W5.heap[b]?=W1.heap[b]?:=fun b hl hc=>by
  have hnot:∀(v:Value) (x:Nat),(∀b,v.ownBlock=some b→b<W.heap.size)→(∀b,v.ownBlock=some b→c b=x)→(x=2∨x=4∨x=5∨x=6)→some b∉[some wb,v.ownBlock]:=fun v x hv1 hv2 hx hm=>by
   simp only[Co,Cq,or_false,Option.some.injEq]at hm;rcases hm with rfl|hm
   ·have:=(hc wbl).1;have:=h.wbc;omega
   have:=hc (hv1 b hm.symm);have:=hv2 b hm.symm;omega
  rw[p4.up.block b (by omega) (hnot fv 6 fvl h.fvc (by omega)),p3.up.block b (by omega) (hnot sv 5 svl h.svc (by omega)),p2.up.block b (by omega) (hnot kv 4 kvl h.kvc (by omega)),p1.up.block b (by omega) (hnot lv 2 lvl h.lvc (by omega))]
 have dl:∀b,lv'.ownBlock=some b→(b<W.heap.size∧c b=2)∨(W1.heap.size≤b∧b<W2.heap.size):=fun b hb=>by
  rcases p1.at_ b hb with e|e
  ·exact .inl ⟨lvl b e,h.lvc b e⟩
  exact .inr ⟨e,l2 b hb⟩
 have dk:∀b,kv'.ownBlock=some b→(b<W.heap.size∧c b=4)∨(W2.heap.size≤b∧b<W3.heap.size):=fun b hb=>by
  rcases p2.at_ b hb with e|e
  ·exact .inl ⟨kvl b e,h.kvc b e⟩
  exact .inr ⟨e,l3 b hb⟩
 have ds:∀b,sv'.ownBlock=some b→(b<W.heap.size∧c b=5)∨(W3.heap.size≤b∧b<W4.heap.size):=fun b hb=>by
  rcases p3.at_ b hb with e|e
  ·exact .inl ⟨svl b e,h.svc b e⟩
  exact .inr ⟨e,l4 b hb⟩
 have df:∀b,fv'.ownBlock=some b→(b<W.heap.size∧c b=6)∨(W4.heap.size≤b∧b<W5.heap.size):=fun b hb=>by
  rcases p4.at_ b hb with e|e
  ·exact .inl ⟨fvl b e,h.fvc b e⟩
  exact .inr ⟨e,l5 b hb⟩
 have skip:∀(v' v:Value),v'.ownBlock≠some wb→(∀b,v'.ownBlock=some b→v.ownBlock≠some b)→∀b,v'.ownBlock=some b→some b∉[some wb,v.ownBlock]:=fun v' v h1 h2 b hb hm=>by
  simp only[Co,Cq,or_false,Option.some.injEq]at hm;rcases hm with rfl|hm
  ·exact h1 hb
  exact h2 b hb hm.symm
 have nlk:∀b,lv'.ownBlock=some b→kv.ownBlock≠some b:=fun b hb e=>by have:=dl b hb;have:=kvl b e;have:=h.kvc b e;omega
 have nls:∀b,lv'.ownBlock=some b→sv.ownBlock≠some b:=fun b hb e=>by have:=dl b hb;have:=svl b e;have:=h.svc b e;omega
 have nlf:∀b,lv'.ownBlock=some b→fv.ownBlock≠some b:=fun b hb e=>by have:=dl b hb;have:=fvl b e;have:=h.fvc b e;omega
 have nks:∀b,kv'.ownBlock=some b→sv.ownBlock≠some b:=fun b hb e=>by have:=dk b hb;have:=svl b e;have:=h.svc b e;omega
 have nkf:∀b,kv'.ownBlock=some b→fv.ownBlock≠some b:=fun b hb e=>by have:=dk b hb;have:=fvl b e;have:=h.fvc b e;omega
 have nsf:∀b,sv'.ownBlock=some b→fv.ownBlock≠some b:=fun b hb e=>by have:=ds b hb;have:=fvl b e;have:=h.fvc b e;omega
 refine⟨c',?_⟩;exact
  {bel:=by
    refine⟨?_,?_,?_,by omega,fun b hb'=>?_⟩
    ·rw[p4.up.os,p3.up.os,p2.up.os,p1.up.os,hb.os,h.bel.os]
    ·rw[p4.up.tape,p3.up.tape,p2.up.tape,p1.up.tape,hb.tape,h.bel.tape]
    ·rw[p4.up.output,p3.up.output,p2.up.output,p1.up.output,hb.output,h.bel.output]
    have h0:=h.old b hb';rw[ups b (by omega) (fun _=>by omega),hb.block b (by omega),h.bel.block b hb']
   old:=fun b hb'=>(cold b (by omega)).trans (h.old b hb')
   wbk:=by
    have:=p4.wbk;simpa[iw] using this
   wbc:=(cold _ wbl).trans h.wbc
   wbn:=h.wbn
   len:=by simp[h.len]
   lrow:=by
    have:=p4.up.owns (p3.up.owns (p2.up.owns p1.row (skip lv' kv p1.own nlk)) (skip lv' sv p1.own nls)) (skip lv' fv p1.own nlf);simpa using this
   lvc:=fun b hb'=>by
    rcases dl b hb' with e|e
    ·exact(cold b e.1).trans e.2
    show(if b<W.heap.size then c b else _)=_
    rw[if_neg (by omega),if_neg (by omega),if_pos hb']
   krow:=by
    have:=p4.up.owns (p3.up.owns p2.row (skip kv' sv p2.own nks)) (skip kv' fv p2.own nkf);rwa[List.replicate_succ']
   kvc:=fun b hb'=>by
    rcases dk b hb' with e|e
    ·exact(cold b e.1).trans e.2
    show(if b<W.heap.size then c b else _)=_
    rw[if_neg (by omega),if_neg (by omega),if_neg (fun e'=>by have:=dl b e';omega),if_pos hb']
   srow:=by
    have:=p4.up.owns p3.row (skip sv' fv p3.own nsf);rwa[List.replicate_succ']
   svc:=fun b hb'=>by
    rcases ds b hb' with e|e
    ·exact(cold b e.1).trans e.2
    show(if b<W.heap.size then c b else _)=_
    rw[if_neg (by omega),if_neg (by omega),if_neg (fun e'=>by have:=dl b e';omega),if_neg (fun e'=>by have:=dk b e';omega),if_pos hb']
   frow:=by
    have:=p4.row;rwa[List.replicate_succ']
   fvc:=fun b hb'=>by
    rcases df b hb' with e|e
    ·exact(cold b e.1).trans e.2
    show(if b<W.heap.size then c b else _)=_
    rw[if_neg (by omega),if_neg (by omega),if_neg (fun e'=>by have:=dl b e';omega),if_neg (fun e'=>by have:=dk b e';omega),if_neg (fun e'=>by have:=ds b e';omega),if_pos hb']
   reps:=fun j hj=>by
    by_cases hji:j<rbs.length
    ·have e:(rbs++[rb])[j]=rbs[j]:=Df hji;rw[e];obtain⟨r1,r2⟩:=h.reps j hji;have hl:=r1.lt;refine⟨r1.same fun b hl hF=>?_,(cold _ hl).trans r2⟩;obtain rfl:b=rbs[j]:=by simpa[Cp] using hF
     rw[ups _ (by omega) (fun _=>by omega),hb.block _ hl]
    have hj2:j<rbs.length+1:=by simpa using hj
    obtain rfl:j=rbs.length:=by omega
    have e:(rbs++[rb])[rbs.length]=rb:=by simp
    rw[e,h.len];have hl:=hr.lt;refine⟨hr.same fun b hl hF=>?_,?_⟩
    ·obtain rfl:b=rb:=by simpa[Cp] using hF
     exact ups b hl (fun hl'=>by omega)
    show(if rb<W.heap.size then c rb else _)=_
    rw[if_neg (by omega),if_pos hl]}
def aS.begun(n:Nat)(sp:Bool)(rbs:List Nat):aS Qn:={n:=n,rbs:=rbs,q:=⟨fun _=>Sr.empty,[],[],[]⟩,tr:=[],xss:=CM n [],since:=CM n 0,fresh:=CM n true,bk:=[],sp:=sp}
def xa(c:Nat→Nat):Nat→Nat:=fun b=>if 20≤c b then 20 else c b
theorem iA{c:Nat→Nat}{b x:Nat}(h:c b=x)(hx:x<20):xa c b=x:=by
 unfold xa;rw[if_neg (by omega)];exact h
theorem uN.mem{w:World}{c:Nat→Nat}{n:Nat}(h:uN sp w W c wb n n rbs lv kv sv fv)(hn:2≤n∧n≤5){LB NB:Nat}(hLB:LB≤4294900000)(hNB:NB≤1000000000000000):∃L,L.wb=wb∧ar (aB LB NB) W (xa c) L (aS.begun n sp rbs):=by
 rcases id h.lrow.2 with⟨_,h0⟩|⟨lb,capl,curl,rfl,-,hlb,-⟩
 ·omega
 rcases id h.krow.2 with⟨_,h0⟩|⟨kb,capk,curk,rfl,-,hkb,hk1,hk2,hk3,hk4⟩
 ·omega
 rcases id h.frow.2 with⟨_,h0⟩|⟨fb,capf,curf,rfl,-,hfb,hf1,hf2,hf3,hf4⟩
 ·omega
 refine⟨{wb:=wb,lb:=lb,capl:=capl,tv:=.slice none 0 0,bvs:=[],kb:=kb,capk:=capk,KB:=curk,sv:=sv,fb:=fb,capf:=capf,FB:=curf,osv:=.slice none 0 0,kov:=.slice none 0 0,us:=[],rv:=⟨.slice none 0 0,.slice none 0 0,.slice none 0 0,.slice none 0 0,.slice none 0 0⟩},rfl,?_⟩;exact
  {npos:=hn
   wbk:=h.wbk
   wbc:=iA h.wbc (by omega)
   lbc:=iA (h.lvc lb rfl) (by omega)
   lcell:=fun i hi=>by
    have:=h.lrow.cells (g:=lb) rfl i (.pointer (some ⟨rbs[i],0,none⟩)) (by simp[show i<rbs.length from hi]);rwa[CS,CJ]at this
   llen:=h.len
   trow:=CW ..
   tvc:=fun b hb=>by simp[Cp]at hb
   blen:=rfl
   bef:=fun i hi _=>by simp[aS.begun]at hi
   kbk:=hkb
   kbc:=iA (h.kvc kb rfl) (by omega)
   xlen:=by simp[aS.begun]
   xrow:=fun i hi=>by
    have hi':i<n:=by simpa[aS.begun] using hi
    refine⟨.slice none 0 0,?_,?_,fun b hb=>by simp[Cp]at hb⟩
    ·have:=h.krow.cells (g:=kb) rfl i (.slice none 0 0) (by simp[hi']);rw[CS,CJ,cell_of_heap hkb]at this
     exact this
    have e:(aS.begun n sp rbs).xss[i]=[]:=by simp[aS.begun]
    rw[e];exact CW ..
   slen:=by simp[aS.begun]
   srow:=by
    have:=h.srow;simpa[aS.begun,ints] using this
   svc:=fun b hb=>iA (h.svc b hb) (by omega)
   fbk:=hfb
   fbc:=iA (h.fvc fb rfl) (by omega)
   flen:=by simp[aS.begun]
   fcell:=fun i hi=>by
    have hi':i<n:=by simpa[aS.begun] using hi
    have:=h.frow.cells (g:=fb) rfl i (.bool true) (by simp[hi']);rw[CS,CJ,cell_of_heap hfb]at this
    simpa[aS.begun] using this
   orow:=CW ..
   ovc:=fun b hb=>by simp[Cp]at hb
   marks:=fun i hi _=>by simp[aS.begun]at hi
   krow:=CW ..
   kvc:=fun b hb=>by simp[Cp]at hb
   rest:=by
    have hrb:∀i,i<n→∃hi:i<rbs.length,rbs.getD i 0=rbs[i]:=fun i hi=>by
     have hl:i<rbs.length:=by rw[h.len];exact hi
     exact⟨hl,by rw[List.getD_eq_getElem?_getD,Cr hl];rfl⟩
    have hfoot:∀i b,(⟨fun i=>rbs.getD i 0,fun _=>.slice none 0 0,fun _=>.slice none 0 0,fun _=>[]⟩:cU).foot i b↔b=rbs.getD i 0:=fun i b=>by simp[cU.foot,Cp]
    have hcol:∀i,i<n→c (rbs.getD i 0)=20+i:=fun i hi=>by
     obtain⟨hl,e⟩:=hrb i hi;rw[e];exact(h.reps i hl).2
    have htot:∀m,bn m (fun _=>Sr.empty)=0:=fun m=>by
     unfold bn
     induction m with
     |zero=>rfl
     |succ m ih=>rw[bS,ih];rfl
    refine⟨fun b=>if 20≤c b then 1 else 0,⟨fun i=>rbs.getD i 0,fun _=>.slice none 0 0,fun _=>.slice none 0 0,fun _=>[]⟩,[],[],[],?_,fun b hl hc=>?_⟩
    ·exact
      {rbl:=fun i hi=>by
        obtain⟨hl,e⟩:=hrb i hi;show rbs[i]?=some (rbs.getD i 0)
        rw[e];exact Cr hl
       net:=⟨fun i hi=>by
         obtain⟨hl,e⟩:=hrb i hi;show bp W (rbs.getD i 0) n i 0 [] 0 [] (fun _=>false) (.slice none 0 0) (.slice none 0 0)
         rw[e];exact(h.reps i hl).1,fun _ _=>List.Perm.refl _,fun i j hi hj hij b h1 h2=>by
         rw[hfoot]at h1 h2;have e1:=hcol i hi;have e2:=hcol j hj;rw[←h1]at e1
         rw[←h2]at e2;omega⟩
       ok:=ay.empty n
       fit:=⟨hn,by show bn n (fun _=>Sr.empty)≤LB;rw[htot];omega,hLB,fun _ _=>CB _,hNB,fun _ _ x hx=>by simp[aS.begun,Sr.empty]at hx⟩
       foot:=fun i b hi hf=>by
        rw[hfoot]at hf;have e1:=hcol i hi;rw[←hf]at e1
        exact if_pos (by omega)
       arow:=CW ..
       avc:=fun b hb=>by simp[Cp]at hb
       alen:=rfl
       adat:=fun i hi _=>by simp at hi
       brow:=CW ..
       bvc:=fun b hb=>by simp[Cp]at hb
       bkrow:=CW ..
       bkc:=fun b hb=>by simp[Cp]at hb
       bmarks:=fun i hi _=>by simp[aS.begun]at hi
       frow:=CW ..
       fvc:=fun b hb=>by simp[Cp]at hb
       fkrow:=CW ..
       fkc:=fun b hb=>by simp[Cp]at hb
       fmarks:=fun i hi _=>by simp[aS.begun]at hi
       bbm:=fun e he=>by simp[aS.begun]at he
       bfm:=fun e he=>by simp[aS.begun]at he}
    by_cases e:20≤c b
    ·exact if_pos e
    exact absurd (if_neg e) hc}
end
section
open Go.RowKit Go.Proofs
attribute [local go_sem ↓] Go.wp_at_zero Go.wp_at_succ
theorem wM{LB NB:Nat}(hLB:LB≤4294900000)(hNB:NB≤1000000000000000){n:Nat}(hn:2≤n∧n≤5)(sp:Bool)(w:World):Calls Tryz.prog 13 #[.int .i64 (n:Int),.bool sp] w fun e w'=>∃c L rbs,e=.returned (.pointer (some ⟨L.wb,0,none⟩))∧ar (aB LB NB) w' c L (aS.begun n sp rbs)∧Below w.heap.size w w'∧∀b,b<w.heap.size→c b=0:=by
 have HHN:=hid hn;have hn5:n≤5:=hn.2;obtain⟨i0,hi0,ha0,ha1,ha2⟩:=info_parts Tryz.Bn;obtain⟨i1,hi1,hb0,hb1,hb2⟩:=info_parts Tryz.Bc;obtain⟨i2,hi2,hc0,hc1,hc2⟩:=info_parts Tryz.AJ;obtain⟨i3,hi3,hd0,hd1,hd2⟩:=info_parts Tryz.Bh;clear hn;go_enter Tryz.func13,Tryz.ntmps13
 go_wp2_with fail
 go_loopw [6] (fun v wr=>∃(i:Nat) (c:Nat→Nat) (rbs:List Nat) (lv kv sv fv:Value),i≤n∧v=.int .i64 i∧Hid (uN sp w wr c w.heap.size n i rbs lv kv sv fv)) (fun v _=>n-(intOf v).toNat)
 case atStart =>
  refine⟨0,fun b=>if b=w.heap.size then 1 else 0,[],.slice none 0 0,.slice none 0 0,.slice none 0 0,.slice none 0 0,CB _,rfl,?_⟩;exact
   {bel:=(Below.refl _ w).alloc (Cl _) _
    old:=fun b hb=>if_neg (by omega)
    wbk:=heap_alloc_new w _
    wbc:=if_pos rfl
    wbn:=Cl _
    len:=rfl
    lrow:=CW ..
    lvc:=fun b hb=>by simp[Cp]at hb
    krow:=CW ..
    kvc:=fun b hb=>by simp[Cp]at hb
    srow:=CW ..
    svc:=fun b hb=>by simp[Cp]at hb
    frow:=CW ..
    fvc:=fun b hb=>by simp[Cp]at hb
    reps:=fun j hj=>by simp at hj}
 case round =>
  obtain⟨i,c,rbs,lv,kv,sv,fv,hi,rfl,hB⟩:=hrel;by_cases hlt:i<n
  ·have HNW:Hid (Calls Tryz.prog 31 #[.int .i64 (i:Int),.int .i64 (n:Int)] wr fun e w'=>∃rb,e=.returned (.tuple #[.pointer (some ⟨rb,0,none⟩),.int .i64 0])∧Below wr.heap.size wr w'∧Hid (bp w' rb n i 0 [] 0 [] (fun _=>false) (.slice none 0 0) (.slice none 0 0)∧wr.heap.size≤rb)):=by
    refine(Ac n HHN.out i hlt wr).mono ?_;rintro e w' ⟨h1,h2,h3,h4⟩
    exact⟨wr.heap.size,h1,h3,h4,Cl _⟩
   generalize hwb:w.heap.size=wb at *;have HWB:Hid (w.heap.size=wb):=hwb;clear hwb;have hBo:=hB.out;have nl:lv.ownBlock≠some wb:=fun e=>by have:=hBo.lvc _ e;have:=hBo.wbc;omega
   have nk:kv.ownBlock≠some wb:=fun e=>by have:=hBo.kvc _ e;have:=hBo.wbc;omega
   have ns:sv.ownBlock≠some wb:=fun e=>by have:=hBo.svc _ e;have:=hBo.wbc;omega
   have nf:fv.ownBlock≠some wb:=fun e=>by have:=hBo.fvc _ e;have:=hBo.wbc;omega
   have hlk:∀b,kv.ownBlock=some b→some b∉[some wb,lv.ownBlock]:=fun b hb hm=>by
    simp only[Co,Cq,or_false,Option.some.injEq]at hm;rcases hm with rfl|hm
    ·exact nk hb
    have:=hBo.kvc b hb;have:=hBo.lvc b hm.symm;omega
   have hls:∀b,sv.ownBlock=some b→some b∉[some wb,lv.ownBlock]:=fun b hb hm=>by
    simp only[Co,Cq,or_false,Option.some.injEq]at hm;rcases hm with rfl|hm
    ·exact ns hb
    have:=hBo.svc b hb;have:=hBo.lvc b hm.symm;omega
   have hlf:∀b,fv.ownBlock=some b→some b∉[some wb,lv.ownBlock]:=fun b hb hm=>by
    simp only[Co,Cq,or_false,Option.some.injEq]at hm;rcases hm with rfl|hm
    ·exact nf hb
    have:=hBo.fvc b hb;have:=hBo.lvc b hm.symm;omega
   have hks:∀b,sv.ownBlock=some b→some b∉[some wb,kv.ownBlock]:=fun b hb hm=>by
    simp only[Co,Cq,or_false,Option.some.injEq]at hm;rcases hm with rfl|hm
    ·exact ns hb
    have:=hBo.svc b hb;have:=hBo.kvc b hm.symm;omega
   have hkf:∀b,fv.ownBlock=some b→some b∉[some wb,kv.ownBlock]:=fun b hb hm=>by
    simp only[Co,Cq,or_false,Option.some.injEq]at hm;rcases hm with rfl|hm
    ·exact nf hb
    have:=hBo.fvc b hb;have:=hBo.kvc b hm.symm;omega
   have hsf:∀b,fv.ownBlock=some b→some b∉[some wb,sv.ownBlock]:=fun b hb hm=>by
    simp only[Co,Cq,or_false,Option.some.injEq]at hm;rcases hm with rfl|hm
    ·exact nf hb
    have:=hBo.fvc b hb;have:=hBo.svc b hm.symm;omega
   have rwb:=hBo.wbk;have rl:=hBo.lrow;have rk:=hBo.krow;have rs:=hBo.srow;have rf:=hBo.frow;clear hBo;have up0:∀w1,Below wr.heap.size wr w1→w1.heap[wb]?=some (.cells (iw n sp lv kv sv fv) 82 (0,0))∧w1.ownsRow 0 38 1 lv i (rbs.map fun b=>.pointer (some ⟨b,0,none⟩))∧w1.ownsRow 0 75 1 kv i (CM i (.slice none 0 0))∧w1.ownsRow 0 3 1 sv i (CM i (.int .i64 0))∧w1.ownsRow 0 4 1 fv i (CM i (.bool true)):=fun w1 hb=>by
    have u:=an.of_below (S:=[]) hb;exact⟨(hb.block wb (Cn.1 rwb).1).trans rwb,u.owns rl (by simp),u.owns rk (by simp),u.owns rs (by simp),u.owns rf (by simp)⟩
   have UP0:Hid (∀w1,Below wr.heap.size wr w1→w1.heap[wb]?=some (.cells (iw n sp lv kv sv fv) 82 (0,0))∧w1.ownsRow 0 38 1 lv i (rbs.map fun b=>.pointer (some ⟨b,0,none⟩))∧w1.ownsRow 0 75 1 kv i (CM i (.slice none 0 0))∧w1.ownsRow 0 3 1 sv i (CM i (.int .i64 0))∧w1.ownsRow 0 4 1 fv i (CM i (.bool true))):=up0;clear up0 rwb rl rk rs rf;have at4:∀{W:World} {C:Array Value},W.heap[wb]?=some (.cells C 82 (0,0))→∀o v,C[o]?=some v→W.cell? ⟨wb,o,none⟩=some v:=fun hW o v hv=>by rw[cell_of_heap hW];exact hv
   have ln:∀{W:World} {C:Array Value} {T:TypeId},W.heap[wb]?=some (.cells C T (0,0))→wb<W.heap.size:=fun hW=>(Cn.1 hW).1
   have AT4:Hid (∀{W:World} {C:Array Value},W.heap[wb]?=some (.cells C 82 (0,0))→∀o v,C[o]?=some v→W.cell? ⟨wb,o,none⟩=some v):=at4;have LN:Hid (∀{W:World} {C:Array Value} {T:TypeId},W.heap[wb]?=some (.cells C T (0,0))→wb<W.heap.size):=ln;clear at4 ln;go_wp2_with (first
    |(go_at_call 31;refine HNW.out.mono ?_;rintro e w1 ⟨rb,rfl,hb1',hrr⟩;obtain⟨q1,rl,rk,rs,rf⟩:=UP0.out w1 hb1';have l1:=LN.out q1;have c11:=AT4.out q1 1 lv rfl)
    |(at_builtin;refine wpList_append_lies _ rfl _ _ 76 rfl 0 4 i3 (.bool false) 1 1 Tryz.underlying76 hi3 hd0 hd1 hd2 rfl (by decide) fv i (CM i (.bool true)) (by rfl) (rf4.alloc _) ⟨w4.heap.size,0,none⟩ 1 1 [.bool true] (by rfl) rfl (CH (by simpa using heap_alloc_new (w4.setCell ⟨wb,5,none⟩ (.slice (some ⟨g4,0,none⟩) (i+1) cap4)) _)) (by simp[Value.oneCell']) (by decide) (by unfold maxLen;omega) (by omega) (by omega) (w4.heap.size+1) (by simp) ?_;intro g5 cap5 w5 hown5 hgr5 hat5 hlt5;obtain⟨pd4,q5⟩:=oV (o:=6) pd3.wbk nf hown5 hgr5 (by simpa using hat5);have l5:=LN.out q5;have c56:=AT4.out q5 6 fv rfl;have f56:=frozen_of_heap q5 6)
    |(at_builtin;refine wpList_append_lies _ rfl _ _ 75 rfl 0 3 i2 (.int .i64 0) 1 8 Tryz.underlying75 hi2 hc0 hc1 hc2 rfl (by decide) sv i (CM i (.int .i64 0)) (by rfl) (rs3.alloc _) ⟨w3.heap.size,0,none⟩ 1 1 [.int .i64 0] (by rfl) rfl (CH (by simpa using heap_alloc_new (w3.setCell ⟨wb,3,none⟩ (.slice (some ⟨g3,0,none⟩) (i+1) cap3)) _)) (by simp[Value.oneCell']) (by decide) (by unfold maxLen;omega) (by omega) (by omega) (w3.heap.size+1) (by simp) ?_;intro g4 cap4 w4 hown4 hgr4 hat4 hlt4;obtain⟨pd3,q4⟩:=oV (o:=5) pd2.wbk ns hown4 hgr4 (by simpa using hat4);have l4:=LN.out q4;have c45:=AT4.out q4 5 sv rfl;have c46:=AT4.out q4 6 fv rfl;have f45:=frozen_of_heap q4 5;have rf4:=pd3.up.owns rf3 hsf)
    |(at_builtin;refine wpList_append_lies _ rfl _ _ 73 rfl 0 75 i1 (.slice none 0 0) 1 24 Tryz.underlying73 hi1 hb0 hb1 hb2 rfl (by decide) kv i (CM i (.slice none 0 0)) (by rfl) (rk2.alloc _) ⟨w2.heap.size,0,none⟩ 1 1 [.slice none 0 0] (by rfl) rfl (CH (by simpa using heap_alloc_new (w2.setCell ⟨wb,1,none⟩ (.slice (some ⟨g2,0,none⟩) (i+1) cap2)) _)) (by simp[Value.oneCell']) (by decide) (by unfold maxLen;omega) (by omega) (by omega) (w2.heap.size+1) (by simp) ?_;intro g3 cap3 w3 hown3 hgr3 hat3 hlt3;obtain⟨pd2,q3⟩:=oV (o:=3) pd1.wbk nk hown3 hgr3 (by simpa using hat3);have l3:=LN.out q3;have c33:=AT4.out q3 3 kv rfl;have c35:=AT4.out q3 5 sv rfl;have f33:=frozen_of_heap q3 3;have rs3:=pd2.up.owns rs2 hks;have rf3:=pd2.up.owns rf2 hkf)
    |(at_builtin;refine wpList_append_lies _ rfl _ _ 39 rfl 0 38 i0 (.pointer none) 1 8 Tryz.underlying39 hi0 ha0 ha1 ha2 rfl (by decide) lv i (rbs.map fun b=>.pointer (some ⟨b,0,none⟩)) (by rfl) (rl.alloc _) ⟨w1.heap.size,0,none⟩ 1 1 [.pointer (some ⟨rb,0,none⟩)] (by rfl) rfl (CH (heap_alloc_new _ _)) (by simp[Value.oneCell']) (by decide) (by unfold maxLen;omega) (by omega) (by omega) (w1.heap.size+1) (by simp) ?_;intro g2 cap2 w2 hown2 hgr2 hat2 hlt2;obtain⟨pd1,q2⟩:=oV (o:=1) q1 nl hown2 hgr2 hat2;have l2:=LN.out q2;have c21:=AT4.out q2 1 lv rfl;have c23:=AT4.out q2 3 kv rfl;have f21:=frozen_of_heap q2 1;have rk2:=pd1.up.owns rk hlk;have rs2:=pd1.up.owns rs hls;have rf2:=pd1.up.owns rf hlf))
   go_roundw
   case rel =>
    obtain⟨c',hB'⟩:=hB.out.step hb1' hrr.out.1 hrr.out.2 pd1 (by simpa[iw] using pd2) (by simpa[iw] using pd3) (by simpa[iw] using pd4);exact⟨i+1,c',_,_,_,_,_,by omega,by go_num,hB'⟩
   case measure=>simp[intOf];omega
  obtain rfl:i=n:=by omega
  go_wp2_with fail
  go_ret
  obtain⟨L,hL,hm⟩:=hB.out.mem HHN.out hLB hNB;exact⟨xa c,L,rbs,by rw[hL];rfl,hm,hB.out.bel,fun b hb=>iA (hB.out.old b hb) (by omega)⟩
end
section
open Go.RowKit Go.Proofs
variable {S:Nat→Sr} {Wb:World} {a:Nat×Nat×List UInt8} {cc n:Nat} {cm:Cm} {f:List UInt8} {fr:Int} {l:Lt} {tr:List Dn}
theorem zF{x y:En}(h1:x.org=y.org)(h2:x.seq=y.seq)(h3:x.ah=y.ah)(h4:x.c=y.c):x=y:=by
 cases x;cases y;simp only at h1 h2 h3 h4;subst h1;subst h2;subst h3;subst h4
 rfl
section
variable {w0 w:World} {LB NB:Nat} {c:Nat→Nat} {L:aC} {st:aS Qn} {k u:Nat}
theorem zJ(h:ar (aB LB NB) w c L st)(ho:bN w0 c w)(hg:bH w0)(htr:cC st.n S st.tr)(hok:ay st.n S)(hk:k<st.n)(hS:(st.q.S k).log=(S k).log)(hkn:∀xs f,st.xss[k]?=some xs→st.fresh[k]?=some f→∃m,m≤(S k).log.length∧xs=(aR st.tr (S k).log).take m∧(f=true∨m=(S k).log.length))(hTl:st.tr.length≤1000000000000)(hN:st.bk.length≤100000000000):bz (aB LB NB) w c L st k (aR st.tr (S k).log):=by
 obtain⟨c2,dd,avs,bus,fus,hI,hF,hNt⟩:=h.AZ ho;have hkx:k<st.xss.length:=by rw[h.xlen];exact hk
 have hkf:k<st.fresh.length:=by rw[h.flen];exact hk
 have hkr:k<st.rbs.length:=by rw[h.llen];exact hk
 obtain⟨m,hm,hx,hf⟩:=hkn _ _ (Cr hkx) (Cr hkf);have hlog:=hI.fit.log hI.ok hk;rw[hS]at hlog
 have hlen:=cB st.tr (S k).log;refine kI (aw LB NB) h hk (aR st.tr (S k).log) (htr.told hok hk) ⟨m,by omega,hx,by rw[hlen];exact hf⟩ hTl (by omega) hN ?_;have e:st.rbs[k]=dd.rb k:=by
  have:=hI.rbl k hk;rw[Cr hkr]at this
  simpa using this
 rw[e,hlen,htr.ops hk,←hS];exact rY hNt hg hk
theorem zQ(h:ar (aB LB NB) w c L st)(ho:bN w0 c w)(hg:bH w0)(hk:k<st.n){rb:Nat}(hrb:st.rbs[k]?=some rb)(hLB:bn st.n st.q.S<LB)(s:ByteArray)(hs:s.size≤maxLen):Calls Tryz.prog 20 #[.pointer (some ⟨rb,0,none⟩),.string s] w fun e w' =>
   (aY s=none∧e=.returned (.int .i64 2)∧Below w.heap.size w w')∨(∃cm,aY s=some cm∧dt (aK (st.q.S k).log (st.q.S k).log) cm=false∧e=.returned (.int .i64 3)∧Below w.heap.size w w')∨(∃cm,aY s=some cm∧dt (aK (st.q.S k).log (st.q.S k).log) cm=true∧8≤bj (st.q.S k).its∧e=.returned (.int .i64 4)∧Below w.heap.size w w')∨(∃x,aY s=some x.c∧dt (aK (st.q.S k).log (st.q.S k).log) x.c=true∧bj (st.q.S k).its<8∧x.org=k∧x.seq=aq (st.q.S k).log k+1∧x.ah=bC (st.q.S k).log∧e=.returned (.int .i64 0)∧∃c',ar (aB LB NB) w' c' L {st with q:={st.q with S:=bR st.q.S k (uQ st.n k (st.q.S k) x)}}∧aG w c w' c'):=by
 obtain⟨c2,d,avs,bus,fus,hI,hF,hNt⟩:=h.AZ ho;have e:rb=d.rb k:=by
  have:=hI.rbl k hk;rw[hrb]at this
  simpa using this
 rw[e];refine(As hNt hg hk hLB s hs).mono ?_;rintro r w' (q|q|q|⟨x,x1,x2,x3,x4,x5,x6,x7,d',x8,x9⟩)
 ·exact .inl q
 ·exact .inr (.inl q)
 ·exact .inr (.inr (.inl q))
 obtain⟨c',hM,hst⟩:=h.A4 hI hF x8 x9;exact .inr (.inr (.inr ⟨x,x1,x2,x3,x4,x5,x6,x7,c',hM,hst⟩))
theorem py(h:cC n S tr)(hk:k<n):∀y∈aR tr (S k).log,y<tr.length:=fun y hy=>by
 obtain⟨x,hx,rfl⟩:=CO.1 hy;exact(h.at hk hx).1
theorem zG(h:ar (aB LB NB) w c L st)(ho:bN w0 c w)(hg:bH w0)(hp:cS st u)(hu:u≤1100000)(hLB:1200000≤LB)(hk:k<st.n)(s:ByteArray)(hs:s.size≤maxLen)(hr:aY s=none):Calls Tryz.prog 16 #[.pointer (some ⟨L.wb,0,none⟩),.int .i64 (k:Int),.string s] w fun e w'=>e=.returned (.bool true)∧gi LB NB w c L st (u+1) w':=by
 have h1:=hp.trl;have h2:=hp.bk;have h3:=hp.tot;have hkr:k<st.rbs.length:=by rw[h.llen];exact hk
 refine(uq (aw LB NB) h hk _ (ix h ho hg hp.ok hk (by omega) (by omega)) s hs hr fun w' c' L' hM hst=>?_).mono ?_
 ·refine(zQ hM (ho.step hst) hg (k:=k) hk (Cr hkr) (by show bn st.n st.q.S<LB;omega) s hs).mono ?_;rintro e w2 (q|⟨cm,q,-⟩|⟨cm,q,-⟩|⟨x,q,-⟩)
  ·exact q.2
  ·rw[hr]at q;cases q
  ·rw[hr]at q;cases q
  rw[hr]at q;cases q
 rintro e w' ⟨rfl,c',L',hwb,hM,hst⟩
 exact⟨rfl,c',L',_,hwb,hM,hst,hp.ask (h.Bj hp.ok hk) (by omega),rfl,rfl⟩
theorem jj:1000000000≤maxLen:=by
 unfold maxLen;omega
theorem ur(h:ar (aB LB NB) w c L st)(ho:bN w0 c w)(hg:bH w0)(hp:cS st u)(hu:u≤1100000)(hLB:1200000≤LB)(hk:k<st.n)(s:ByteArray)(hs:s.size≤maxLen)(hr:aY s=some cm)(hgo:dt (aK (st.q.S k).log (st.q.S k).log) cm=false):Calls Tryz.prog 16 #[.pointer (some ⟨L.wb,0,none⟩),.int .i64 (k:Int),.string s] w fun e w'=>e=.returned (.bool true)∧gi LB NB w c L st (u+1) w':=by
 have h1:=hp.trl;have h2:=hp.bk;have h3:=hp.tot;have h4:=hp.log h hk;have hm:=jj;have hkr:k<st.rbs.length:=by rw[h.llen];exact hk
 have hla:gE st.tr (aR st.tr (st.q.S k).log) cm=true:=by
  have:=hp.ok.tr.goes h.AD hk cm;rw[hgo]at this
  have h9:kV st.tr (aR st.tr (st.q.S k).log) cm=true:=by
   cases hq:kV st.tr (aR st.tr (st.q.S k).log) cm
   ·rw[hq]at this;simp at this
   rfl
  exact h9
 refine(ny (aw LB NB) h hk _ (ix h ho hg hp.ok hk (by omega) (by omega)) s hs cm hr (py hp.ok.tr hk) hp.ok.tr.small (by omega) (by rw[cB];omega) hla fun w' c' L' hM hst=>?_).mono ?_
 ·refine(zQ hM (ho.step hst) hg (k:=k) hk (Cr hkr) (by show bn st.n st.q.S<LB;omega) s hs).mono ?_;rintro e w2 (q|⟨cm',q,-,q2⟩|⟨cm',q,q2,-⟩|⟨x,q,q2,-⟩)
  ·rw[hr]at q;cases q.1
  ·exact q2
  ·rw[hr,Option.some.injEq]at q;rw[←q]at q2
   have q3:dt (aK (st.q.S k).log (st.q.S k).log) cm=true:=q2;rw[hgo]at q3
   cases q3
  rw[hr,Option.some.injEq]at q;rw[←q]at q2
  have q3:dt (aK (st.q.S k).log (st.q.S k).log) cm=true:=q2;rw[hgo]at q3
  cases q3
 rintro e w' ⟨rfl,c',L',hwb,hM,hst⟩
 exact⟨rfl,c',L',_,hwb,hM,hst,hp.ask (h.Bj hp.ok hk) (by omega),rfl,rfl⟩
def An(st:aS Qn)(i:Nat)(st':aS Qn):Prop:=∃d,d≤4+4*i∧gz st st' d∧st'.xss.length=st.n∧st'.fresh.length=st.n
theorem yQ(h:ar (aB LB NB) w c L st)(ho:bN w0 c w)(hg:bH w0)(hp:cS st u)(hu:u≤1100000)(hLB:1200000≤LB)(hk:k<st.n)(s:ByteArray)(hs:s.size≤maxLen)(hr:aY s=some cm)(hgo:dt (aK (st.q.S k).log (st.q.S k).log) cm=true)(h8:8≤bj (st.q.S k).its):Calls Tryz.prog 16 #[.pointer (some ⟨L.wb,0,none⟩),.int .i64 (k:Int),.string s] w fun e w'=>e=.returned (.bool true)∧gi LB NB w c L st (u+1) w':=by
 have h1:=hp.trl;have h2:=hp.bk;have h3:=hp.tot;have h4:=hp.log h hk;have hm:=jj;have hn:=h.npos;have hkr:k<st.rbs.length:=by rw[h.llen];exact hk
 have hks:k<st.since.length:=by rw[h.slen];exact hk
 have hla:gE st.tr (aR st.tr (st.q.S k).log) cm=false:=by
  have:=hp.ok.tr.goes h.AD hk cm;rw[hgo]at this
  have h9:kV st.tr (aR st.tr (st.q.S k).log) cm=false:=by
   cases hq:kV st.tr (aR st.tr (st.q.S k).log) cm
   ·rfl
   rw[hq]at this;simp at this
  exact h9
 have hax:=h.Bj hp.ok hk;have hlg:∀i,i<st.n→(st.q.S i).log.length≤u:=fun i hi=>hp.log h hi
 refine(sj (aw LB NB) h hk _ (ix h ho hg hp.ok hk (by omega) (by omega)) s hs cm hr (py hp.ok.tr hk) hp.ok.tr.small (by omega) (by rw[cB];omega) hla (An st) (fun i=>aR st.tr (st.q.S i).log) ?_ ?_ ?_ ?_ ?_ (by omega) ?_ ?_ fun w' c' L' hM hst=>?_).mono ?_
 ·intro w' c' L' hM hst;exact⟨4,by omega,hax,hM.xlen,hM.flen⟩
 ·rintro i st' ⟨d,-,hX,-,-⟩
  exact⟨hX.n,hX.tr,hX.since⟩
 ·rintro st' ⟨d,hd,hX⟩
  exact⟨d,by omega,hX⟩
 ·rintro i st' hne hi ⟨d,hd,hX,hx,hf⟩
  refine⟨⟨d+4,by omega,hX.trans ?_,by simp[aS.asked,hx],by simp[aS.asked,hf]⟩,by rw[cB];have:=hlg i hi;omega⟩;have hlb:(st'.q.S i).log.length≤10000000000:=by rw[hX.q];have:=hlg i hi;omega
  have:=hX.ok.asked (by rw[hX.n];exact hx) (by rw[hX.n];exact hf) (k:=i) (by rw[hX.n];exact hi) hlb;rw[hX.tr,hX.q]at this
  exact⟨rfl,rfl,rfl,rfl,rfl,rfl,by simp[aS.asked],this⟩
 ·rintro i w' c' L' st' hne hi hM ⟨d,hd,hX,hx,hf⟩ hst
  have:=ix hM (ho.step hst) hg hX.ok (k:=i) (by rw[hX.n];exact hi) (by rw[hX.tr];omega) (by rw[hX.bk];omega);rw[hX.tr,hX.q]at this
  exact this
 ·have:=(hp.room k hk _ (Cr hks)).1;omega
 ·intro x hx;obtain⟨i,hi,rfl⟩:=DD.1 hx;have:=(hp.room i (by rw[←h.slen];exact hi) _ (Cr hi)).2;omega
 ·refine(zQ hM (ho.step hst) hg (k:=k) hk (Cr hkr) (by show bn st.n st.q.S<LB;omega) s hs).mono ?_;rintro e w2 (q|⟨cm',q,q2,-⟩|⟨cm',q,-,-,q2⟩|⟨x,q,-,q2,-⟩)
  ·rw[hr]at q;cases q.1
  ·rw[hr,Option.some.injEq]at q;rw[←q]at q2
   have q3:dt (aK (st.q.S k).log (st.q.S k).log) cm=false:=q2;rw[hgo]at q3
   cases q3
  ·exact q2
  have q3:bj (st.q.S k).its<8:=q2;omega
 rintro e w' ⟨rfl,c',L',st',hwb,hM,⟨d,hd,hX,-,-⟩,hst⟩
 exact⟨rfl,c',L',st',hwb,hM,hst,hp.ask hX (by omega),hX.n,hX.sp⟩
end
def zP(st:aS Qn)(k:Nat)(q':Qn)(i:Nat)(st':aS Qn):Prop:=∃d,d≤4+4*i∧gz st {st' with q:=st.q} d∧st'.q=q'∧st'.xss.length=st.n∧st'.fresh.length=st.n∧st'.xss[k]?=some (aR st.tr (st.q.S k).log)
theorem ub{S':Nat→Sr}{d:Dn}(h:cC n S tr)(h':cC n S' (tr++[d])){i:Nat}(hi:i<n):aR (tr++[d]) (S i).log=aR tr (S i).log:=by
 unfold aR;refine List.map_congr_left fun x hx=>?_
 obtain⟨hl,h1,h2,-⟩:=h.at hi hx;refine h'.AK (by rw[Cz];omega) ?_ ?_
 ·rw[Df hl];exact h1
 rw[Df hl];exact h2
section
variable {w0 w:World} {LB NB:Nat} {c:Nat→Nat} {L:aC} {st:aS Qn} {k u:Nat}
theorem Aj(h:ar (aB LB NB) w c L st)(ho:bN w0 c w)(hg:bH w0)(hp:cS st u)(hu:u≤1100000)(hLB:1200000≤LB)(hNB:NB≤1000000000000000)(hk:k<st.n)(s:ByteArray)(hs:s.size≤maxLen)(hr:aY s=some cm)(hgo:dt (aK (st.q.S k).log (st.q.S k).log) cm=true)(h8:bj (st.q.S k).its<8):Calls Tryz.prog 16 #[.pointer (some ⟨L.wb,0,none⟩),.int .i64 (k:Int),.string s] w fun e w'=>e=.returned (.bool true)∧gi LB NB w c L st (u+1) w':=by
 have h1:=hp.trl;have h2:=hp.bk;have h3:=hp.tot;have h4:=hp.log h hk;have hm:=jj;have hn:=h.npos;have hok:=h.AD;have htr:=hp.ok.tr;have hkr:k<st.rbs.length:=by rw[h.llen];exact hk
 have hks:k<st.since.length:=by rw[h.slen];exact hk
 have hla:gE st.tr (aR st.tr (st.q.S k).log) cm=false:=by
  have:=htr.goes hok hk cm;rw[hgo]at this
  have h9:kV st.tr (aR st.tr (st.q.S k).log) cm=false:=by
   cases hq:kV st.tr (aR st.tr (st.q.S k).log) cm
   ·rfl
   rw[hq]at this;simp at this
  exact h9
 obtain⟨hcm,htx⟩:=eU hr;obtain⟨x,x1,x2,x3,x4⟩:=zv k (by omega) (st.q.S k).log (by omega) cm hcm;have hax:=h.Bj hp.ok hk;have hlg:∀i,i<st.n→(st.q.S i).log.length≤u:=fun i hi=>hp.log h hi
 obtain⟨S',hS'⟩:∃S',S'=bR st.q.S k (uQ st.n k (st.q.S k) x):=⟨_,rfl⟩
 have hSk:S' k=uQ st.n k (st.q.S k) x:=by rw[hS',aD]
 have hSo:∀i,i≠k→S' i=st.q.S i:=fun i hi=>by rw[hS',az _ _ hi]
 have hlk:(S' k).log=(st.q.S k).log++[x]:=by rw[hSk];rfl
 have hlo:∀i,i≠k→(S' i).log=(st.q.S i).log:=fun i hi=>by rw[hSo i hi]
 have hgrow:∀j,j<st.n→∃l,(S' j).log=(st.q.S j).log++l:=fun j _=>by
  by_cases e:j=k
  ·subst e;exact⟨_,hlk⟩
  exact⟨[],by rw[hlo j e];simp⟩
 have hd:(⟨k,x.seq,aQ x.c,x.c,aR st.tr (st.q.S k).log⟩:Dn)=⟨k,(own st.tr k).length+1,s,cm,aR st.tr (st.q.S k).log⟩:=by
  rw[x2,x4,htx,vG htr hok hk]
 obtain⟨dn,hdn⟩:∃dn:Dn,dn=⟨k,(own st.tr k).length+1,s,cm,aR st.tr (st.q.S k).log⟩:=⟨_,rfl⟩
 have hT':cC st.n S' (st.tr++[dn]):=by
  have:=htr.done hok hk hlk hlo x1 x2 x3;rw[hd,←hdn]at this
  exact this
 have hids:∀i,i<st.n→aR (st.tr++[dn]) (st.q.S i).log=aR st.tr (st.q.S i).log:=fun i hi=>ub htr hT' hi
 have hidk:aR (st.tr++[dn]) (S' k).log=aR st.tr (st.q.S k).log++[mV (st.tr++[dn]) x]:=by
  rw[hlk,←hids k hk];simp[aR]
 obtain⟨q',hq'⟩:∃q':Qn,q'={st.q with S:=S'}:=⟨_,rfl⟩
 have hqS:q'.S=S':=by rw[hq']
 have wok:∀st',zP st k q' st.n st'→mM (st'.done k dn):=by
  rintro st' ⟨d,hd9,hX,hq,hx,hf,hxk⟩
  have e1:st'.n=st.n:=hX.n;have e2:st'.tr=st.tr:=hX.tr;refine⟨?_,fun i hi xs f hxs hfs=>?_,hX.ok.bkm⟩
  ·show cC st'.n st'.q.S (st'.tr++[dn])
   rw[e1,e2,hq,hqS];exact hT'
  have hi':i<st.n:=by rw[←e1];exact hi
  have hxs':st'.xss[i]?=some xs:=hxs;have hfs':(st'.fresh.set k true)[i]?=some f:=hfs;show ∃m,m≤(st'.q.S i).log.length∧xs=(aR (st'.tr++[dn]) (st'.q.S i).log).take m∧(f=true∨m=(st'.q.S i).log.length)
  rw[e2,hq,hqS];by_cases e:i=k
  ·subst e;rw[hxk,Option.some.injEq]at hxs'
   rw[D0 (by omega),Option.some.injEq]at hfs';refine⟨(st.q.S i).log.length,by rw[hlk,Cz];omega,?_,.inl hfs'.symm⟩;rw[hidk,←hxs',List.take_append_of_le_length (by rw[cB];omega),CX (by rw[cB];omega)]
  rw[DZ (Ne.symm e)]at hfs';obtain⟨m,m1,m2,m3⟩:=hX.ok.kn i (by show i<st'.n;omega) xs f hxs' hfs';have m1':m≤(st.q.S i).log.length:=m1;have m2':xs=(aR st'.tr (st.q.S i).log).take m:=m2;have m3':f=true∨m=(st.q.S i).log.length:=m3;rw[hlo i e,hids i hi'];rw[e2]at m2'
  exact⟨m,m1',m2',m3'⟩
 refine(wA (aw LB NB) h hk (aR st.tr (st.q.S k).log) (ix h ho hg hp.ok hk (by omega) (by omega)) s hs cm hr (py htr hk) htr.small (by omega) (by rw[cB];omega) hla q' (zP st k q') (fun i=>aR st.tr (st.q.S i).log) ?_ ?_ ?_ ?_ ?_ (by omega) ?_ (aR (st.tr++[dn]) (S' k).log) ?_ ?_ ?_).mono ?_
 ·refine⟨4,by omega,hax,rfl,?_,?_,?_⟩
  ·simp[aS.did,aS.asked,h.xlen]
  ·simp[aS.did,aS.asked,h.flen]
  have:k<st.xss.length:=by rw[h.xlen];exact hk
  simp[aS.did,aS.asked,this]
 ·rintro i st' ⟨d,-,hX,-,-,-,hxk⟩
  exact⟨hX.n,hX.tr,hX.since,hxk⟩
 ·rintro st' ⟨d,hd9,hX⟩
  exact⟨d,by omega,hX⟩
 ·rintro i st' hne hi ⟨d,hd9,hX,hq,hx,hf,hxk⟩
  refine⟨⟨d+4,by omega,hX.trans ?_,hq,by simp[aS.asked,hx],by simp[aS.asked,hf],?_⟩,by rw[cB];have:=hlg i hi;omega,Ai htr hok hk hi hne h8⟩
  ·have e1:st'.n=st.n:=hX.n;have e2:st'.tr=st.tr:=hX.tr;have:=hX.ok.asked (by show st'.xss.length=st'.n;omega) (by show st'.fresh.length=st'.n;omega) (k:=i) (by show i<st'.n;omega) (by show(st.q.S i).log.length≤_;have:=hlg i hi;omega);have h9:mM (aS.asked {st' with q:=st.q} i (aR st'.tr (st.q.S i).log)):=this;have e9:aR st'.tr (st.q.S i).log=aR st.tr (st.q.S i).log:=by rw[e2]
   rw[e9]at h9;exact⟨rfl,rfl,rfl,rfl,rfl,rfl,by simp[aS.asked],h9⟩
  simp only[aS.asked];rw[DZ hne];exact hxk
 ·rintro i w' c' L' st' hne hi hM ⟨d,hd9,hX,hq,hx,hf,hxk⟩ hst
  have e1:st'.n=st.n:=hX.n;have e2:st'.tr=st.tr:=hX.tr;have e3:st'.bk.length=st.bk.length+d:=hX.bk;have:=zJ hM (ho.step hst) hg (S:=st.q.S) (k:=i) (by rw[e1,e2];exact htr) (by rw[e1];exact hok) (by omega) (by rw[hq,hqS,hlo i hne]) (fun xs f hxs hfs=>hX.ok.kn i (by show i<st'.n;omega) xs f hxs hfs) (by rw[e2];omega) (by omega);rw[e2]at this
  exact this
 ·intro y hy;obtain⟨i,hi,rfl⟩:=DD.1 hy;have:=(hp.room i (by rw[←h.slen];exact hi) _ (Cr hi)).2;omega
 ·rw[cB,cB,hlk,Cz]
  rfl
 ·intro w' c' L' hM hst;refine(zQ hM (ho.step hst) hg (k:=k) hk (Cr hkr) (by show bn st.n st.q.S<LB;omega) s hs).mono ?_;rintro e w2 (q|⟨cm',q,q2,-⟩|⟨cm',q,-,q2,-⟩|⟨y,q,-,-,y1,y2,y3,y4,c2,hM2,hst2⟩)
  ·rw[hr]at q;cases q.1
  ·rw[hr,Option.some.injEq]at q;rw[←q]at q2
   have q3:dt (aK (st.q.S k).log (st.q.S k).log) cm=false:=q2;rw[hgo]at q3
   cases q3
  ·have q3:8≤bj (st.q.S k).its:=q2;omega
  rw[hr,Option.some.injEq]at q;have exy:y=x:=zF (y1.trans x1.symm) (Eq.trans y2 x2.symm) (Eq.trans y3 x3.symm) (by rw[x4,←q]);subst exy;refine⟨y4,c2,?_,hst2⟩;rw[hq',hS'];exact hM2
 ·intro w' c' L' st' hM hQ hst;rw[←hdn]at hM ⊢
  obtain⟨d,hd9,hX,hq,hx,hf,hxk⟩:=id hQ;have e1:st'.n=st.n:=hX.n;have e2:st'.tr=st.tr:=hX.tr;have e3:st'.bk.length=st.bk.length+d:=hX.bk;have:=ix hM (ho.step hst) hg (wok st' hQ) (k:=k) (by show k<st'.n;omega) (by show(st'.tr++[dn]).length≤_;rw[Cz,e2,List.length_singleton];omega) (by show st'.bk.length≤_;omega);have h9:bz (aB LB NB) w' c' L' (st'.done k dn) k (aR (st'.tr++[dn]) (st'.q.S k).log):=this;rw[e2,hq,hqS]at h9
  exact h9
 rintro e w' ⟨rfl,c',L',st',hwb,hM,hQ,hst⟩
 rw[←hdn]at hM;obtain⟨d,hd9,hX,hq,hx,hf,hxk⟩:=id hQ;have e1:st'.n=st.n:=hX.n;have e2:st'.tr=st.tr:=hX.tr;have e3:st'.bk.length=st.bk.length+d:=hX.bk;have e4:st'.since=st.since:=hX.since;have e5:st'.sp=st.sp:=hX.sp;have hw:=wok st' hQ;have hll:((st'.done k dn).q.S k).log.length≤10000000000:=by
  show(st'.q.S k).log.length≤_
  rw[hq,hqS,hlk,Cz,List.length_singleton];omega
 have hw2:mM ((st'.done k dn).asked k (aR (st.tr++[dn]) (S' k).log)):=by
  have:=hw.asked (by show st'.xss.length=st'.n;omega) (by show(st'.fresh.set k true).length=st'.n;rw[List.length_set];omega) (k:=k) (by show k<st'.n;omega) hll;have h9:mM ((st'.done k dn).asked k (aR (st'.tr++[dn]) (st'.q.S k).log)):=this;rw[e2,hq,hqS]at h9
  exact h9
 refine⟨rfl,c',L',_,hwb,hM,hst,⟨hw2,?_,?_,fun i hi=>?_,?_,?_,?_,?_,?_,fun i hi m hmm=>?_⟩,e1,e5⟩
 ·show(st'.tr++[dn]).length=bn st'.n st'.q.S
  rw[e1,e2,hq,hqS,hS',nI hk x1,Cz,List.length_singleton,h3]
 ·show dK st'.n st'.q.S st'.q.air
  rw[e1,hq,hqS,hq'];exact hp.air.grow hok hgrow
 ·show(st'.q.S i).now≤_
  have hi':i<st.n:=by rw[←e1];exact hi
  have h9:=hp.now i hi';rw[hq,hqS];by_cases e:i=k
  ·subst e;rw[hSk];show(st.q.S i).now≤_
   omega
  rw[hSo i e];omega
 ·show(st'.tr++[dn]).length≤_
  rw[Cz,e2,List.length_singleton];omega
 ·have h9:((st'.done k dn).asked k (aR (st.tr++[dn]) (S' k).log)).bk.length=st'.bk.length+4:=by simp[aS.asked,aS.done]
  rw[h9];omega
 ·show st'.q.bb.length≤_
  rw[hq,hq'];show st.q.bb.length≤_
  have:=hp.bb;omega
 ·show st'.q.bf.length≤_
  rw[hq,hq'];show st.q.bf.length≤_
  have:=hp.bf;omega
 ·show st'.q.air.length≤_
  rw[hq,hq'];show st.q.air.length≤_
  have:=hp.airl;omega
 have hi':i<st.n:=by rw[←e1];exact hi
 have hm2:(st'.since.set k (st'.since[k]?.getD 0+1))[i]?=some m:=hmm;show bj (st'.q.S i).its≤m∧_
 rw[hq,hqS];rw[e4]at hm2
 by_cases e:i=k
 ·subst e;rw[D0 hks,Option.some.injEq,Cr hks,Option.getD_some]at hm2
  have h9:=hp.room i hi' _ (Cr hks);have h10:=vK (n:=st.n) (i:=i) hn.2 (s:=st.q.S i) x (by have:=hp.now i hi';omega);rw[hSk];omega
 rw[DZ (Ne.symm e)]at hm2;have h9:=hp.room i hi' _ hm2;rw[hSo i e];omega
theorem sl(h:ar (aB LB NB) w c L st)(ho:bN w0 c w)(hg:bH w0)(hp:cS st u)(hu:u≤1100000)(hLB:1200000≤LB)(hNB:NB≤1000000000000000)(hk:k<st.n)(s:ByteArray)(hs:s.size≤maxLen):Calls Tryz.prog 16 #[.pointer (some ⟨L.wb,0,none⟩),.int .i64 (k:Int),.string s] w fun e w'=>e=.returned (.bool true)∧gi LB NB w c L st (u+1) w':=by
 cases hr:aY s with
 |none=>exact zG h ho hg hp hu hLB hk s hs hr
 |some cm =>
  cases hgo:dt (aK (st.q.S k).log (st.q.S k).log) cm
  ·exact ur h ho hg hp hu hLB hk s hs hr hgo
  by_cases h8:8≤bj (st.q.S k).its
  ·exact yQ h ho hg hp hu hLB hk s hs hr hgo h8
  exact Aj h ho hg hp hu hLB hNB hk s hs hr hgo (by omega)
end
section
variable {w0 w W W':World} {LB NB:Nat} {c c':Nat→Nat} {L L':aC} {st st':aS Qn} {k u:Nat}
theorem gi.after(hwb:L'.wb=L.wb)(hst:aG w c W c')(hn:st'.n=st.n)(hs:st'.sp=st.sp)(h:gi LB NB W c' L' st' u W'):gi LB NB w c L st u W':=by
 obtain⟨c2,L2,st2,h1,h2,h3,h4,h5,h6⟩:=h;exact⟨c2,L2,st2,h1.trans hwb,h2,hst.trans h3,h4,h5.trans hn,h6.trans hs⟩
theorem gi.idle(h:ar (aB LB NB) w c L st)(hp:cS st u)(hb:Below w.heap.size w W):gi LB NB w c L st (u+1) W:=⟨c,L,st,rfl,h.below (aw LB NB) hb,aG.below hb,(hp.ask (gz.refl hp.ok) (by omega)),rfl,rfl⟩
theorem ar.AO(h:ar (aB LB NB) w c L st)(hk:k<st.q.air.length)(h0:0<st.q.air[k].2.2.length):∃ga capa zb cc C,w.cell? ⟨L.wb,4,none⟩=some (.slice (some ⟨ga,0,none⟩) st.q.air.length capa)∧w.cell? ⟨ga,k*3,none⟩=some (.int .i64 (st.q.air[k].1:Int))∧w.cell? ⟨ga,k*3+1,none⟩=some (.int .i64 (st.q.air[k].2.1:Int))∧w.cell? ⟨ga,k*3+2,none⟩=some (.slice (some ⟨zb,0,none⟩) st.q.air[k].2.2.length cc)∧w.heap[zb]?=some (.cells C 5 (0,0))∧aM w (.slice (some ⟨zb,0,none⟩) st.q.air[k].2.2.length cc) st.q.air[k].2.2∧c zb=20∧zb≠L.wb:=by
 obtain⟨avs,hal,harow,hac,hdat,-⟩:=h.air;have hka:k<avs.length:=by omega
 obtain⟨q1,q2,q3⟩:=gO st.q.air avs hal hk;obtain⟨d1,d2⟩:=hdat k hka hk;rcases id harow.2 with⟨h1,h2⟩|⟨ga,capa,cur,h1,-,-,-⟩
 ·omega
 rcases id d1.2 with⟨g1,g2⟩|⟨zb,cc,C,g1,-,g3,-⟩
 ·omega
 have hrow2:=harow;rw[h1]at hrow2
 have cel:∀j v,(au st.q.air avs)[j]?=some v→w.cell? ⟨ga,j,none⟩=some v:=fun j v hv=>by
  have:=World.ownsRow.cells hrow2 (g:=ga) rfl j v hv;rwa[CS,CJ]at this
 have hcz:=d2 zb (by rw[g1];rfl);refine⟨ga,capa,zb,cc,C,?_,cel _ _ q1,cel _ _ q2,by rw[←g1];exact cel _ _ q3,g3,by rw[←g1];exact dC d1,hcz,fun e=>?_⟩
 ·rw[h.cell,←h1];simp[aC.C]
 rw[e,h.wbc]at hcz;omega
theorem dK.at{air:List (Nat×Nat×List UInt8)}(h:dK n S air)(hk:k<air.length):∃l,fB n S l∧lA air[k] l∧5≤air[k].2.2.length∧air[k].2.2.length≤200:=by
 obtain⟨l,h1,h2⟩:=h _ (List.getElem_mem hk);have:=(dy _).1 h2.2.2.ok;exact⟨l,h1,h2,this.1,this.2.1⟩
theorem wE(h:ar (aB LB NB) w c L st)(ho:bN w0 c w)(hg:bH w0)(hp:cS st u)(hl:fB st.n st.q.S l)(hf:lA a l){zb:Nat}{C:Array Value}(hb:aM w (.slice (some ⟨zb,0,none⟩) a.2.2.length cc) a.2.2)(hz:w.heap[zb]?=some (.cells C 5 (0,0))):Calls Tryz.prog 70 #[.pointer (some ⟨L.wb,0,none⟩),.int .i64 (a.1:Int),.int .i64 (a.2.1:Int),.slice (some ⟨zb,0,none⟩) a.2.2.length cc] w fun e w'=>e=.returned (.bool true)∧gi LB NB w c L st (u+1) w':=by
 obtain⟨f1,f2,f3⟩:=hf;have hlen:=(dy _).1 f3.ok;rw[f1,f2];refine(j9 h ho hg hl.dst (fr:=(l.src:Int)) (.inl ⟨l,hl,f3,rfl,rfl,rfl⟩) (by omega) hb fun b o e=>?_).mono ?_
 ·simp only[Option.some.injEq,Addr.mk.injEq]at e;rw[←e.1];exact⟨C,hz⟩
 rintro e w' ⟨rfl,c',L',hwb,hrv,hM,hst⟩
 have hok:=h.AD;have hall:∀x∈[l],fB st.n st.q.S x:=fun x hx=>by
  simp only[Co,Cq,or_false]at hx;rw[hx];exact hl
 have e1:bR st.q.S l.dst (dY (st.q.S l.dst) l)=aL st.q.S [l]:=rfl;refine⟨rfl,c',L',_,hwb,hM,hst,?_,rfl,rfl⟩;rw[e1];refine hp.grow (S':=aL st.q.S [l]) (air:=st.q.air) (bb:=st.q.bb) (bf:=st.q.bf) h.flen (jr hok hall) (fun i hi=>iq i hok hall) (fun j hj=>dA j _ _) ((kK.refl st.n st.fresh st.q.S).take l) (fun i hi=>?_) (fun i hi=>fX i _ _) (hp.air.grow hok fun j hj=>dA j _ _) (by omega) (by omega) (by omega);rw[ir];omega
theorem vk(h:ar (aB LB NB) w c L st)(ho:bN w0 c w)(hg:bH w0)(hp:cS st u)(hu:u≤1100000)(hk:k<st.n)(hH:oE st.n st.q.S fr k f st.q.S)(hfl:f.length≤1000000){zb:Nat}{C:Array Value}(hb:aM w (.slice (some ⟨zb,0,none⟩) f.length cc) f)(hz:w.heap[zb]?=some (.cells C 5 (0,0)))(hzc:c zb=0∨c zb=20):Calls Tryz.prog 72 #[.pointer (some ⟨L.wb,0,none⟩),.int .i64 fr,.int .i64 (k:Int),.slice (some ⟨zb,0,none⟩) f.length cc] w fun e w'=>e=.returned (.bool true)∧gi LB NB w c L st (u+1) w':=by
 have h1:=hp.trl;have h2:=hp.bk;refine(yl h ho hg hp.ok hk (by omega) (by omega) hH hfl hb hz hzc).mono ?_;rintro e w' ⟨rfl,c',L',st',hwb,hM,hst,hX,-⟩
 exact⟨rfl,c',L',st',hwb,hM,hst,hp.ask hX (by omega),hX.n,hX.sp⟩
theorem cS.Cg(hp:cS st u)(k:Nat):cS {st with q:={st.q with air:=st.q.air.take k++st.q.air.drop (k+1)}} u:=by
 have hal:(st.q.air.take k++st.q.air.drop (k+1)).length≤st.q.air.length:=by
  rw[Cz,CI,Ds];omega
 refine⟨⟨hp.ok.tr,hp.ok.kn,hp.ok.bkm⟩,hp.tot,hp.air.gone k,hp.now,hp.trl,hp.bk,hp.bb,hp.bf,?_,hp.room⟩;have:=hp.airl;show(st.q.air.take k++st.q.air.drop (k+1)).length≤_
 omega
def sG(LB NB:Nat)(w:World)(c:Nat→Nat)(L:aC)(st:aS Qn)(k u zb:Nat)(C:Array Value)(W:World):Prop:=∃c' L' st',L'.wb=L.wb∧ar (aB LB NB) W c' L' st'∧aG w c W c'∧cS st' u∧st'.n=st.n∧st'.sp=st.sp∧st'.q.S=st.q.S∧W.heap[zb]?=some (.cells C 5 (0,0))∧c' zb=20∧∀b,w.heap.size≤b→b<w.heap.size+2→b<W.heap.size∧c' b=0
theorem wh(h:ar (aB LB NB) w c L st)(hp:cS st u)(hu:u≤1100000)(hk:k<st.q.air.length){zb:Nat}{C:Array Value}(hz:w.heap[zb]?=some (.cells C 5 (0,0)))(hzc:c zb=20)(hzw:zb≠L.wb)(hb:Below w.heap.size w Wb)(hbs:Wb.heap.size=w.heap.size+2):Calls Tryz.prog 71 #[.pointer (some ⟨L.wb,0,none⟩),.int .i64 (k:Int)] Wb fun e w'=>e=.returned (.tuple #[])∧sG LB NB w c L st k u zb C w'∧∀b,b<Wb.heap.size→b≠L.wb→w'.heap[b]?=Wb.heap[b]?:=by
 have hal:=hp.airl;have hM:=(h.Az (aw LB NB)).below (aw LB NB) hb;have hst0:aG w c Wb (cD w c):=(aG.refl w c).Az.trans (aG.below hb);have hzl:=(Cn.1 hz).1;refine(yM hM (by omega) hk).mono ?_;rintro e w' ⟨rfl,c',rv',hM',hst,hsame⟩
 have hsz:=hst.size;refine⟨rfl,⟨c',{L with rv:=rv'},_,rfl,hM',hst0.trans hst,hp.Cg k,rfl,rfl,rfl,?_,?_,fun b h1 h2=>⟨by omega,?_⟩⟩,hsame⟩
 ·rw[hsame zb (by omega) hzw,hb.block zb hzl];exact hz
 ·rw[hst.col zb (by omega)];exact(if_pos hzl).trans hzc
 rw[hst.col b (by omega)];exact if_neg (by omega)
section
variable {zb:Nat} {C:Array Value}
theorem sG.below(h:sG LB NB w c L st k u zb C W)(hb:Below W.heap.size W W'):sG LB NB w c L st k u zb C W':=by
 obtain⟨c',L',st',hwb,hM,hst,hp,hn,hs,hS,hzW,hzc,hbx⟩:=h;have hsz:=hb.size;exact⟨c',L',st',hwb,hM.below (aw LB NB) hb,hst.trans (aG.below hb),hp,hn,hs,hS,(hb.block zb (Cn.1 hzW).1).trans hzW,hzc,fun b h1 h2=>⟨by have:=(hbx b h1 h2).1;omega,(hbx b h1 h2).2⟩⟩
theorem sG.go(h:sG LB NB w c L st k u zb C W):gi LB NB w c L st (u+1) W:=by
 obtain⟨c',L',st',hwb,hM,hst,hp,hn,hs,hS,hzW,hzc,hbx⟩:=h;exact⟨c',L',st',hwb,hM,hst,hp.ask (gz.refl hp.ok) (by omega),hn,hs⟩
theorem gi.zero(h:gi LB NB w c L st u W){b:Nat}(hb:b<w.heap.size)(h0:c b=0):W.heap[b]?=w.heap[b]?:=by
 obtain⟨c',L',st',h1,h2,h3,-⟩:=h;exact h3.zero b hb h0
theorem sG.fly(h:sG LB NB w c L st k u zb C W)(ho:bN w0 c w)(hg:bH w0)(hl:fB st.n st.q.S l)(hf:lA a l)(hb:aM w (.slice (some ⟨zb,0,none⟩) a.2.2.length cc) a.2.2)(hz:w.heap[zb]?=some (.cells C 5 (0,0))):Calls Tryz.prog 70 #[.pointer (some ⟨L.wb,0,none⟩),.int .i64 (a.1:Int),.int .i64 (a.2.1:Int),.slice (some ⟨zb,0,none⟩) a.2.2.length cc] W fun e w'=>e=.returned (.bool true)∧gi LB NB w c L st (u+1) w':=by
 obtain⟨c',L',st',hwb,hM,hst,hp,hn,hs,hS,hzW,hzc,hbx⟩:=h;have hbW:aM W (.slice (some ⟨zb,0,none⟩) a.2.2.length cc) a.2.2:=eX hb fun b o e hl=>by
  simp only[Option.some.injEq,Addr.mk.injEq]at e;rw[←e.1,hzW,hz]
 have:=wE hM (ho.step hst) hg hp (by rw[hn,hS];exact hl) hf hbW hzW;rw[hwb]at this
 refine this.mono ?_;rintro e w' ⟨rfl,hG⟩
 exact⟨rfl,hG.after hwb hst hn hs⟩
theorem sG.spoilt(h:sG LB NB w c L st k u zb C W)(hf:5≤f.length∧f.length≤200)(hb:aM w (.slice (some ⟨zb,0,none⟩) f.length cc) f)(hz:w.heap[zb]?=some (.cells C 5 (0,0)))(b2 c2:Int)(hb2 : -9223372036854775808≤b2∧b2≤9223372036854775807)(hc2 : -9223372036854775808≤c2∧c2≤9223372036854775807):Calls Tryz.prog 73 #[.slice (some ⟨zb,0,none⟩) f.length cc,.int .i64 b2,.int .i64 c2] W fun e w'=>uH W f e w':=by
 obtain⟨c',L',st',hwb,hM,hst,hp,hn,hs,hS,hzW,hzc,hbx⟩:=h;refine xf _ _ f hf b2 c2 hb2 hc2 W (eX hb fun b o e hl=>?_);simp only[Option.some.injEq,Addr.mk.injEq]at e;rw[←e.1,hzW,hz]
theorem sG.still(h:sG LB NB w c L st k u zb C W)(ho:bN w0 c w)(hg:bH w0)(hu:u≤1100000){e:Ending}(hok:okB f=true)(hS:uH W f e W')(fr:Int){ti:Nat}(hti:ti<st.n):∃g z cz,e=.returned (.slice (some ⟨z,0,none⟩) g cz)∧Below W.heap.size W W'∧Calls Tryz.prog 72 #[.pointer (some ⟨L.wb,0,none⟩),.int .i64 fr,.int .i64 (ti:Int),.slice (some ⟨z,0,none⟩) g cz] W' fun e w'=>e=.returned (.bool true)∧gi LB NB w c L st (u+1) w'∧∀b,w.heap.size≤b→b<w.heap.size+2→w'.heap[b]?=W'.heap[b]?:=by
 obtain⟨c',L',st',hwb,hM,hst,hp,hn,hs,hS1,hzW,hzc,hbx⟩:=h;obtain⟨g,z,cz,he,hown,hgl,hbad,hbel⟩:=hS;have hM2:=(hM.Az (aw LB NB)).below (aw LB NB) hbel;have hst2:aG w c W' (cD W c'):=hst.Az.trans (aG.below hbel);have hsz:=hbel.size;rcases id hown.2 with⟨h1,-⟩|⟨z2,cz2,C2,h1,hge,h3,-⟩
 ·simp at h1
 simp only[Value.slice.injEq,Option.some.injEq,Addr.mk.injEq,and_true,true_and]at h1;obtain⟨rfl,rfl⟩:=h1;have:=vk hM2 (ho.step hst2) hg hp hu (fr:=fr) (f:=g) (k:=ti) (by rw[hn];exact hti) (.inr (.inl ⟨hbad hok,rfl⟩)) (by omega) (dC (iD hown)) h3 (.inl (if_neg (by omega)));rw[hwb]at this
 refine⟨g.length,z,cz,he,hbel,this.mono ?_⟩;rintro e w' ⟨rfl,hG⟩
 refine⟨rfl,hG.after hwb hst2 hn hs,fun b h1 h2=>?_⟩;obtain⟨b1,b2⟩:=hbx b h1 h2;exact hG.zero (by omega) ((if_pos b1).trans b2)
end
theorem yk(h:ar (aB LB NB) w c L st)(ho:bN w0 c w)(hg:bH w0)(hp:cS st u)(hu:u≤1100000)(hl:fB st.n st.q.S l)(hf:lA a l){zb:Nat}{C:Array Value}(hb:aM w (.slice (some ⟨zb,0,none⟩) a.2.2.length cc) a.2.2)(hz:w.heap[zb]?=some (.cells C 5 (0,0)))(hzc:c zb=20)(hfr:fr=(a.2.1:Int)∨fr<0∨(st.n:Int)≤fr)(hbl:Below w.heap.size w Wb):Calls Tryz.prog 72 #[.pointer (some ⟨L.wb,0,none⟩),.int .i64 fr,.int .i64 (a.2.1:Int),.slice (some ⟨zb,0,none⟩) a.2.2.length cc] Wb fun e w'=>e=.returned (.bool true)∧gi LB NB w c L st (u+1) w':=by
 obtain⟨f1,f2,f3⟩:=hf;have hlen:=(dy _).1 f3.ok;have hzl:=(Cn.1 hz).1;have hM:=h.below (aw LB NB) hbl;have hbW:aM Wb (.slice (some ⟨zb,0,none⟩) a.2.2.length cc) a.2.2:=eX hb fun b o e hl=>by
  simp only[Option.some.injEq,Addr.mk.injEq]at e;rw[←e.1];exact hbl.block zb hzl
 have hs:=vk hM (ho.step (aG.below hbl)) hg hp hu (fr:=fr) (f:=a.2.2) (k:=a.2.1) (by rw[f2];exact hl.dst) (.inr (.inr ⟨l.src,l.dst,l.h,l.es,f3,?_,rfl⟩)) (by omega) hbW ((hbl.block zb hzl).trans hz) (.inr hzc)
 ·refine hs.mono ?_;rintro e w' ⟨rfl,hG⟩
  exact⟨rfl,hG.after rfl (aG.below hbl) rfl rfl⟩
 unfold gS;refine decide_eq_false fun q=>?_
 have h1:=hl.src;obtain⟨q1,q2,q3,-⟩:=q;rcases hfr with e|e|e
 ·exact q2 e
 ·omega
 omega
end
end
end Go.Proofs.YtckmppkdpnhodaaGreatDoor
