import Derived.Test.YtckmppkdpnhodaaGreatDoorT37
import Derived.Test.YtckmppkdpnhodaaGreatDoorT00
set_option maxRecDepth 100000
set_option maxHeartbeats 8000000
set_option linter.unusedVariables false
set_option linter.unusedSimpArgs false
open List renaming mem_cons_self→Db,mem_cons_of_mem→CQ,append_nil→Da,length_append→Cz,take_length→Dr,append_assoc→De,flatMap_cons→CV,getElem?_set_ne→DZ,getElem_mem→CN,length_take→CI,mem_cons→Co,not_mem_nil→Cq,take_append_drop→DB,getElem?_eq_some_iff→CT,getElem?_eq_getElem→Cr,mem_map→CO,drop_eq_getElem_cons→C9,getElem?_set_self→D0,map_map→DR,map_congr_left→Eb,getElem?_map→Dj
open Nat renaming le_refl→Cl,zero_add→CJ,zero_le→CB,sub_self→Dt,le_trans→CC,mul_one→DK,add_assoc→DF
open Go.Addr renaming add_mid→CS
open Bool renaming and_eq_true→C1
open Array renaming getElem?_eq_some_iff→Cn
open Go.RowKit.Below renaming refl→Ck
open Go.ByteArray renaming toList_eq→CZ
namespace Go.Proofs.YtckmppkdpnhodaaGreatDoor
open Go.RowKit Go.Proofs
variable {cc g i p rb:Nat} {f:List UInt8} {fr:List Bool} {x y:En}
section
variable {w0 w W:World} {LB NB:Nat} {c:Nat→Nat} {L:aC} {st:aS Qn}
theorem xQ(h:ar (aB LB NB) w c L st)(ho:bN w0 c w){k:Nat}(hk:k<st.n)(hrb:st.rbs[k]?=some rb)(hnb:(st.q.S k).now<NB):Calls Tryz.prog 25 #[.pointer (some ⟨rb,0,none⟩)] w fun e w'=>e=.returned (.tuple #[])∧∃c',ar (aB LB NB) w' c' L {st with q:={st.q with S:=bR st.q.S k (eC (st.q.S k))}}∧aG w c w' c':=by
 obtain⟨c2,d,avs,bus,fus,hI,hF,hN⟩:=h.AZ ho;have e:rb=d.rb k:=by
  have:=hI.rbl k hk;rw[hrb]at this
  simpa using this
 rw[e];refine(zj hN hk hnb).mono ?_;rintro e w' ⟨rfl,d',hN',sp⟩
 obtain⟨c',hm,hst⟩:=h.A4 hI hF hN' sp;exact⟨rfl,c',hm,hst⟩
def lA(a:Nat×Nat×List UInt8)(l:Lt):Prop:=a.1=l.src∧a.2.1=l.dst∧Bears l a.2.2
def uR(LB NB:Nat)(w:World)(c:Nat→Nat)(L:aC)(st:aS Qn)(i:Nat)(W:World):Prop:=∃c',ar (aB LB NB) W c' L {st with q:={st.q with S:=cO st.q.S i}}∧aG w c W c'
def uI(LB NB:Nat)(w:World)(c:Nat→Nat)(L:aC)(st:aS Qn)(i:Nat)(W:World):Prop:=∃c' rv' Sa new Ls bb' bf',cE st.n i (cO st.q.S st.n) Sa Ls∧er lA new Ls∧new.length≤65*i∧bb'.length≤st.q.bb.length+260*i∧bf'.length≤st.q.bf.length+4*i∧ar (aB LB NB) W c' {L with rv:=rv'} {st with q:=⟨Sa,st.q.air++new,bb',bf'⟩}∧aG w c W c'
theorem iv{k:Nat}:∀{os:List (Nat×Value×List UInt8)} {Ls:List Lt},er (fun(o:Nat×Value×List UInt8) (L:Lt)=>o.1=L.dst∧Bears L o.2.2) os Ls→(∀l∈Ls,l.src=k)→er lA (os.map fun o=>(k,o.1,o.2.2)) Ls
 |[],[],_,_=>trivial
 |[],_::_,h,_=>h.elim
 |_::_,[],h,_=>h.elim
 |_::_,l::Ls,h,hs=>⟨⟨(hs l (Db ..)).symm,h.1.1,h.1.2⟩,iv h.2 fun x hx=>hs x (CQ _ hx)⟩
theorem uR.tick(h:uR LB NB w c L st i W)(ho:bN w0 c w)(hi:i<st.n)(hrb:st.rbs[i]?=some rb)(hnb:∀k,k<st.n→(st.q.S k).now<NB):Calls Tryz.prog 25 #[.pointer (some ⟨rb,0,none⟩)] W fun e w'=>e=.returned (.tuple #[])∧uR LB NB w c L st (i+1) w':=by
 obtain⟨c',hM,hst⟩:=h;refine(xQ hM (ho.step hst) hi hrb (by show(cO st.q.S i i).now<NB;unfold cO;rw[if_neg (by omega)];exact hnb i hi)).mono ?_;rintro e w' ⟨rfl,c2,hM2,hst2⟩
 refine⟨rfl,c2,?_,hst.trans hst2⟩;rw[pO];exact hM2
theorem uR.start(h:uR LB NB w c L st st.n W):uI LB NB w c L st 0 W:=by
 obtain⟨c',hM,hst⟩:=h;refine⟨c',L.rv,cO st.q.S st.n,[],[],st.q.bb,st.q.bf,cE.start _ _,trivial,by simp,by omega,by omega,?_,hst⟩;rw[Da];exact hM
theorem uI.take(h:uI LB NB w c L st i W)(ho:bN w0 c w)(hg:bH w0)(hi:i<st.n)(hN1:st.q.bb.length≤80000000000)(hN2:st.q.bf.length≤9000000000)(hN3:st.q.air.length≤900000000)(hn5:st.n≤5):Calls Tryz.prog 36 #[.pointer (some ⟨L.wb,0,none⟩),.int .i64 (i:Int)] W fun e w'=>e=.returned (.bool true)∧uI LB NB w c L st (i+1) w':=by
 obtain⟨c',rv,Sa,new,Ls,bb,bf,hT,hB,hl,hbb,hbf,hM,hst⟩:=h;refine(uZ hM (ho.step hst) hg hi (by show bb.length≤_;omega) (by show bf.length≤_;omega) (by show(st.q.air++new).length≤_;rw[Cz];omega)).mono ?_;rintro e w' ⟨rfl,fv,os,Lm,s',w1,hF,c2,rv2,bb2,bf2,hb2,hf2,hM2,hst2⟩
 have hlen:=hF.len;have hsrc:∀l∈Lm,l.src=i:=fun l hl=>(hF.tos.ok l hl).1
 have hnew:dP i os os.length=os.map fun o=>(i,o.1,o.2.2):=by unfold dP;rw[Dr]
 refine⟨rfl,c2,rv2,bR Sa i s',new++dP i os os.length,Ls++Lm,bb2,bf2,hT.step hF.tos,hB.append (by rw[hnew];exact iv hF.both hsrc),by rw[Cz,ji i (Cl _)];omega,?_,?_,?_,hst.trans hst2⟩
 ·rw[hb2];show bb.length+4*os.length≤_;omega
 ·rw[hf2];show bf.length+4≤_;omega
 rw[←De];exact hM2
end
theorem gO(air:List (Nat×Nat×List UInt8))(avs:List Value)(hl:avs.length=air.length){k:Nat}(hk:k<air.length):(au air avs)[k*3]?=some (.int .i64 (air[k].1:Int))∧(au air avs)[k*3+1]?=some (.int .i64 (air[k].2.1:Int))∧(au air avs)[k*3+2]?=some (avs[k]'(by omega)):=by
 have h:=iJ (fun x:(Nat×Nat×List UInt8)×Value=>[Value.int .i64 (x.1.1:Int),.int .i64 (x.1.2.1:Int),x.2]) 3 (fun _=>rfl) (air.zip avs) k;have hz:k<(air.zip avs).length:=by rw[List.length_zip];omega
 exact⟨by have:=h 0 hz (by omega);simpa[au] using this,by have:=h 1 hz (by omega);simpa[au] using this,by have:=h 2 hz (by omega);simpa[au] using this⟩
theorem fo:∀(air:List (Nat×Nat×List UInt8)) (avs:List Value),avs.length=air.length→(au air avs).length=air.length*3
 |[],_,_=>by simp[au]
 |_::_,[],h=>by simp at h
 |a::air,v::avs,h=>by
  have:=fo air avs (by simpa using h);unfold au at this ⊢;rw[List.zip_cons_cons,CV,Cz,this];simp only[List.length_cons,List.length_nil];omega
def kK(n:Nat)(fr:List Bool)(S:Nat→Sr)(fr':List Bool)(S':Nat→Sr):Prop:=∀k,k<n→fr'[k]?=some false→fr[k]?=some false∧(S' k).log=(S k).log
theorem kK.refl(n:Nat)(fr:List Bool)(S:Nat→Sr):kK n fr S fr S:=fun _ _ h=>⟨h,rfl⟩
theorem kK.take{n:Nat}{fr':List Bool}{S S':Nat→Sr}(h:kK n fr S fr' S')(l:Lt):kK n fr S (fr'.set l.dst true) (bR S' l.dst (dY (S' l.dst) l)):=fun k hk he=>by
 by_cases e:k=l.dst
 ·subst e;rw[List.getElem?_set]at he
  split at he
  ·split at he
   ·simp at he
   simp at he
  omega
 rw[DZ (Ne.symm e)]at he;rw[az _ _ e];exact h k hk he
section
variable {w0 w W:World} {LB NB:Nat} {c:Nat→Nat} {L:aC} {st:aS Qn} {rv:cX} {Sa:Nat→Sr} {new:List (Nat×Nat×List UInt8)} {Ls:List Lt} {bb:List (Nat×Nat)} {bf:List (Nat×Int)} {t:Nat}
def xN(LB NB:Nat)(w:World)(c:Nat→Nat)(L:aC)(st:aS Qn)(rv:cX)(Sa:Nat→Sr)(new:List (Nat×Nat×List UInt8))(Ls:List Lt)(bb:List (Nat×Nat))(bf:List (Nat×Int))(t:Nat)(W:World):Prop:=∃c' L' fr',L'.wb=L.wb∧L'.rv=rv∧kK st.n st.fresh Sa fr' (aL Sa (Ls.take t))∧ar (aB LB NB) W c' L' {st with q:=⟨aL Sa (Ls.take t),st.q.air++new,bb,bf⟩,fresh:=fr'}∧aG w c W c'
theorem xN.go(h:xN LB NB w c L st rv Sa new Ls bb bf t W)(hok:ay st.n st.q.S)(hT:cE st.n st.n (cO st.q.S st.n) Sa Ls)(hB:er lA new Ls)(ho:bN w0 c w)(hg:bH w0)(ht:t<new.length):∃ga capa p cap,rv.av=.slice (some ⟨ga,0,none⟩) (st.q.air.length+new.length) capa∧W.cell? ⟨L.wb,4,none⟩=some rv.av∧W.cell? ⟨ga,(st.q.air.length+t)*3,none⟩=some (.int .i64 (new[t].1:Int))∧W.cell? ⟨ga,(st.q.air.length+t)*3+1,none⟩=some (.int .i64 (new[t].2.1:Int))∧W.cell? ⟨ga,(st.q.air.length+t)*3+2,none⟩=some (.slice p new[t].2.2.length cap)∧∀Wl,Below W.heap.size W Wl→Calls Tryz.prog 70 #[.pointer (some ⟨L.wb,0,none⟩),.int .i64 (new[t].1:Int),.int .i64 (new[t].2.1:Int),.slice p new[t].2.2.length cap] Wl fun e w'=>e=.returned (.bool true)∧xN LB NB w c L st rv Sa new Ls bb bf (t+1) w':=by
 obtain⟨c',L',fr',hwb,hrv,hfr,hM,hst⟩:=h;obtain⟨avs,hal,harow,hac,hdat,-⟩:=hM.air;simp only at hal harow hdat;have hlen:(st.q.air++new).length=st.q.air.length+new.length:=Cz;have hi:st.q.air.length+t<(st.q.air++new).length:=by omega
 have hget:(st.q.air++new)[st.q.air.length+t]=new[t]:=by rw[List.getElem_append_right (by omega)];congr 1;omega
 have hLs:t<Ls.length:=by rw[←hB.len];exact ht
 obtain⟨b1,b2,b3⟩:=hB.get ht hLs;have hn2:ay st.n (cO st.q.S st.n):=hok.tick.congr fun i hi=>by simp[cO,hi]
 have hlt:=(hT.lt hn2 (Cl _) _ (CN hLs)).1;obtain⟨hn3,hl3⟩:=hT.net hn2;have ht3:fB st.n Sa Ls[t]:=hn2.lt (fun i hi=>⟨[],by rw[hl3 i hi];simp⟩) hlt;have ht4:fB st.n (aL Sa (Ls.take t)) Ls[t]:=hn3.lt (fun i _=>dA i _ Sa) ht3;obtain⟨q1,q2,q3⟩:=gO (st.q.air++new) avs hal hi;rw[hget]at q1 q2
 have hd:=hdat (st.q.air.length+t) (by omega) hi;rw[hget]at hd
 obtain⟨p,cap,hv⟩:=dN hd.1;obtain⟨ga,capa,hga⟩:∃ga capa,rv.av=.slice (some ⟨ga,0,none⟩) (st.q.air.length+new.length) capa:=by
  rw[←hrv,←hlen];rcases harow.2 with⟨h1,h2⟩|⟨g,cap',cur,h1,-⟩
  ·omega
  exact⟨g,cap',h1⟩
 have hrow2:=harow;rw[hrv,hga]at hrow2
 have cel:∀j u,(au (st.q.air++new) avs)[j]?=some u→W.cell? ⟨ga,j,none⟩=some u:=fun j u hu=>by
  have:=World.ownsRow.cells hrow2 (g:=ga) rfl j u hu;rwa[CS,CJ]at this
 refine⟨ga,capa,p,cap,hga,?_,cel _ _ q1,cel _ _ q2,by rw[←hv];exact cel _ _ q3,fun Wl hb=>?_⟩
 ·rw[←hwb,hM.cell,←hrv];simp[aC.C]
 have hMl:=hM.below (aw LB NB) hb;have hol:=(ho.step hst).step (aG.below hb);have hdl:=aN hd.1 (w':=Wl) fun b hb' hl=>hb.block b hl
 have hby:aM Wl (.slice p new[t].2.2.length cap) new[t].2.2:=by rw[←hv];exact dC hdl
 have hDA:wV Wl p:=fun b o e=>by
  rcases hdl.2 with⟨h1,h2⟩|⟨g,cap',cur,h1,-,hgc,-⟩
  ·rw[hv]at h1;simp only[Value.slice.injEq]at h1;rw[e]at h1
   simp at h1
  rw[hv,e]at h1;simp only[Value.slice.injEq,Option.some.injEq,Addr.mk.injEq]at h1;rw[h1.1.1];exact⟨_,hgc⟩
 have hok2:=b3.ok;unfold okB at hok2;simp only[C1,decide_eq_true_eq]at hok2;have hx:=j9 hMl hol hg (ti:=Ls[t].dst) (fr:=(Ls[t].src:Int)) ht4.dst (.inl ⟨Ls[t],ht4,b3,rfl,rfl,rfl⟩) (by omega) hby hDA;rw[hwb,←b1,←b2]at hx
 refine hx.mono ?_;rintro e w' ⟨rfl,c2,L2,hw2,hr2,hM2,hst2⟩
 have hdel:aL Sa (Ls.take (t+1))=bR (aL Sa (Ls.take t)) Ls[t].dst (dY (aL Sa (Ls.take t) Ls[t].dst) Ls[t]):=by
  rw[List.take_succ_eq_append_getElem hLs,mC]
  rfl
 refine⟨rfl,c2,L2,fr'.set Ls[t].dst true,hw2,hr2.trans hrv,?_,?_,(hst.trans (aG.below hb)).trans hst2⟩
 ·rw[hdel];exact hfr.take _
 rw[hdel,←b2];exact hM2
theorem xp{w:World}{base:Nat}{e:TypeId}{s n cap k:Nat}{xs:List Value}(h:w.ownsRow base e s (.slice (some ⟨g,0,none⟩) n cap) n xs)(hk:k≤n):w.ownsRow base e s (.slice (some ⟨g,0,none⟩) k cap) k (xs.take (k*s))∧n≤cap:=by
 rcases h.2 with⟨h1,_⟩|⟨g',cap2,cur,hv,hb,hg,h1,h2,h3,h4⟩
 ·cases h1
 simp only[Value.slice.injEq,Option.some.injEq,Addr.mk.injEq,and_true,true_and]at hv;obtain⟨rfl,rfl⟩:=hv;have hm:k*s≤n*s:=Nat.mul_le_mul_right _ hk;refine⟨⟨?_,.inr ⟨g,cap,cur,rfl,hb,hg,by omega,h2,h3,?_⟩⟩,h1⟩
 ·rw[CI,h.1];omega
 rw[←h4,List.take_take,Nat.min_eq_left hm]
theorem ar.cut{air new:List (Nat×Nat×List UInt8)}{S:Nat→Sr}(h:ar (aB LB NB) W c L {st with q:=⟨S,air++new,bb,bf⟩}){capa:Nat}(hav:L.rv.av=.slice (some ⟨g,0,none⟩) (air.length+new.length) capa):ar (aB LB NB) (W.setCell ⟨L.wb,4,none⟩ (.slice (some ⟨g,0,none⟩) air.length capa)) c {L with rv:={L.rv with av:=.slice (some ⟨g,0,none⟩) air.length capa}} {st with q:=⟨S,air,bb,bf⟩}∧aG W c (W.setCell ⟨L.wb,4,none⟩ (.slice (some ⟨g,0,none⟩) air.length capa)) c:=by
 obtain⟨c2,d,avs,bus,fus,hI,hF⟩:=id h.rest;have wl:=(Cn.1 h.wbk).1;obtain⟨W9,hW9⟩:∃W9,W9=W.setCell ⟨L.wb,4,none⟩ (.slice (some ⟨g,0,none⟩) air.length capa):=⟨_,rfl⟩
 rw[←hW9];have up:an [some L.wb] W W9:=by rw[hW9];exact(an.refl _ W).setCell (.inl (by simp)) _
 have same:∀b,b<W.heap.size→c b≠1→W9.heap[b]?=W.heap[b]?:=fun b hb h1=>up.block b hb fun hm=>by
  simp only[Co,Cq,or_false,Option.some.injEq]at hm;rw[hm,h.wbc]at h1;omega
 refine⟨?_,up.os,up.tape,up.output,up.size,fun _ _=>rfl,fun b hb h0=>same b hb (by omega)⟩;refine ar.AQ h up.size (fun _ _ _ _=>rfl) (fun b hb _ _ h1=>same b hb h1) ?_ ?_
 ·rw[hW9,ae h.wbk];simp[aC.C]
 have hs:∀b,b<W.heap.size→c2 b≠0→W9.heap[b]?=W.heap[b]?:=fun b hl hc=>same b hl (by have:c b=20:=hF b hl hc;omega)
 have hI2:=hI.same (w':=W9) (c':=c2) up.size hs fun _ _=>rfl
 have hal:=hI.alen;simp only[Cz]at hal;have har:=hI2.arow;simp only[Cz]at har;rw[hav]at har
 have hcut:=(xp har (k:=air.length) (by omega)).1;refine⟨c2,d,avs.take air.length,bus,fus,{hI2 with arow:=?_,avc:=?_,alen:=?_,adat:=?_},fun b hl hc=>?_⟩
 ·have e:au (air++new) avs=au air (avs.take air.length)++au new (avs.drop air.length):=by
   have e1:avs=avs.take air.length++avs.drop air.length:=(DB ..).symm;unfold au;rw[←List.flatMap_append,←List.zip_append (by rw[CI];omega),←e1]
  have e3:(au air (avs.take air.length)).length=air.length*3:=by
   exact fo _ _ (by rw[CI];omega)
  rw[e,List.take_append_of_le_length (by omega),List.take_of_length_le (by omega)]at hcut;exact hcut
 ·intro b hb;exact hI2.avc b (by rw[hav];exact hb)
 ·simp only[CI];omega
 ·intro i h1 h2;have h1':=h1;rw[CI]at h1'
  have:=hI2.adat i (by omega) (by simp;omega);simp only[List.getElem_take];rw[show(air++new)[i]'(by simp;omega)=air[i] from List.getElem_append_left h2]at this
  exact this
 by_cases hl2:b<W.heap.size
 ·exact hF b hl2 hc
 have hz:W9.heap.size=W.heap.size:=by rw[hW9,aj]
 omega
end
section
variable {w0 w W:World} {LB NB:Nat} {c:Nat→Nat} {L:aC} {st:aS Qn} {rv:cX} {Sa:Nat→Sr} {new:List (Nat×Nat×List UInt8)} {Ls:List Lt} {bb:List (Nat×Nat)} {bf:List (Nat×Int)} {t:Nat}
def za(LB NB:Nat)(w:World)(c:Nat→Nat)(L:aC)(st:aS Qn)(w':World):Prop:=∃c' L' fr' S' bb' bf',L'.wb=L.wb∧nD st.n st.q.S S'∧kK st.n st.fresh st.q.S fr' S'∧(∀k,k<st.n→(S' k).now=(st.q.S k).now+1)∧bb'.length≤st.q.bb.length+1300∧bf'.length≤st.q.bf.length+20∧ar (aB LB NB) w' c' L' {st with q:=⟨S',st.q.air,bb',bf'⟩,fresh:=fr'}∧aG w c w' c'
theorem xN.fin(h:xN LB NB w c L st rv Sa new Ls bb bf new.length W)(hok:ay st.n st.q.S)(hT:cE st.n st.n (cO st.q.S st.n) Sa Ls)(hB:er lA new Ls)(hbb:bb.length≤st.q.bb.length+1300)(hbf:bf.length≤st.q.bf.length+20):∃p cap,rv.av=.slice p (st.q.air.length+new.length) cap∧st.q.air.length+new.length≤cap∧W.cell? ⟨L.wb,4,none⟩=some rv.av∧W.frozen? ⟨L.wb,4,none⟩=false∧za LB NB w c L st (W.setCell ⟨L.wb,4,none⟩ (.slice p st.q.air.length cap)):=by
 obtain⟨c',L',fr',hwb,hrv,hfr,hM,hst⟩:=h;have hn2:ay st.n (cO st.q.S st.n):=hok.tick.congr fun i hi=>by simp[cO,hi]
 obtain⟨hn3,hl3⟩:=hT.net hn2;have hlk:∀k,k<st.n→(Sa k).log=(st.q.S k).log:=fun k hk=>by
  rw[hl3 k hk];unfold cO;rw[if_pos hk]
  rfl
 have htk:Ls.take new.length=Ls:=by rw[hB.len,Dr]
 rw[htk]at hfr hM;have hR:nD st.n st.q.S (aL Sa Ls):=xh hok (fun i hi=>by simp[cO,hi]) hT (fun l hl=>hl) (fun l hl=>hl);have hF2:kK st.n st.fresh st.q.S fr' (aL Sa Ls):=fun k hk he=>⟨(hfr k hk he).1,(hfr k hk he).2.trans (hlk k hk)⟩
 have hnw:∀k,k<st.n→(aL Sa Ls k).now=(st.q.S k).now+1:=fun k hk=>by
  rw[ir,hT.now];unfold cO;rw[if_pos hk]
  rfl
 have hcell:W.cell? ⟨L.wb,4,none⟩=some rv.av:=by rw[←hwb,hM.cell,←hrv];simp[aC.C]
 have hfz:W.frozen? ⟨L.wb,4,none⟩=false:=by rw[←hwb];exact frozen_of_heap hM.wbk 4
 obtain⟨avs,hal,harow,-,-,-⟩:=hM.air;simp only[Cz]at harow;rw[hrv]at harow
 rcases harow.2 with⟨h1,h2⟩|⟨g,cap,cur,h1,hb,hg,h3,-⟩
 ·have e1:st.q.air=[]:=List.eq_nil_of_length_eq_zero (by omega);have e2:new=[]:=List.eq_nil_of_length_eq_zero (by omega);refine⟨none,0,by rw[h1,h2],by omega,hcell,hfz,c',L',fr',aL Sa Ls,bb,bf,hwb,hR,hF2,hnw,hbb,hbf,?_⟩;rw[e2,Da]at hM
  have hz:(st.q.air.length:Nat)=0:=by rw[e1];rfl
  rw[hz];obtain⟨W9,hW9⟩:∃W9,W9=W.setCell ⟨L.wb,4,none⟩ (.slice none 0 0):=⟨_,rfl⟩
  rw[←hW9];have up:an [some L.wb] W W9:=by rw[hW9];exact(an.refl _ W).setCell (.inl (by simp)) _
  have same:∀b,b<W.heap.size→W9.heap[b]?=W.heap[b]?:=fun b hb=>by
   by_cases e:b=L.wb
   ·subst e;have hk:=hM.wbk;rw[hwb]at hk
    rw[hW9,ae hk,hk];have hav:L'.rv.av=.slice none 0 0:=by rw[hrv];exact h1
    congr 2
    unfold aC.C;rw[hav]
    rfl
   exact up.block b hb (by simp;exact e)
  exact⟨hM.keep (aw LB NB) up.size fun b hb _=>same b hb,hst.trans ⟨up.os,up.tape,up.output,up.size,fun _ _=>rfl,fun b hb _=>same b hb⟩⟩
 have hc:=ar.cut (st:={st with fresh:=fr'}) (air:=st.q.air) (new:=new) (S:=aL Sa Ls) (g:=g) (capa:=cap) hM (by rw[hrv];exact h1);rw[hwb]at hc
 exact⟨some ⟨g,0,none⟩,cap,h1,h3,hcell,hfz,c',{L' with rv:={L'.rv with av:=.slice (some ⟨g,0,none⟩) st.q.air.length cap}},fr',aL Sa Ls,bb,bf,hwb,hR,hF2,hnw,hbb,hbf,by rw[hwb];exact hc.1,hst.trans hc.2⟩
end
theorem uR.reads{w W:World}{LB NB:Nat}{c:Nat→Nat}{L:aC}{st:aS Qn}(h:uR LB NB w c L st i W):W.cell? ⟨L.wb,0,none⟩=some (.int .i64 (st.n:Int))∧W.cell? ⟨L.wb,1,none⟩=some (.slice (some ⟨L.lb,0,none⟩) st.n L.capl)∧W.cell? ⟨L.wb,4,none⟩=some L.rv.av∧∀(k:Nat) (rb:Nat),st.rbs[k]?=some rb→W.cell? ⟨L.lb,k,none⟩=some (.pointer (some ⟨rb,0,none⟩)):=by
 obtain⟨c',hM,-⟩:=h;refine⟨by rw[hM.cell];simp[aC.C],by rw[hM.cell];simp[aC.C],by rw[hM.cell];simp[aC.C],fun k rb hk=>?_⟩;obtain⟨hl,e⟩:=CT.1 hk;have:=hM.lcell k hl;rw[this,←e]
theorem uI.reads{w W:World}{LB NB:Nat}{c:Nat→Nat}{L:aC}{st:aS Qn}(h:uI LB NB w c L st i W):W.cell? ⟨L.wb,0,none⟩=some (.int .i64 (st.n:Int)):=by
 obtain⟨c',rv,Sa,new,Ls,bb,bf,-,-,-,-,-,hM,-⟩:=h;have:=hM.cell 0;rw[show(⟨L.wb,0,none⟩:Addr)=⟨{L with rv:=rv}.wb,0,none⟩ from rfl,this];simp[aC.C]
theorem uI.start{w W:World}{LB NB:Nat}{c:Nat→Nat}{L:aC}{st:aS Qn}(h:uI LB NB w c L st st.n W)(hn5:st.n≤5):∃rv Sa new Ls bb bf,cE st.n st.n (cO st.q.S st.n) Sa Ls∧er lA new Ls∧new.length≤325∧bb.length≤st.q.bb.length+1300∧bf.length≤st.q.bf.length+20∧xN LB NB w c L st rv Sa new Ls bb bf 0 W:=by
 obtain⟨c',rv,Sa,new,Ls,bb,bf,hT,hB,hl,hbb,hbf,hM,hst⟩:=h;refine⟨rv,Sa,new,Ls,bb,bf,hT,hB,by omega,by omega,by omega,c',{L with rv:=rv},st.fresh,rfl,rfl,?_,?_,hst⟩
 ·exact kK.refl _ _ _
 exact hM
theorem vt{w0 w:World}{LB NB:Nat}{c:Nat→Nat}{L:aC}{st:aS Qn}(h:ar (aB LB NB) w c L st)(ho:bN w0 c w)(hg:bH w0)(hnb:∀k,k<st.n→(st.q.S k).now<NB)(hN1:st.q.bb.length≤80000000000)(hN2:st.q.bf.length≤9000000000)(hN3:st.q.air.length≤900000000):Calls Tryz.prog 37 #[.pointer (some ⟨L.wb,0,none⟩)] w fun e w'=>e=.returned (.bool true)∧za LB NB w c L st w':=by
 have hn:=h.npos;have hok:ay st.n st.q.S:=by
  obtain⟨c2,d,avs,bus,fus,hI,hF⟩:=h.rest;exact hI.ok
 have hrl:=h.llen;have HT0:Hid (uR LB NB w c L st 0 w):=⟨c,by
  have e:cO st.q.S 0=st.q.S:=by funext i;simp[cO]
  rw[e];exact h,aG.below (Ck _ w)⟩
 obtain⟨avs,hal,harow,-,-,-⟩:=h.air;obtain⟨pa,capa,hav⟩:=dN harow;have HT:Hid (∀i W rb,i<st.n→st.rbs[i]?=some rb→uR LB NB w c L st i W→Calls Tryz.prog 25 #[.pointer (some ⟨rb,0,none⟩)] W fun e w'=>e=.returned (.tuple #[])∧Hid (uR LB NB w c L st (i+1) w')):=fun i W rb hi hrb hR=>hR.tick ho hi hrb hnb
 have HF:Hid (∀i W,i<st.n→uI LB NB w c L st i W→Calls Tryz.prog 36 #[.pointer (some ⟨L.wb,0,none⟩),.int .i64 (i:Int)] W fun e w'=>e=.returned (.bool true)∧Hid (uI LB NB w c L st (i+1) w')):=fun i W hi hR=>hR.take ho hg hi hN1 hN2 hN3 hn.2
 have HOK:Hid (ay st.n st.q.S):=hok;have HO:=hid ho;have HG:=hid hg;have HA:Hid (L.rv.av=.slice pa st.q.air.length capa):=hav;clear h ho hg hok hav harow hal hnb;generalize hwb:L.wb=wb at *;have HWB:Hid (L.wb=wb):=hwb;clear hwb;obtain⟨oldN,hold⟩:∃o,o=st.q.air.length:=⟨_,rfl⟩
 rw[←hold]at HA;have HOL:Hid (oldN=st.q.air.length):=hold;have hold2:oldN≤900000000:=by omega
 clear hold;obtain⟨n,hnn⟩:∃n,n=st.n:=⟨_,rfl⟩
 have HNN:Hid (n=st.n):=hnn;have hn5:n≤5:=by omega
 clear hnn;go_enter Tryz.func37,Tryz.ntmps37
 go_wp2
 go_loopw [3] (fun i wr=>∃j:Nat,j≤n∧i=.int .i64 (j:Int)∧Hid (uR LB NB w c L st j wr)) (fun i _=>n-(intOf i).toNat)
 case atStart=>exact⟨0,CB _,rfl,HT0.out⟩
 case round =>
  clear HT0;obtain⟨j,hj,rfl,HI⟩:=hrel;obtain⟨r0,r1,r4,rl⟩:=HI.out.reads;rw[HWB.out,←HNN.out]at r0 r1
  rw[HWB.out,HA.out]at r4;by_cases hlt:j<n
  ·have hji:(j:Int)<(n:Int):=by omega
   have hj0:(0:Int)≤(j:Int):=by omega
   obtain⟨rb,hrb⟩:∃rb,st.rbs[j]?=some rb:=⟨_,Cr (by rw[hrl,←HNN.out];exact hlt)⟩
   have rlj:=rl j rb hrb;clear rl;have HTJ:Hid (Calls Tryz.prog 25 #[.pointer (some ⟨rb,0,none⟩)] wr fun e w'=>e=.returned (.tuple #[])∧Hid (uR LB NB w c L st (j+1) w')):=HT.out j wr rb (by rw[←HNN.out];exact hlt) hrb HI.out;generalize L.lb=lb at *;generalize L.capl=capl at *;go_wp2_with (first|(go_at_call 25;refine HTJ.out.mono ?_;rintro e w2 ⟨rfl,HK⟩))
   go_roundw
   case rel=>exact⟨j+1,by omega,by simp,HK.out⟩
   case measure=>simp[intOf];omega
  obtain rfl:j=n:=by omega
  have hki:¬ (j:Int)<(j:Int):=by omega
  have HS:Hid (uI LB NB w c L st 0 wr):=by
   have:=HI.out;rw[HNN.out]at this
   exact this.start
  clear rl r1 HI HT;go_wp2
  clear r0 r4;clear hlt hj;go_loopw [5] (fun i wr2=>∃q:Nat,q≤j∧i=.int .i64 (q:Int)∧Hid (uI LB NB w c L st q wr2)) (fun i _=>j-(intOf i).toNat)
  case atStart=>exact⟨0,CB _,rfl,HS.out⟩
  case round =>
   clear HS;obtain⟨q,hq,rfl,HI⟩:=hrel;have r0:=HI.out.reads;rw[HWB.out,←HNN.out]at r0
   by_cases hlt:q<j
   ·have hji:(q:Int)<(j:Int):=by omega
    have HFJ:Hid (Calls Tryz.prog 36 #[.pointer (some ⟨wb,0,none⟩),.int .i64 (q:Int)] wr fun e w'=>e=.returned (.bool true)∧Hid (uI LB NB w c L st (q+1) w')):=HF.out q wr (by rw[←HNN.out];exact hlt) HI.out;go_wp2_with (first|(go_at_call 36;refine HFJ.out.mono ?_;rintro e w2 ⟨rfl,HK⟩))
    go_roundw
    case rel=>exact⟨q+1,by omega,by simp,HK.out⟩
    case measure=>simp[intOf];omega
   obtain rfl:q=j:=by omega
   have hki2:¬ (q:Int)<(q:Int):=by omega
   have hstart:=HI.out;rw[HNN.out]at hstart
   obtain⟨rv,Sa,new,Ls,bb,bf,hT,hB,hnl,hbb,hbf,HR0⟩:=hstart.start (by rw[←HNN.out];exact hn5);have HR:Hid (xN LB NB w c L st rv Sa new Ls bb bf 0 wr):=HR0;have HTT:Hid (cE st.n st.n (cO st.q.S st.n) Sa Ls):=hT;have HBB:Hid (er lA new Ls):=hB;have Hbb:Hid (bb.length≤st.q.bb.length+1300):=hbb;have Hbf:Hid (bf.length≤st.q.bf.length+20):=hbf;obtain⟨M,hM⟩:∃M,M=oldN+new.length:=⟨_,rfl⟩
   have HM:Hid (M=oldN+new.length):=hM;have hM1:oldN≤M:=by omega
   have hM2:M≤900000325:=by omega
   clear hT hB hbb hbf HI HF HR0 hstart hM;go_wp2
   clear r0;go_loopw [7] (fun i wr3=>∃u:Nat,oldN≤u∧u≤M∧i=.int .i64 (u:Int)∧Hid (xN LB NB w c L st rv Sa new Ls bb bf (u-oldN) wr3)) (fun i _=>M-(intOf i).toNat)
   case atStart=>exact⟨oldN,Cl _,hM1,rfl,by rw[Dt];exact HR.out⟩
   case round =>
    clear HR;obtain⟨u,hu1,hu2,rfl,HI⟩:=hrel;by_cases hlt:u<M
    ·have hui:(u:Int)<(M:Int):=by omega
     have hu0:(0:Int)≤(u:Int):=by omega
     have hin:u-oldN<new.length:=by have:=HM.out;omega
     obtain⟨ga,capb,p,cap,hav,c4,c0,c1,c2,hgo⟩:=HI.out.go HOK.out HTT.out HBB.out HO.out HG.out hin;have e:st.q.air.length+(u-oldN)=u:=by have:=HOL.out;omega
     have e2:st.q.air.length+new.length=M:=by have:=HOL.out;have:=HM.out;omega
     have e3:u-oldN+1=u+1-oldN:=by omega
     rw[e2]at hav;rw[HWB.out,hav]at c4
     rw[e]at c0 c1 c2;rw[HWB.out,e3]at hgo
     have HGO:Hid (∀o,Calls Tryz.prog 70 #[.pointer (some ⟨wb,0,none⟩),.int .i64 (new[u-oldN].1:Int),.int .i64 (new[u-oldN].2.1:Int),.slice p new[u-oldN].2.2.length cap] (wr.alloc o) fun e w'=>e=.returned (.bool true)∧Hid (xN LB NB w c L st rv Sa new Ls bb bf (u+1-oldN) w')):=fun o=>hgo _ ((Ck _ wr).alloc (Cl _) o)
     clear hgo hav e e2 e3 HI;generalize new[u-oldN].1=x1 at *;generalize new[u-oldN].2.1=x2 at *;generalize new[u-oldN].2.2.length=x3 at *;clear hin;go_wp2_with (first|(go_at_call 70;refine(HGO.out _).mono ?_;rintro e w2 ⟨rfl,HK⟩))
     go_roundw
     case rel=>exact⟨u+1,by omega,by omega,by simp,HK.out⟩
     case measure=>simp[intOf];omega
    obtain rfl:u=M:=by omega
    have hki3:¬ (u:Int)<(u:Int):=by omega
    have e1:u-oldN=new.length:=by have:=HM.out;omega
    have hfin:=HI.out;rw[e1]at hfin
    obtain⟨p,cap,hav,hcap,c4,f4,hX⟩:=hfin.fin HOK.out HTT.out HBB.out Hbb.out Hbf.out;have e2:st.q.air.length+new.length=u:=by have:=HOL.out;have:=HM.out;omega
    rw[e2]at hav hcap;rw[HWB.out,hav]at c4
    rw[HWB.out]at f4;rw[HWB.out,←HOL.out]at hX
    have HX:Hid (za LB NB w c L st (wr.setCell ⟨wb,4,none⟩ (.slice p oldN cap))):=hX;have o0:(0:Int)≤(oldN:Int):=by omega
    have o1:(oldN:Int)≤(cap:Int):=by omega
    have o2:oldN≤cap:=by omega
    clear hX hfin hav e1 e2 HI;go_wp2
    go_ret
    exact⟨rfl,HX.out⟩
theorem mA{α β:Type}{f g:α→List β}:∀{l:List α},(∀x∈l,f x=g x)→l.flatMap f=l.flatMap g
 |[],_=>rfl
 |a::l,h=>by
  rw[CV,CV,h a (Db ..),mA fun x hx=>h x (CQ _ hx)]
def vQ(x:En)(d:Dn):Bool:=decide (d.org=x.org) && decide (d.seq=x.seq)
def mV(tr:List Dn)(x:En):Nat:=tr.findIdx (vQ x)
def aR(tr:List Dn)(log:List En):List Nat:=log.map (mV tr)
structure cC(n:Nat)(S:Nat→Sr)(tr:List Dn):Prop where
 uniq:∀i j (hi:i<tr.length) (hj:j<tr.length),tr[i].org=tr[j].org→tr[i].seq=tr[j].seq→i=j
 has:∀k,k<n→∀x∈(S k).log,∃p,∃h:p<tr.length,tr[p].org=x.org∧tr[p].seq=x.seq∧tr[p].text=aQ x.c∧tr[p].c=x.c∧∀y,y∈tr[p].bef↔∃hy:y<tr.length,tr[y].seq≤x.ah.get tr[y].org
 own:∀p (h:p<tr.length),tr[p].org<n∧∃x∈(S tr[p].org).log,x.org=tr[p].org∧x.seq=tr[p].seq
section
variable {n:Nat} {S:Nat→Sr} {tr:List Dn} {k:Nat}
theorem cC.AK(h:cC n S tr)(hp:p<tr.length)(h1:tr[p].org=x.org)(h2:tr[p].seq=x.seq):mV tr x=p:=by
 have hm:vQ x tr[p]=true:=by simp[vQ,h1,h2]
 have hlt:mV tr x<tr.length:=List.findIdx_lt_length_of_exists ⟨tr[p],CN hp,hm⟩;have hg:vQ x tr[mV tr x]=true:=List.findIdx_getElem (w:=hlt);unfold vQ at hg;simp only[C1,decide_eq_true_eq]at hg;exact h.uniq _ _ hlt hp (by rw[hg.1,h1]) (by rw[hg.2,h2])
theorem cC.at(h:cC n S tr)(hk:k<n)(hx:x∈(S k).log):∃hl:mV tr x<tr.length,tr[mV tr x].org=x.org∧tr[mV tr x].seq=x.seq∧tr[mV tr x].text=aQ x.c∧tr[mV tr x].c=x.c∧∀y,y∈tr[mV tr x].bef↔∃hy:y<tr.length,tr[y].seq≤x.ah.get tr[y].org:=by
 obtain⟨p,hp,h1,h2,h3⟩:=h.has k hk x hx;have e:=h.AK hp h1 h2;subst e;exact⟨hp,h1,h2,h3⟩
theorem cC.inj(h:cC n S tr)(hok:ay n S)(hk:k<n)(hx:x∈(S k).log)(hy:y∈(S k).log)(e:mV tr x=mV tr y):x=y:=by
 obtain⟨l1,a1,a2,-⟩:=h.at hk hx;obtain⟨l2,b1,b2,-⟩:=h.at hk hy;refine(hok.one k hk).log.uniq hx hy ?_ ?_
 ·rw[←a1,←b1];simp only[e]
 rw[←a2,←b2];simp only[e]
theorem cC.ops(h:cC n S tr)(hk:k<n):cR tr (aR tr (S k).log)=dO (S k).log:=by
 unfold cR dO aR;rw[List.flatMap_map];refine mA fun x hx=>?_
 obtain⟨hl,h1,h2,h3,-⟩:=h.at hk hx;rw[iK hl,h1,h2,h3]
theorem oe{me:Nat}:∀{l pre:List En},LogFrom me pre l→(∀x∈l,aq pre x.org<x.seq)∧l.Nodup
 |[],_,_=>⟨by simp,List.nodup_nil⟩
 |x::l,pre,h=>by
  obtain⟨h1,h2⟩:=h;have ih:=oe h2;have hs:=h1.1;refine⟨fun y hy=>?_,List.nodup_cons.2 ⟨fun hx=>?_,ih.2⟩⟩
  ·rcases Co.1 hy with rfl|hy
   ·omega
   have:=ih.1 y hy;rw[eF]at this
   omega
  have:=ih.1 x hx;rw[eF,if_pos rfl]at this
  omega
theorem cC.told(h:cC n S tr)(hok:ay n S)(hk:k<n):Told tr (aR tr (S k).log) where
 nodup:=by
  unfold aR List.Nodup;rw[List.pairwise_map];exact(oe (hok.one k hk).log).2.imp_of_mem fun {a b} ha hb hne e=>hne (h.inj hok hk ha hb e)
 lt:=fun p hp=>by
  obtain⟨x,hx,rfl⟩:=CO.1 hp;exact(h.at hk hx).1
 first:=fun p hp j hj hlt e=>by
  obtain⟨x,hx,rfl⟩:=CO.1 hp;obtain⟨hl,-⟩:=h.at hk hx;rw[iK hl]at e
  have:=h.uniq j _ hj hl e.1 e.2;omega
 bef:=fun i hi y hy=>by
  have hi':i<(S k).log.length:=by simpa[aR] using hi
  have e:(aR tr (S k).log)[i]=mV tr (S k).log[i]:=by simp[aR]
  have hx:(S k).log[i]∈(S k).log:=CN hi';obtain⟨hl,-,-,-,-,hb⟩:=h.at hk hx;rw[e,iK hl]at hy
  obtain⟨hyl,hs⟩:=(hb y).1 hy;have hsp:(S k).log=(S k).log.take i++(S k).log[i]::(S k).log.drop (i+1):=by
   rw[←C9 hi',DB]
  have hlf:=(hok.one k hk).log;rw[hsp]at hlf
  obtain⟨hn,hpre⟩:=hlf.split;have hle:=hn.2.1 tr[y].org;obtain⟨ho,z,hz,hz1,hz2⟩:=h.own y hyl;have h1:=((hok.one _ ho).log.place hz).1;obtain⟨z',hz',e1,e2⟩:=hpre.the (o:=tr[y].org) (s:=tr[y].seq) (by omega) (CC hs hle);have hp:=h.AK hyl (x:=z') e1.symm e2.symm;unfold aR;rw[←List.map_take];exact CO.2 ⟨z',hz',hp⟩
end
theorem cC.grow{n:Nat}{S S':Nat→Sr}{tr:List Dn}(h:cC n S tr)(hok:ay n S')(hown:∀i,i<n→bT i (S' i).log=bT i (S i).log)(hg:∀j,j<n→∃l,(S' j).log=(S j).log++l):cC n S' tr where
 uniq:=h.uniq
 has:=fun k hk x hx=>by
  have ho:=(hok.one k hk).org x hx;have h1:=hok.src k hk x hx;have h2:x∈bT x.org (S' x.org).log:=dR.2 ⟨h1,rfl⟩;rw[hown _ ho]at h2
  exact h.has x.org ho x (dR.1 h2).1
 own:=fun p hp=>by
  obtain⟨h1,x,hx,h2⟩:=h.own p hp;obtain⟨l,hl⟩:=hg _ h1;exact⟨h1,x,by rw[hl];exact List.mem_append_left _ hx,h2⟩
structure mM(st:aS Qn):Prop where
 tr:cC st.n st.q.S st.tr
 kn:∀k,k<st.n→∀xs f,st.xss[k]?=some xs→st.fresh[k]?=some f→∃m,m≤(st.q.S k).log.length∧xs=(aR st.tr (st.q.S k).log).take m∧(f=true∨m=(st.q.S k).log.length)
 bkm:∀e∈st.bk,e.1≤maxLen
theorem cB(tr:List Dn)(log:List En):(aR tr log).length=log.length:=by simp[aR]
section
variable {w0 w:World} {LB NB:Nat} {c:Nat→Nat} {L:aC} {st:aS Qn} {k:Nat}
theorem ix(h:ar (aB LB NB) w c L st)(ho:bN w0 c w)(hg:bH w0)(hw:mM st)(hk:k<st.n)(hTl:st.tr.length≤1000000000000)(hN:st.bk.length≤100000000000):bz (aB LB NB) w c L st k (aR st.tr (st.q.S k).log):=by
 obtain⟨c2,d,avs,bus,fus,hI,hF,hNt⟩:=h.AZ ho;have hkx:k<st.xss.length:=by rw[h.xlen];exact hk
 have hkf:k<st.fresh.length:=by rw[h.flen];exact hk
 have hkr:k<st.rbs.length:=by rw[h.llen];exact hk
 obtain⟨m,hm,hx,hf⟩:=hw.kn k hk _ _ (Cr hkx) (Cr hkf);have hlog:=hI.fit.log hI.ok hk;have hlen:=cB st.tr (st.q.S k).log;refine kI (aw LB NB) h hk (aR st.tr (st.q.S k).log) (hw.tr.told hI.ok hk) ⟨m,by omega,hx,by rw[hlen];exact hf⟩ hTl (by omega) hN ?_;have e:st.rbs[k]=d.rb k:=by
  have:=hI.rbl k hk;rw[Cr hkr]at this
  simpa using this
 rw[e,hlen,hw.tr.ops hk];exact rY hNt hg hk
theorem mM.asked(h:mM st)(hxl:st.xss.length=st.n)(hfl:st.fresh.length=st.n)(hk:k<st.n)(hlb:(st.q.S k).log.length≤10000000000):mM (st.asked k (aR st.tr (st.q.S k).log)) where
 tr:=h.tr
 bkm:=fun e he=>by
  simp only[aS.asked]at he;rcases List.mem_append.1 he with he|he
  ·exact h.bkm e he
  simp only[Co,Cq,or_false,cB]at he;rcases he with rfl|rfl|rfl|rfl <;> (simp only;unfold maxLen;omega)
 kn:=fun j hj xs f hx hf=>by
  by_cases e:j=k
  ·subst e;simp only[aS.asked]at hx hf ⊢;rw[D0 (by omega)]at hx hf
   simp only[Option.some.injEq]at hx hf;exact⟨(st.q.S j).log.length,Cl _,by rw[←hx,←cB st.tr,Dr],.inr rfl⟩
  simp only[aS.asked]at hx hf ⊢;rw[DZ (Ne.symm e)]at hx hf
  exact h.kn j hj xs f hx hf
theorem mM.grow{S':Nat→Sr}{air:List (Nat×Nat×List UInt8)}{bb:List (Nat×Nat)}{bf:List (Nat×Int)}{fr:List Bool}(h:mM st)(hfl:st.fresh.length=st.n)(hok:ay st.n S')(hown:∀i,i<st.n→bT i (S' i).log=bT i (st.q.S i).log)(hg:∀j,j<st.n→∃l,(S' j).log=(st.q.S j).log++l)(hfr:kK st.n st.fresh st.q.S fr S'):mM {st with q:=⟨S',air,bb,bf⟩,fresh:=fr} where
 tr:=h.tr.grow hok hown hg
 bkm:=h.bkm
 kn:=fun j hj xs f hx hf=>by
  simp only at hx hf hj ⊢;obtain⟨f0,hf0⟩:∃f0,st.fresh[j]?=some f0:=⟨_,Cr (by omega)⟩
  obtain⟨m,hm,hxs,hor⟩:=h.kn j hj xs f0 hx hf0;obtain⟨l,hl⟩:=hg j hj;refine⟨m,by rw[hl,Cz];omega,?_,?_⟩
  ·rw[hxs,hl];unfold aR;rw[List.map_append,List.take_append_of_le_length (by rw[List.length_map];exact hm)]
  cases f with
  |true=>exact .inl rfl
  |false =>
   obtain⟨h1,h2⟩:=hfr j hj hf;rw[hf0]at h1
   simp only[Option.some.injEq]at h1;subst h1;rcases hor with h3|h3
   ·cases h3
   exact .inr (by rw[h2];exact h3)
end
structure gz(st st':aS Qn)(d:Nat):Prop where
 n:st'.n=st.n
 rbs:st'.rbs=st.rbs
 q:st'.q=st.q
 tr:st'.tr=st.tr
 since:st'.since=st.since
 sp:st'.sp=st.sp
 bk:st'.bk.length=st.bk.length+d
 ok:mM st'
theorem gz.refl{st:aS Qn}(h:mM st):gz st st 0:=⟨rfl,rfl,rfl,rfl,rfl,rfl,rfl,h⟩
theorem gz.trans{st st' st'':aS Qn}{d d':Nat}(h:gz st st' d)(k:gz st' st'' d'):gz st st'' (d+d'):=⟨k.n.trans h.n,k.rbs.trans h.rbs,k.q.trans h.q,k.tr.trans h.tr,k.since.trans h.since,k.sp.trans h.sp,by rw[k.bk,h.bk];omega,k.ok⟩
section
variable {w0 w W:World} {LB NB:Nat} {c:Nat→Nat} {L:aC} {st:aS Qn} {k:Nat}
def gU(LB NB:Nat)(w:World)(c:Nat→Nat)(L:aC)(st:aS Qn)(d:Nat)(W:World):Prop:=∃c' L' st',L'.wb=L.wb∧ar (aB LB NB) W c' L' st'∧aG w c W c'∧gz st st' d
def zO(st:aS Qn)(wb:Nat)(k:Nat)(W:World):Prop:=∃p1 c1 kb c2 p2 c3,W.cell? ⟨wb,2,none⟩=some (.slice p1 st.tr.length c1)∧W.cell? ⟨wb,3,none⟩=some (.slice (some ⟨kb,0,none⟩) st.n c2)∧W.cell? ⟨kb,k,none⟩=some (.slice p2 (st.q.S k).log.length c3)
theorem gU.ask{d:Nat}(h:gU LB NB w c L st d W)(ho:bN w0 c w)(hg:bH w0)(hk:k<st.n)(hTl:st.tr.length≤1000000000000)(hN:st.bk.length+d≤100000000000):Calls Tryz.prog 35 #[.pointer (some ⟨L.wb,0,none⟩),.int .i64 (k:Int)] W fun e w'=>e=.returned (.bool true)∧gU LB NB w c L st (d+4) w'∧zO st L.wb k w':=by
 obtain⟨c',L',st',hwb,hM,hst,ha⟩:=h;have hk':k<st'.n:=by rw[ha.n];exact hk
 have hx:=ix hM (ho.step hst) hg ha.ok hk' (by rw[ha.tr];exact hTl) (by rw[ha.bk];exact hN);unfold bz at hx;rw[hwb]at hx
 refine hx.mono ?_;rintro e w' ⟨rfl,c2,L2,hw2,hM2,hst2⟩
 have hxl:=hM.xlen;have hlb:(st'.q.S k).log.length≤10000000000:=by
  obtain⟨c2,d,avs,bus,fus,hI,hF⟩:=hM.rest;have:=hI.fit.log hI.ok hk';omega
 have hax:gz st' (st'.asked k (aR st'.tr (st'.q.S k).log)) 4:=⟨rfl,rfl,rfl,rfl,rfl,rfl,by simp[aS.asked],ha.ok.asked hM.xlen hM.flen hk' hlb⟩;refine⟨rfl,⟨c2,L2,_,hw2,hM2,hst.trans hst2,ha.trans hax⟩,?_⟩;obtain⟨lb,capl,kb,capk,u,r1,r2,r3,rl,rk,rn⟩:=hM2.reads hk';obtain⟨p1,c1,htv⟩:=dN hM2.trow;obtain⟨p2,c3,hu,-⟩:=rn;rw[hw2]at r2 r3
 rw[htv]at r2;rw[hu]at rk
 refine⟨p1,c1,kb,capk,p2,c3,?_,?_,?_⟩
 ·rw[r2,←ha.tr];rfl
 ·rw[r3,←ha.n];rfl
 rw[rk];have e:((st'.asked k (aR st'.tr (st'.q.S k).log)).xss[k]'(by simp only[aS.asked,List.length_set];omega)).length=(st.q.S k).log.length:=by
  simp only[aS.asked,List.getElem_set_self,cB,ha.q]
 rw[e]
theorem gU.below{W':World}{d:Nat}(h:gU LB NB w c L st d W)(hb:Below W.heap.size W W'):gU LB NB w c L st d W':=by
 obtain⟨c',L',st',hwb,hM,hst,ha⟩:=h;exact⟨c',L',st',hwb,hM.below (aw LB NB) hb,hst.trans (aG.below hb),ha⟩
theorem gU.reads{d:Nat}(h:gU LB NB w c L st d W):W.cell? ⟨L.wb,0,none⟩=some (.int .i64 (st.n:Int)):=by
 obtain⟨c',L',st',hwb,hM,hst,ha⟩:=h;rw[←hwb,hM.cell];simp[aC.C,ha.n]
end
def gN(st:aS Qn)(j:Nat):Bool:=decide (∀i,i<j→(st.q.S i).log.length=st.tr.length)
theorem rZ(st:aS Qn)(j:Nat):gN st (j+1)=(gN st j && decide ((st.q.S j).log.length=st.tr.length)):=by
 unfold gN;rw[←Bool.decide_and];congr 1
 refine propext ⟨fun h=>⟨fun i hi=>h i (by omega),h j (by omega)⟩,fun h i hi=>?_⟩;by_cases e:i=j
 ·rw[e];exact h.2
 exact h.1 i (by omega)
theorem Al{w0 w:World}{LB NB:Nat}{c:Nat→Nat}{L:aC}{st:aS Qn}(h:ar (aB LB NB) w c L st)(ho:bN w0 c w)(hg:bH w0)(hw:mM st)(hTl:st.tr.length≤1000000000000)(hN:st.bk.length≤90000000000):Calls Tryz.prog 43 #[.pointer (some ⟨L.wb,0,none⟩)] w fun e w'=>e=.returned (.tuple #[.bool (gN st st.n),.bool true])∧gU LB NB w c L st (4*st.n) w':=by
 have hn:=h.npos;have H0:Hid (gU LB NB w c L st (4*0) w):=⟨c,L,st,rfl,h,aG.below (Ck _ w),gz.refl hw⟩;have HA:Hid (∀j W,j<st.n→gU LB NB w c L st (4*j) W→Calls Tryz.prog 35 #[.pointer (some ⟨L.wb,0,none⟩),.int .i64 (j:Int)] W fun e w'=>e=.returned (.bool true)∧Hid (gU LB NB w c L st (4*(j+1)) w')∧Hid (zO st L.wb j w')):=fun j W hj hS=>hS.ask ho hg hj hTl (by omega)
 have HR:Hid (∀d W,gU LB NB w c L st d W→W.cell? ⟨L.wb,0,none⟩=some (.int .i64 (st.n:Int))):=fun d W hS=>hS.reads
 have HK0:Hid (gN st 0=true):=by
  show _=_
  simp[gN]
 clear h ho hg hw;generalize L.wb=wb at *;generalize hnn:st.n=n at *;have HNN:Hid (st.n=n):=hnn;clear hnn;go_enter Tryz.func43,Tryz.ntmps43
 go_wp2
 go_loopw [4,5] (fun v i wr=>∃j:Nat,j≤n∧i=.int .i64 (j:Int)∧v=.bool (gN st j)∧Hid (gU LB NB w c L st (4*j) wr)) (fun _ i _=>n-(intOf i).toNat)
 case atStart=>exact⟨0,CB _,rfl,by rw[HK0.out],H0.out⟩
 case round =>
  clear H0;obtain⟨j,hj,rfl,rfl,HI⟩:=hrel;have r0:=HR.out _ _ HI.out;by_cases hlt:j<n
  ·have hji:(j:Int)<(n:Int):=by omega
   have hj0:(0:Int)≤(j:Int):=by omega
   have HKS:Hid (gN st (j+1)=(gN st j && decide ((st.q.S j).log.length=st.tr.length))):=rZ st j;go_upto_region 8 with(first|(go_at_call 35;refine(HA.out j wr hlt HI.out).mono ?_;rintro e w2 ⟨rfl,HK,HL⟩))
   obtain⟨p1,c1,kb,c2,p2,c3,a1,a2,a3⟩:=HL.out;rw[HNN.out]at a2
   have HK2:Hid (∀nq,gU LB NB w c L st (4*(j+1)) (w2.drewN nq)):=fun nq=>HK.out.below (below_drewN (Ck _ w2) nq)
   generalize (st.q.S j).log.length=lk at *;generalize st.tr.length=lt at *;clear HL HK HA HR HI r0;generalize hkj:gN st j=kj at *;have HKJ:Hid (gN st j=kj):=hkj;clear hkj;cases kj with
   |false =>
    go_quiet ((fail))
    go_wp2
    go_roundw
    case rel=>exact⟨j+1,by omega,by simp,by rw[HKS.out];rfl,HK2.out _⟩
    case measure=>simp[intOf];omega
   |true =>
    by_cases e:lk=lt
    ·subst e;go_quiet ((fail))
     go_wp2
     go_roundw
     case rel=>exact⟨j+1,by omega,by simp,by rw[HKS.out];simp,HK2.out _⟩
     case measure=>simp[intOf];omega
    have hq:((lk:Int) == (lt:Int))=false:=by rw[beq_eq_false_iff_ne];omega
    have hq2:¬ (lk:Int)=(lt:Int):=by omega
    go_quiet ((fail))
    go_wp2
    go_roundw
    case rel=>exact⟨j+1,by omega,by simp,by rw[HKS.out];simp[e],HK2.out _⟩
    case measure=>simp[intOf];omega
  obtain rfl:j=n:=by omega
  have hki:¬ (j:Int)<(j:Int):=by omega
  go_wp2
  go_ret2
  exact⟨rfl,HI.out⟩
theorem pN(x y:Cm):fg x y=true↔wT x y:=by
 have e:∀{a b:ByteArray},a=b↔b.data.toList=a.data.toList:=fun {a b}=>⟨fun h=>by rw[h],fun h=>iL h.symm⟩
 unfold fg wT;simp only[Bool.or_eq_true,C1,decide_eq_true_eq,e (a:=x.word) (b:=y.word)]
 constructor
 ·rintro (⟨h1,h2⟩|⟨h1,⟨h2,h3⟩|⟨h2,h3⟩⟩)
  ·exact .inr (.inr ⟨h1,h2⟩)
  ·exact .inl ⟨h2,h3,h1⟩
  exact .inr (.inl ⟨h2,h3,h1⟩)
 rintro (⟨h1,h2,h3⟩|⟨h1,h2,h3⟩|⟨h1,h2⟩)
 ·exact .inr ⟨h3,.inl ⟨h1,h2⟩⟩
 ·exact .inr ⟨h3,.inr ⟨h1,h2⟩⟩
 exact .inl ⟨h1,h2⟩
section
variable {n:Nat} {S:Nat→Sr} {tr:List Dn} {k:Nat}
theorem cC.cm(h:cC n S tr)(hk:k<n)(hx:x∈(S k).log):cT tr (mV tr x)=x.c:=by
 obtain⟨hl,-,-,-,h4,-⟩:=h.at hk hx;rw[jT (Cr hl),h4]
theorem cC.hit(h:cC n S tr)(hk:k<n)(hx:x∈(S k).log)(hy:y∈(S k).log):mw tr (mV tr x) (mV tr y)=(fg x.c y.c && decide (x.seq≤y.ah.get x.org)):=by
 obtain⟨l1,a1,a2,-⟩:=h.at hk hx;obtain⟨l2,-,-,-,-,b5⟩:=h.at hk hy;unfold mw;rw[h.cm hk hx,h.cm hk hy,rm (Cr l2)];congr 1
 unfold iI;congr 1
 refine propext ⟨fun hm=>?_,fun hm=>?_⟩
 ·obtain⟨q1,q2⟩:=(b5 _).1 hm;rwa[a1,a2]at q2
 exact(b5 _).2 ⟨l1,by rw[a1,a2];exact hm⟩
theorem cC.st(h:cC n S tr)(hok:ay n S)(hk:k<n)(hx:x∈(S k).log):cZ tr (aR tr (S k).log) (mV tr x)=oP (S k).log x:=by
 have h1:=((hok.one k hk).log.place hx).1;rw[Bool.eq_iff_iff,xe h1];unfold cZ aR;simp only[List.all_eq_true,CO,Bool.not_eq_true',forall_exists_index,and_imp,forall_apply_eq_imp_iff₂]
 constructor
 ·intro hall y hy hu;have:=hall y hy;rw[h.hit hk hx hy,Bool.and_eq_false_iff]at this
  rcases this with q|q
  ·rw[(pN _ _).2 hu]at q;cases q
  rw[decide_eq_false_iff_not]at q;omega
 intro hall y hy;rw[h.hit hk hx hy,Bool.and_eq_false_iff];by_cases hu:fg x.c y.c=true
 ·have:=hall y hy ((pN _ _).1 hu);exact .inr (by rw[decide_eq_false_iff_not];omega)
 exact .inl (by simpa using hu)
theorem cC.it(h:cC n S tr)(hok:ay n S)(hk:k<n)(x:ByteArray):(aK (S k).log (S k).log).it x.data.toList=if bw tr (aR tr (S k).log) x=0 then none else some (bw tr (aR tr (S k).log) x):=by
 have e:((S k).log.map (ju (S k).log x.data.toList)).sum=sumOf tr (aR tr (S k).log) x (aR tr (S k).log):=by
  unfold sumOf;have:(aR tr (S k).log).map (nB tr (aR tr (S k).log) x)=(S k).log.map (ju (S k).log x.data.toList):=by
   conv=>lhs;arg 2;unfold aR
   rw[DR];refine Eb fun y hy=>?_
   simp only[Function.comp_apply,ju,nB,h.cm hk hy,h.st hok hk hy];by_cases hx:y.c.word=x
   ·simp[hx]
   have:¬ y.c.word.data.toList=x.data.toList:=fun e=>hx (iL e)
   simp[hx,this]
  rw[this]
 rw[jV,e];unfold bw;by_cases h0:sumOf tr (aR tr (S k).log) x (aR tr (S k).log)=0
 ·rw[if_pos h0,if_pos (by omega)]
 rw[if_neg h0,if_neg (by omega)]
theorem cC.is(h:cC n S tr)(hok:ay n S)(hk:k<n)(kd:Kd)(x:ByteArray):(S k).log.any (np (S k).log kd x.data.toList)=hasB tr (aR tr (S k).log) kd x:=by
 unfold hasB;have:(aR tr (S k).log).any (dz tr (aR tr (S k).log) kd x)=((aR tr (S k).log).map (dz tr (aR tr (S k).log) kd x)).any id:=by simp[List.any_map]
 rw[this];have e2:(S k).log.any (np (S k).log kd x.data.toList)=((S k).log.map (np (S k).log kd x.data.toList)).any id:=by simp[List.any_map]
 rw[e2];congr 1
 conv=>rhs;arg 2;unfold aR
 rw[DR];refine Eb fun y hy=>?_
 simp only[Function.comp_apply,np,dz,h.cm hk hy,h.st hok hk hy];by_cases hx:y.c.word=x
 ·simp[hx]
 have:¬ y.c.word.data.toList=x.data.toList:=fun e=>hx (iL e)
 simp[hx,this]
theorem cC.cp(h:cC n S tr)(hok:ay n S)(hk:k<n)(x:ByteArray):(aK (S k).log (S k).log).cp x.data.toList=hasB tr (aR tr (S k).log) .established x:=by rw[jW,h.is hok hk]
theorem cC.no(h:cC n S tr)(hok:ay n S)(hk:k<n)(x:ByteArray):(aK (S k).log (S k).log).no x.data.toList=hasB tr (aR tr (S k).log) .closeWait x:=by rw[jU,h.is hok hk]
theorem cC.goes(h:cC n S tr)(hok:ay n S)(hk:k<n)(cm:Cm):dt (aK (S k).log (S k).log) cm=!kV tr (aR tr (S k).log) cm:=by
 unfold dt kV;cases hkd:cm.k with
 |listen=>simp[h.it hok hk];split <;> simp_all
 |finWait=>simp[h.cp hok hk]
 |_=>simp
theorem cC.view(h:cC n S tr)(hok:ay n S)(hk:k<n){s:ByteArray}(ht:dp (aK (S k).log (S k).log) s):gK tr (aR tr (S k).log) s:=by
 obtain⟨xi,xc,xn,⟨hi1,hi2⟩,⟨hc1,hc2⟩,⟨hn1,hn2⟩,hs⟩:=ht;obtain⟨out,ho1,ho2⟩:=ja (bu tr (aR tr (S k).log));have hmap:(out.map fun l=>ByteArray.mk l.toArray).map ByteArray.toList=out:=by
  rw[DR]
  conv=>rhs;rw[←List.map_id out]
  refine Eb fun l _=>?_
  simp[CZ]
 refine⟨out.map fun l=>⟨l.toArray⟩,by rw[hmap];exact ho1,by rw[hmap];exact ho2,?_⟩;rw[hs];unfold sH;congr 1
 ·congr 1
  ·refine mm (p:=fun x=>decide (0<bw tr (aR tr (S k).log) x)) (by rw[hmap];exact ho1) hi1 (fun x=>?_) (fun x hx=>?_) (fun x=>?_)
   ·rw[hi2,h.it hok hk];split
    ·rename_i h0;simp[h0]
    rename_i h0;simp;omega
   ·rw[hmap,ho2];exact qw (by simp at hx;omega)
   unfold eM bB;rw[h.it hok hk];simp only[decide_eq_true_eq];split
   ·rename_i h0;rw[if_neg (by omega)];rfl
   rfl
  refine mm (p:=fun x=>hasB tr (aR tr (S k).log) .established x) (by rw[hmap];exact ho1) hc1 (fun x=>?_) (fun x hx=>?_) (fun x=>rfl)
  ·rw[hc2,h.cp hok hk]
  rw[hmap,ho2];exact qM hx
 refine mm (p:=fun x=>hasB tr (aR tr (S k).log) .closeWait x) (by rw[hmap];exact ho1) hn1 (fun x=>?_) (fun x hx=>?_) (fun x=>rfl)
 ·rw[hn2,h.no hok hk]
 rw[hmap,ho2];exact qM hx
end
theorem cC.ent{n:Nat}{S:Nat→Sr}{tr:List Dn}(h:cC n S tr)(hp:p<tr.length):∃x:En,tr[p].c=x.c∧tr[p].org=x.org∧tr[p].seq=x.seq∧tr[p].org<n:=by
 obtain⟨ho,x,hx,h1,h2⟩:=h.own p hp;obtain⟨p',hp',a1,a2,-,a4,-⟩:=h.has _ ho x hx;have e:p'=p:=h.uniq _ _ hp' hp (by rw[a1,h1]) (by rw[a2,h2]);subst e;exact⟨x,a4,a1,a2,ho⟩
theorem cC.small{n:Nat}{S:Nat→Sr}{tr:List Dn}(h:cC n S tr):Small tr:=fun d hd=>by
 obtain⟨p,hp,rfl⟩:=List.mem_iff_getElem.1 hd;obtain⟨x,h1,-⟩:=h.ent hp;rw[h1];by_cases e:x.c.k=.closed
 ·exact(x.hc.add e).2
 rw[x.hc.other e];omega
theorem cC.word{n:Nat}{S:Nat→Sr}{tr:List Dn}(h:cC n S tr){k:Nat}(hk:k<n):∀x∈bu tr (aR tr (S k).log),x≠[]∧x.length≤8:=fun x hx=>by
 obtain⟨p,hp,rfl⟩:=CO.1 hx;obtain⟨y,hy,rfl⟩:=CO.1 hp;rw[h.cm hk hy,CZ];have:=y.hc.word;simp only[bd,C1,decide_eq_true_eq]at this;have e2:y.c.word.data.toList.length=y.c.word.size:=Array.length_toList;refine⟨fun e=>?_,by omega⟩;rw[e]at e2
 simp at e2;omega
section
variable {w0 w:World} {LB NB:Nat} {c:Nat→Nat} {L:aC} {st:aS Qn} {k:Nat}
theorem uW(h:ar (aB LB NB) w c L st)(ho:bN w0 c w)(hg:bH w0)(hk:k<st.n)(hrb:st.rbs[k]?=some rb):Calls Tryz.prog 23 #[.pointer (some ⟨rb,0,none⟩)] w fun e w'=>∃s,e=.returned (.string s)∧dp (aK (st.q.S k).log (st.q.S k).log) s∧Below w.heap.size w w':=by
 obtain⟨c2,d,avs,bus,fus,hI,hF,hNt⟩:=h.AZ ho;have e:rb=d.rb k:=by
  have:=hI.rbl k hk;rw[hrb]at this
  simpa using this
 rw[e];exact zh hNt hg hk
theorem uV(h:ar (aB LB NB) w c L st)(ho:bN w0 c w)(hg:bH w0)(hw:mM st)(hk:k<st.n)(hTl:st.tr.length≤1000000000)(hN:st.bk.length≤100000000000)(hlb:(st.q.S k).log.length≤100000000):Calls Tryz.prog 33 #[.pointer (some ⟨L.wb,0,none⟩),.int .i64 (k:Int)] w fun e w'=>e=.returned (.bool true)∧∃c' L',L'.wb=L.wb∧ar (aB LB NB) w' c' L' (st.asked k (aR st.tr (st.q.S k).log))∧aG w c w' c':=by
 have hok:ay st.n st.q.S:=by
  obtain⟨c2,d,avs,bus,fus,hI,hF⟩:=h.rest;exact hI.ok
 have hkr:k<st.rbs.length:=by rw[h.llen];exact hk
 refine rA (aw LB NB) h hk (aR st.tr (st.q.S k).log) (ix h ho hg hw hk (by omega) hN) (hw.tr.told hok hk).lt hw.tr.small (fun x hx=>(hw.tr.word hk x hx).1) (fun x hx=>(hw.tr.word hk x hx).2) (by unfold maxLen;omega) (by rw[cB];exact hlb) ?_;intro w' c' L' hM' hst';refine(uW hM' (ho.step hst') hg hk (Cr hkr)).mono ?_;rintro e w'' ⟨s,he,ht,hb⟩
 exact⟨s,he,hw.tr.view hok hk ht,hb⟩
end
theorem fD{w:World}{T:TypeId}{v:Value}{N:Nat}{us:List Value}(h:w.ownsRow 0 T 1 v N us):us.length=N∧∃p cap,v=.slice p N cap∧∀(i:Nat) (u:Value),us[i]?=some u→∃g,p=some ⟨g,0,none⟩∧w.cell? ⟨g,i,none⟩=some u:=by
 have hl:us.length=N:=by have:=h.1;omega
 refine⟨hl,?_⟩;rcases h.2 with⟨h1,h2⟩|⟨g,cap,cur,h1,-⟩
 ·refine⟨none,0,by rw[h1,h2],fun i u hu=>?_⟩;have:=(CT.1 hu).1;omega
 refine⟨_,_,h1,fun i u hu=>⟨g,rfl,?_⟩⟩;rw[h1]at h
 have:=h.cells (g:=g) rfl i u hu;rwa[CS,CJ]at this
section
variable {w:World} {LB NB:Nat} {c:Nat→Nat} {L:aC} {st:aS Qn}
theorem zz(h:ar (aB LB NB) w c L st)(hm:∀e∈st.bk,e.1≤maxLen)(h1:st.q.bb.length≤100000000000)(h2:st.bk.length≤100000000000)(h3:st.q.bf.length≤100000000000):Calls Tryz.prog 34 #[.pointer (some ⟨L.wb,8,none⟩)] w fun e w'=>e=.returned (.bool true)∧Below w.heap.size w w':=by
 obtain⟨c2,d,avs,bus,fus,hI,hF⟩:=id h.rest;obtain⟨lb,pb,cb,eb,rb⟩:=fD hI.brow;obtain⟨lk,pk,ck,ek,rk⟩:=fD hI.bkrow;obtain⟨lo,po,co,eo,ro⟩:=fD h.orow;obtain⟨lq,pq,cq,eq,rq⟩:=fD h.krow;obtain⟨lf,pf,cf,ef,rf⟩:=fD hI.frow;obtain⟨lg,pg,cg,eg,rg⟩:=fD hI.fkrow;have hB:uM w L.rv.bsv st.q.bb:=⟨pb,cb,eb,fun i e he=>by
  obtain⟨hi,rfl⟩:=CT.1 he;obtain⟨g,hg,hc⟩:=rb i _ (Cr (by omega));exact⟨g,_,hg,hc,(hI.bmarks i hi (by omega)).1⟩⟩
 have hBK:uK w L.rv.kbv st.q.bb:=⟨pk,ck,ek,fun i e he=>rk i _ (by rw[Dj,he];rfl)⟩;have hO:uJ w L.osv st.bk:=⟨po,co,eo,fun i e he=>by
  obtain⟨hi,rfl⟩:=CT.1 he;obtain⟨g,hg,hc⟩:=ro i _ (Cr (by omega));exact⟨g,_,hg,hc,(h.marks i hi (by omega)).1⟩⟩
 have hK:pJ w L.kov st.bk:=⟨pq,cq,eq,fun i e he=>rq i _ (by rw[Dj,he];rfl)⟩;have hFs:uL w L.rv.fsv st.q.bf:=⟨pf,cf,ef,fun i e he=>by
  obtain⟨hi,rfl⟩:=CT.1 he;obtain⟨g,hg,hc⟩:=rf i _ (Cr (by omega));exact⟨g,_,hg,hc,(hI.fmarks i hi (by omega)).1⟩⟩
 have hFK:pJ w L.rv.kfv st.q.bf:=⟨pg,cg,eg,fun i e he=>rg i _ (by rw[Dj,he];rfl)⟩;have cel:∀i v,(L.C st.n st.sp)[i]?=some v→w.cell? ⟨L.wb,i,none⟩=some v:=fun i v hv=>by rw[cell_of_heap h.wbk];exact hv
 exact zx L.wb _ _ _ _ _ _ st.q.bb st.bk st.q.bf w (cel 8 _ rfl) (cel 9 _ rfl) (cel 10 _ rfl) (cel 11 _ rfl) (cel 12 _ rfl) (cel 13 _ rfl) hB hBK hO hK hFs hFK (by unfold maxLen;omega) hI.bbm (by unfold maxLen;omega) hm (by unfold maxLen;omega) hI.bfm
end
structure wX(st st':aS Qn)(r a:Nat):Prop where
 n:st'.n=st.n
 rbs:st'.rbs=st.rbs
 tr:st'.tr=st.tr
 since:st'.since=st.since
 sp:st'.sp=st.sp
 air:st'.q.air=st.q.air
 rnds:gh st.n r st.q.S st'.q.S
 now:∀k,k<st.n→(st'.q.S k).now=(st.q.S k).now+r
 bb:st'.q.bb.length≤st.q.bb.length+1300*r
 bf:st'.q.bf.length≤st.q.bf.length+20*r
 bk:st'.bk.length=st.bk.length+a
 ok:mM st'
theorem wX.refl{st:aS Qn}(h:mM st):wX st st 0 0:=⟨rfl,rfl,rfl,rfl,rfl,rfl,rfl,fun _ _=>rfl,by omega,by omega,rfl,h⟩
theorem wX.ask{st st' st'':aS Qn}{r a d:Nat}(h:wX st st' r a)(k:gz st' st'' d):wX st st'' r (a+d):=⟨k.n.trans h.n,k.rbs.trans h.rbs,k.tr.trans h.tr,k.since.trans h.since,k.sp.trans h.sp,by rw[k.q];exact h.air,by rw[k.q];exact h.rnds,by rw[k.q];exact h.now,by rw[k.q];exact h.bb,by rw[k.q];exact h.bf,by rw[k.bk,h.bk];omega,k.ok⟩
theorem wX.round{st st':aS Qn}{r a:Nat}(h:wX st st' r a)(hok:ay st.n st.q.S)(hfl:st'.fresh.length=st'.n){S':Nat→Sr}{bb:List (Nat×Nat)}{bf:List (Nat×Int)}(hR:nD st'.n st'.q.S S')(hF:kK st'.n st'.fresh st'.q.S fr S')(hnw:∀k,k<st'.n→(S' k).now=(st'.q.S k).now+1)(hbb:bb.length≤st'.q.bb.length+1300)(hbf:bf.length≤st'.q.bf.length+20):wX st {st' with q:=⟨S',st'.q.air,bb,bf⟩,fresh:=fr} (r+1) a:=by
 have hn:=h.n;have h1:=h.bb;have h2:=h.bf;have hok':ay st'.n st'.q.S:=by rw[hn];exact(h.rnds.net hok).1
 obtain⟨g1,g2,-,-,g5⟩:=hR.net hok';have hw:=h.ok.grow (air:=st'.q.air) (bb:=bb) (bf:=bf) hfl g1 g2 g5 hF;have hr:gh st.n (r+1) st.q.S S':=gh.snoc h.rnds (by rw[←hn];exact hR);have b1:bb.length≤st.q.bb.length+1300*(r+1):=by
  rw[Nat.mul_add,DK,←DF];exact CC hbb (Nat.add_le_add_right h1 1300)
 have b2:bf.length≤st.q.bf.length+20*(r+1):=by
  rw[Nat.mul_add,DK,←DF];exact CC hbf (Nat.add_le_add_right h2 20)
 have hw2:∀k,k<st.n→(S' k).now=(st.q.S k).now+(r+1):=fun k hk=>by rw[hnw k (by rw[hn];exact hk),h.now k hk,DF]
 exact {now:=hw2,n:=hn,rbs:=h.rbs,tr:=h.tr,since:=h.since,sp:=h.sp,air:=h.air,rnds:=hr,bb:=b1,bf:=b2,bk:=h.bk,ok:=hw}
section
variable {w0 w W:World} {LB NB:Nat} {c:Nat→Nat} {L:aC} {st:aS Qn} {r a:Nat} {S':Nat→Sr}
def eY(LB NB:Nat)(w:World)(c:Nat→Nat)(L:aC)(st:aS Qn)(r a:Nat)(S':Nat→Sr)(W:World):Prop:=∃c' L' st',L'.wb=L.wb∧ar (aB LB NB) W c' L' st'∧aG w c W c'∧wX st st' r a∧st'.q.S=S'
def kB(tr:List Dn)(n:Nat)(S:Nat→Sr):Bool:=decide (∀i,i<n→(S i).log.length=tr.length)
theorem eY.all(h:eY LB NB w c L st r a S' W)(ho:bN w0 c w)(hg:bH w0)(hTl:st.tr.length≤1000000000000)(hN:st.bk.length+a≤90000000000):Calls Tryz.prog 43 #[.pointer (some ⟨L.wb,0,none⟩)] W fun e w'=>e=.returned (.tuple #[.bool (kB st.tr st.n S'),.bool true])∧eY LB NB w c L st r (a+4*st.n) S' w':=by
 obtain⟨c',L',st',hwb,hM,hst,hX,rfl⟩:=h;have hx:=Al hM (ho.step hst) hg hX.ok (by rw[hX.tr];exact hTl) (by rw[hX.bk];exact hN);rw[hwb]at hx
 refine hx.mono ?_;rintro e w' ⟨rfl,c2,L2,st2,hw2,hM2,hst2,ha⟩
 refine⟨?_,c2,L2,st2,hw2.trans hwb,hM2,hst.trans hst2,?_,by rw[ha.q]⟩
 ·unfold gN kB;rw[hX.tr,hX.n]
 have:=hX.ask ha;rwa[hX.n]at this
theorem eY.round(h:eY LB NB w c L st r a S' W)(hok:ay st.n st.q.S)(ho:bN w0 c w)(hg:bH w0)(hnb:∀k,k<st.n→(st.q.S k).now+r<NB)(h1:st.q.bb.length+1300*r≤80000000000)(h2:st.q.bf.length+20*r≤9000000000)(h3:st.q.air.length≤900000000):Calls Tryz.prog 37 #[.pointer (some ⟨L.wb,0,none⟩)] W fun e w'=>e=.returned (.bool true)∧∃S'',nD st.n S' S''∧eY LB NB w c L st (r+1) a S'' w':=by
 obtain⟨c',L',st',hwb,hM,hst,hX,rfl⟩:=h;have hx:=vt hM (ho.step hst) hg (fun k hk=>by rw[hX.n]at hk;rw[hX.now k hk];exact hnb k hk) (CC hX.bb h1) (CC hX.bf h2) (by rw[hX.air];exact h3);rw[hwb]at hx
 refine hx.mono ?_;rintro e w' ⟨rfl,c2,L2,fr,S2,bb,bf,hw2,hR,hF,hnw,hbb,hbf,hM2,hst2⟩
 have hX2:=hX.round hok hM.flen hR hF hnw hbb hbf;refine⟨rfl,S2,by rw[←hX.n];exact hR,c2,L2,_,hw2.trans hwb,hM2,hst.trans hst2,hX2,rfl⟩
end
theorem eY.net{w W:World}{LB NB:Nat}{c:Nat→Nat}{L:aC}{st:aS Qn}{r a:Nat}{S':Nat→Sr}(h:eY LB NB w c L st r a S' W):gh st.n r st.q.S S':=by
 obtain⟨c',L',st',hwb,hM,hst,hX,rfl⟩:=h;exact hX.rnds
theorem yH{tr:List Dn}{n:Nat}{S S':Nat→Sr}{r:Nat}(htot:tr.length=bn n S)(hok:ay n S)(h:gh n r S S'):kB tr n S'=true↔bX n S':=by
 obtain⟨-,-,g3,-,-⟩:=h.net hok;unfold kB bX;rw[decide_eq_true_eq,g3,htot]
def mO(st:aS Qn)(j:Nat):aS Qn:={st with since:=List.replicate j 0++st.since.drop j}
theorem vn(st:aS Qn):mO st 0=st:=by simp[mO]
section
variable {w0 w W W':World} {LB NB:Nat} {c:Nat→Nat} {L:aC} {st:aS Qn} {r a j k:Nat} {S':Nat→Sr}
theorem eY.below(h:eY LB NB w c L st r a S' W)(hb:Below W.heap.size W W'):eY LB NB w c L st r a S' W':=by
 obtain⟨c',L',st',hwb,hM,hst,hX,e⟩:=h;exact⟨c',L',st',hwb,hM.below (aw LB NB) hb,hst.trans (aG.below hb),hX,e⟩
theorem eY.reads(h:eY LB NB w c L st r a S' W)(hk:k<st.n):∃lb capl rb,W.cell? ⟨L.wb,0,none⟩=some (.int .i64 (st.n:Int))∧W.cell? ⟨L.wb,1,none⟩=some (.slice (some ⟨lb,0,none⟩) st.n capl)∧W.cell? ⟨lb,k,none⟩=some (.pointer (some ⟨rb,0,none⟩))∧st.rbs[k]?=some rb:=by
 obtain⟨c',L',st',hwb,hM,hst,hX,e⟩:=h;have hk':k<st'.n:=by rw[hX.n];exact hk
 have hkr:k<st'.rbs.length:=by rw[hM.llen];exact hk'
 refine⟨L'.lb,L'.capl,st'.rbs[k],?_,?_,hM.lcell k hkr,?_⟩
 ·rw[←hwb,hM.cell];simp[aC.C,hX.n]
 ·rw[←hwb,hM.cell];simp[aC.C,hX.n]
 rw[←hX.rbs];exact Cr hkr
theorem eY.view(h:eY LB NB w c L st r a S' W)(ho:bN w0 c w)(hg:bH w0)(hk:k<st.n)(hrb:st.rbs[k]?=some rb):Calls Tryz.prog 23 #[.pointer (some ⟨rb,0,none⟩)] W fun e w'=>∃s,e=.returned (.string s)∧dp (aK (S' k).log (S' k).log) s∧eY LB NB w c L st r a S' w':=by
 have h0:=h;obtain⟨c',L',st',hwb,hM,hst,hX,rfl⟩:=h;refine(uW hM (ho.step hst) hg (by rw[hX.n];exact hk) (by rw[hX.rbs];exact hrb)).mono ?_;rintro e w' ⟨s,he,ht,hb⟩
 exact⟨s,he,ht,h0.below hb⟩
theorem eY.views(h:eY LB NB w c L st r a S' W)(ho:bN w0 c w)(hg:bH w0)(hk:k<st.n)(hTl:st.tr.length≤1000000000)(hN:st.bk.length+a≤100000000000)(hlb:(S' k).log.length≤100000000):Calls Tryz.prog 33 #[.pointer (some ⟨L.wb,0,none⟩),.int .i64 (k:Int)] W fun e w'=>e=.returned (.bool true)∧eY LB NB w c L st r (a+4) S' w':=by
 obtain⟨c',L',st',hwb,hM,hst,hX,rfl⟩:=h;have hk':k<st'.n:=by rw[hX.n];exact hk
 have hx:=uV hM (ho.step hst) hg hX.ok hk' (by rw[hX.tr];exact hTl) (by rw[hX.bk];exact hN) hlb;rw[hwb]at hx
 refine hx.mono ?_;rintro e w' ⟨rfl,c2,L2,hw2,hM2,hst2⟩
 have hax:gz st' (st'.asked k (aR st'.tr (st'.q.S k).log)) 4:=⟨rfl,rfl,rfl,rfl,rfl,rfl,by simp[aS.asked],hX.ok.asked hM.xlen hM.flen hk' (by omega)⟩;exact⟨rfl,c2,L2,_,hw2,hM2,hst.trans hst2,hX.ask hax,rfl⟩
theorem eY.zero(h:eY LB NB w c L (mO st j) r a S' W)(hl:st.since.length=st.n)(hj:j<st.n):∃g cap,W.cell? ⟨L.wb,5,none⟩=some (.slice (some ⟨g,0,none⟩) st.n cap)∧(∃y,W.cell? ⟨g,j,none⟩=some y)∧W.frozen? ⟨g,j,none⟩=false∧eY LB NB w c L (mO st (j+1)) r a S' (W.setCell ⟨g,j,none⟩ (.int .i64 0)):=by
 obtain⟨c',L',st',hwb,hM,hst,hX,e⟩:=h;have hj':j<st'.n:=by rw[hX.n];exact hj
 obtain⟨g,cap,hv,hy,hf,hM2,hst2⟩:=hM.count (aw LB NB) hj' 0;refine⟨g,cap,?_,hy,hf,c',L',{st' with since:=st'.since.set j 0},hwb,hM2,hst.trans hst2,?_,e⟩
 ·rw[←hwb,hM.cell];simp only[aC.C,hv,hX.n]
  rfl
 have hs:st'.since.set j 0=(mO st (j+1)).since:=by
  rw[hX.since];simp only[mO];rw[C9 (by omega),List.set_append_right _ _ (by simp)];simp only[List.length_replicate,Dt,List.set_cons_zero];rw[List.replicate_succ',De]
  rfl
 exact {n:=hX.n,rbs:=hX.rbs,tr:=hX.tr,since:=hs,sp:=hX.sp,air:=hX.air,rnds:=hX.rnds,now:=hX.now,bb:=hX.bb,bf:=hX.bf,bk:=hX.bk,ok:=⟨hX.ok.tr,hX.ok.kn,hX.ok.bkm⟩}
theorem eY.kept(h:eY LB NB w c L st r a S' W)(hN:st.bk.length+a≤90000000000)(h1:st.q.bb.length+1300*r≤80000000000)(h2:st.q.bf.length+20*r≤9000000000):Calls Tryz.prog 34 #[.pointer (some ⟨L.wb,8,none⟩)] W fun e w'=>e=.returned (.bool true)∧eY LB NB w c L st r a S' w':=by
 have h0:=h;obtain⟨c',L',st',hwb,hM,hst,hX,rfl⟩:=h;have hx:=zz hM hX.ok.bkm (CC (CC hX.bb h1) (by omega)) (by rw[hX.bk];omega) (CC (CC hX.bf h2) (by omega));rw[hwb]at hx
 refine hx.mono ?_;rintro e w' ⟨rfl,hb⟩
 exact⟨rfl,h0.below hb⟩
end
def te(LB NB:Nat)(w:World)(c:Nat→Nat)(L:aC)(st:aS Qn)(w':World):Prop:=∃r a S3,r≤42∧a≤1200∧bX st.n S3∧(∀i,i<st.n→(S3 i).its=[])∧eY LB NB w c L (mO st st.n) r a S3 w'
theorem yp{w0 w:World}{LB NB:Nat}{c:Nat→Nat}{L:aC}{st:aS Qn}(h:ar (aB LB NB) w c L st)(ho:bN w0 c w)(hg:bH w0)(hw:mM st)(htot:st.tr.length=bn st.n st.q.S)(hnb:∀k,k<st.n→(st.q.S k).now+100<NB)(hTl:st.tr.length≤100000000)(hN:st.bk.length≤80000000000)(h1:st.q.bb.length≤70000000000)(h2:st.q.bf.length≤8000000000)(h3:st.q.air.length≤900000000):Calls Tryz.prog 17 #[.pointer (some ⟨L.wb,0,none⟩)] w fun e w'=>e=.returned (.bool true)∧te LB NB w c L st w':=by
 have hn:=h.npos;have hsl:=h.slen;have hok:ay st.n st.q.S:=by
  obtain⟨c2,d,avs,bus,fus,hI,hF⟩:=h.rest;exact hI.ok
 have H0:Hid (∃S',eY LB NB w c L st 0 0 S' w):=⟨st.q.S,c,L,st,rfl,h,aG.below (Ck _ w),wX.refl hw,rfl⟩;have HA:Hid (∀r a S' W,r≤50→a≤1000→eY LB NB w c L st r a S' W→Calls Tryz.prog 43 #[.pointer (some ⟨L.wb,0,none⟩)] W fun e w'=>e=.returned (.tuple #[.bool (kB st.tr st.n S'),.bool true])∧Hid (eY LB NB w c L st r (a+4*st.n) S' w')):=fun r a S' W hr ha hS=>hS.all ho hg (by omega) (by omega)
 have HR:Hid (∀r a S' W,r≤50→eY LB NB w c L st r a S' W→Calls Tryz.prog 37 #[.pointer (some ⟨L.wb,0,none⟩)] W fun e w'=>e=.returned (.bool true)∧∃S'',Hid (nD st.n S' S'')∧Hid (eY LB NB w c L st (r+1) a S'' w')):=fun r a S' W hr hS=>hS.round hok ho hg (fun k hk=>by have:=hnb k hk;omega) (by omega) (by omega) h3
 have HK:Hid (∀r a S' W,eY LB NB w c L st r a S' W→(kB st.tr st.n S'=true↔bX st.n S')∧(8*st.n≤r→bX st.n S')):=fun r a S' W hS=>⟨yH htot hok hS.net,fun hr=>hS.net.all hok hr⟩
 have HC:Hid (∀r S1 S2 S3,gh st.n r st.q.S S1→bX st.n S1→nD st.n S1 S2→nD st.n S2 S3→bX st.n S3∧(∀i,i<st.n→(S3 i).its=[])∧(∀i,i<st.n→(S3 i).log.length≤100000000)∧∀i k,i<st.n→k<st.n→∀s t,dp (aK (S3 i).log (S3 i).log) s→dp (aK (S3 k).log (S3 k).log) t→s=t):=fun r S1 S2 S3 hr ha h12 h23=>by
  obtain⟨n1,-,t1,-,-⟩:=hr.net hok;obtain⟨n2,-,t2,-,-⟩:=h12.net n1;obtain⟨n3,-,t3,-,-⟩:=h23.net n2;have a3:=h23.AM n2 (h12.AM n1 ha);refine⟨a3,h12.clear h23 n1 ha,fun i hi=>?_,fun i k hi hk s t hs ht=>?_⟩
  ·have:=a3 i hi;omega
  rw[sx (a3.perm n3 hi hk)]at hs;exact iS hs ht
 have HV:Hid (∀r a S' W rb k,k<st.n→st.rbs[k]?=some rb→∀q,eY LB NB w c L (mO st q) r a S' W→Calls Tryz.prog 23 #[.pointer (some ⟨rb,0,none⟩)] W fun e w'=>∃s,e=.returned (.string s)∧Hid (dp (aK (S' k).log (S' k).log) s)∧Hid (eY LB NB w c L (mO st q) r a S' w')):=fun r a S' W rb k hk hrb q hS=>hS.view ho hg hk hrb
 have HW:Hid (∀r a S' W k q,k<st.n→a≤1200→(S' k).log.length≤100000000→eY LB NB w c L (mO st q) r a S' W→Calls Tryz.prog 33 #[.pointer (some ⟨L.wb,0,none⟩),.int .i64 (k:Int)] W fun e w'=>e=.returned (.bool true)∧Hid (eY LB NB w c L (mO st q) r (a+4) S' w')):=fun r a S' W k q hk ha hlb hS=>hS.views ho hg hk (by show st.tr.length≤_;omega) (by show st.bk.length+a≤_;omega) hlb
 have HZ:Hid (∀r a S' W q,q<st.n→eY LB NB w c L (mO st q) r a S' W→∃g cap,W.cell? ⟨L.wb,5,none⟩=some (.slice (some ⟨g,0,none⟩) st.n cap)∧(∃y,W.cell? ⟨g,q,none⟩=some y)∧W.frozen? ⟨g,q,none⟩=false∧eY LB NB w c L (mO st (q+1)) r a S' (W.setCell ⟨g,q,none⟩ (.int .i64 0))):=fun r a S' W q hq hS=>hS.zero hsl hq
 have HP:Hid (∀r a S' W,r≤50→a≤1200→eY LB NB w c L (mO st st.n) r a S' W→Calls Tryz.prog 34 #[.pointer (some ⟨L.wb,8,none⟩)] W fun e w'=>e=.returned (.bool true)∧Hid (eY LB NB w c L (mO st st.n) r a S' w')):=fun r a S' W hr ha hS=>hS.kept (by show st.bk.length+a≤_;omega) (by show st.q.bb.length+1300*r≤_;omega) (by show st.q.bf.length+20*r≤_;omega)
 have HD:Hid (∀r a S' W q k,k<st.n→eY LB NB w c L (mO st q) r a S' W→∃lb capl rb,W.cell? ⟨L.wb,0,none⟩=some (.int .i64 (st.n:Int))∧W.cell? ⟨L.wb,1,none⟩=some (.slice (some ⟨lb,0,none⟩) st.n capl)∧W.cell? ⟨lb,k,none⟩=some (.pointer (some ⟨rb,0,none⟩))∧st.rbs[k]?=some rb):=fun r a S' W q k hk hS=>hS.reads hk
 have HNT:Hid (∀r a S' W,eY LB NB w c L st r a S' W→gh st.n r st.q.S S'):=fun r a S' W hS=>hS.net
 have HT:Hid (∀W',te LB NB w c L st W'↔∃r a S3,r≤42∧a≤1200∧bX st.n S3∧(∀i,i<st.n→(S3 i).its=[])∧eY LB NB w c L (mO st st.n) r a S3 W'):=fun W'=>Iff.rfl
 clear h ho hg hw htot hnb hok hsl;generalize L.wb=wb at *;generalize st.n=n at *;go_enter Tryz.func17,Tryz.ntmps17
 go_wp2
 go_loopw [3] (fun i wr=>∃j:Nat,j≤8*n∧i=.int .i64 (j:Int)∧Hid (∃S',eY LB NB w c L st j (4*n*j) S' wr)) (fun i _=>8*n+1-(intOf i).toNat)
 case atStart=>exact⟨0,CB _,rfl,H0.out⟩
 case round =>
  clear H0;obtain⟨j,hj,rfl,HI⟩:=hrel;obtain⟨S1,hS1⟩:=HI.out;have HS1:Hid (eY LB NB w c L st j (4*n*j) S1 wr):=hS1;have ha:4*n*j≤800:=by
   have:4*n*j≤20*40:=Nat.mul_le_mul (by omega) (by omega);omega
  have HAJ:Hid (Calls Tryz.prog 43 #[.pointer (some ⟨wb,0,none⟩)] wr fun e w'=>e=.returned (.tuple #[.bool (kB st.tr n S1),.bool true])∧Hid (eY LB NB w c L st j (4*n*j+4*n) S1 w')):=HA.out j _ S1 wr (by omega) (by omega) hS1;have HKJ:=HK.out j _ S1 wr hS1;have HKK:Hid ((kB st.tr n S1=true↔bX n S1)∧(8*n≤j→bX n S1)):=HKJ;clear hS1 HKJ HI;by_cases hkb:kB st.tr n S1=true
  ·have HAL:Hid (bX n S1):=HKK.out.1.1 hkb;have HN1:Hid (gh n j st.q.S S1):=HNT.out _ _ _ _ HS1.out;generalize kB st.tr n S1=kb at *;subst hkb;have hjj:j≤40:=by omega
   obtain⟨A0,hA0⟩:∃A0,A0=4*n*j+4*n:=⟨_,rfl⟩
   rw[←hA0]at HAJ;have hA1:A0≤900:=by omega
   clear hA0 HKK HS1 HA HK;go_wp2_with (first
    |(go_at_call 43;refine HAJ.out.mono ?_;rintro e w2 ⟨rfl,H2⟩))
   go_loopw [6] (fun i wr2=>∃q:Nat,q≤2∧i=.int .i64 (q:Int)∧Hid (∃S',gh n q S1 S'∧eY LB NB w c L st (j+q) A0 S' wr2)) (fun i _=>2-(intOf i).toNat)
   case atStart=>exact⟨0,by omega,rfl,S1,rfl,H2.out⟩
   case round =>
    clear H2 HAJ;obtain⟨q,hq,rfl,HI⟩:=hrel;obtain⟨S2,hr2,hS2⟩:=HI.out;by_cases hlt:q<2
    ·have hqi:(q:Int)<2:=by omega
     have HRJ:Hid (Calls Tryz.prog 37 #[.pointer (some ⟨wb,0,none⟩)] wr fun e w'=>e=.returned (.bool true)∧∃S'',Hid (nD n S2 S'')∧Hid (eY LB NB w c L st (j+q+1) A0 S'' w')):=HR.out (j+q) _ S2 wr (by omega) hS2;have HR2:Hid (gh n q S1 S2):=hr2;clear hr2 hS2 HI;go_wp2_with (first
      |(go_at_call 37;refine HRJ.out.mono ?_;rintro e w3 ⟨rfl,S3,HRN,H3⟩))
     go_roundw
     case rel=>exact⟨q+1,by omega,by simp,S3,HR2.out.snoc HRN.out,H3.out⟩
     case measure=>simp[intOf];omega
    obtain rfl:q=2:=by omega
    have hq2:¬ ((2:Nat):Int)<2:=by omega
    obtain⟨T,e1,T3,e2,e3⟩:=hr2;have e4:S2=T3:=e3;subst e4;obtain⟨c1,c2,c3,c4⟩:=HC.out j S1 T S2 HN1.out HAL.out e1 e2;have HS2:Hid (eY LB NB w c L (mO st 0) (j+2) A0 S2 wr):=by rw[vn];exact hS2
    obtain⟨lb,capl,rb,r0,r1,rl,hrb⟩:=HD.out _ _ _ _ 0 0 (by omega) HS2.out;have HV0:Hid (Calls Tryz.prog 23 #[.pointer (some ⟨rb,0,none⟩)] wr fun e w'=>∃s,e=.returned (.string s)∧Hid (dp (aK (S2 0).log (S2 0).log) s)∧Hid (eY LB NB w c L (mO st 0) (j+2) A0 S2 w')):=HV.out _ _ _ wr rb 0 (by omega) hrb 0 HS2.out;have HC1:Hid (bX n S2):=c1;have HC2:Hid (∀i,i<n→(S2 i).its=[]):=c2;have HC3:Hid (∀i,i<n→(S2 i).log.length≤100000000):=c3;have HC4:Hid (∀i k,i<n→k<n→∀s t,dp (aK (S2 i).log (S2 i).log) s→dp (aK (S2 k).log (S2 k).log) t→s=t):=c4;have n0:(0:Int)<(n:Int):=by omega
    clear c1 c2 c3 c4 e1 e2 e3 hS2 HI HR HC HN1 HAL;go_wp2_with (first
     |(go_at_call 23;refine HV0.out.mono ?_;rintro e w3 ⟨s0,rfl,HT0,H3⟩))
    clear r0 r1 rl HV0 HS2;go_loopw [9] (fun i wr3=>∃q:Nat,q≤n∧i=.int .i64 (q:Int)∧Hid (eY LB NB w c L (mO st q) (j+2) (A0+4*q) S2 wr3)) (fun i _=>n-(intOf i).toNat)
    case atStart=>exact⟨0,by omega,rfl,H3.out⟩
    case round =>
     clear H3;obtain⟨q,hq,rfl,HI⟩:=hrel;by_cases hlt:q<n
     ·have hqi:(q:Int)<(n:Int):=by omega
      have hq0:(0:Int)≤(q:Int):=by omega
      obtain⟨lb1,capl1,rb1,r0,-,-,-⟩:=HD.out _ _ _ _ q q hlt HI.out;obtain⟨g,gcap,z5,⟨zy,zc⟩,zf,hS⟩:=HZ.out _ _ _ _ q hlt HI.out;have HWQ:Hid (Calls Tryz.prog 33 #[.pointer (some ⟨wb,0,none⟩),.int .i64 (q:Int)] (wr.setCell ⟨g,q,none⟩ (.int .i64 0)) fun e w'=>e=.returned (.bool true)∧Hid (eY LB NB w c L (mO st (q+1)) (j+2) (A0+4*q+4) S2 w')):=HW.out _ _ S2 _ q (q+1) hlt (by omega) (HC3.out q hlt) hS;clear hS HI HW HZ;go_wp2_with (first
       |(go_at_call 33;refine HWQ.out.mono ?_;rintro e w4 ⟨rfl,H4⟩;obtain⟨lb4,capl4,rb4,x0,x1,x2,x3⟩:=HD.out _ _ _ _ (q+1) q hlt H4.out)
       |(go_at_call 23;refine(HV.out _ _ _ w4 rb4 q hlt x3 (q+1) H4.out).mono ?_;rintro e w5 ⟨s4,rfl,HT4,H5⟩;obtain rfl:=HC4.out q 0 hlt (by omega) s4 s0 HT4.out HT0.out))
      go_roundw
      case rel=>exact⟨q+1,by omega,by simp,H5.out⟩
      case measure=>simp[intOf];omega
     obtain rfl:q=n:=by omega
     have hki:¬ (q:Int)<(q:Int):=by omega
     obtain⟨lb1,capl1,rb1,r0,-,-,-⟩:=HD.out _ _ _ _ q 0 (by omega) HI.out;have HPQ:Hid (Calls Tryz.prog 34 #[.pointer (some ⟨wb,8,none⟩)] wr fun e w'=>e=.returned (.bool true)∧Hid (eY LB NB w c L (mO st q) (j+2) (A0+4*q) S2 w')):=HP.out _ _ S2 wr (by omega) (by omega) HI.out;go_wp2_with (first
      |(go_at_call 34;refine HPQ.out.mono ?_;rintro e w4 ⟨rfl,H4⟩))
     go_ret
     exact⟨rfl,(HT.out _).2 ⟨j+2,A0+4*q,S2,by omega,by omega,HC1.out,HC2.out,H4.out⟩⟩
  have hkf:kB st.tr n S1=false:=by simpa using hkb
  have hj8:j<8*n:=by
   rcases Nat.lt_or_ge j (8*n) with q|q
   ·exact q
   exact absurd (HKK.out.1.2 (HKK.out.2 q)) hkb
  have hj60:((j:Int) == 60)=false:=by rw[beq_eq_false_iff_ne];omega
  have hj61:¬ (j:Int)=60:=by omega
  have HRJ:Hid (∀W,eY LB NB w c L st j (4*n*j+4*n) S1 W→Calls Tryz.prog 37 #[.pointer (some ⟨wb,0,none⟩)] W fun e w'=>e=.returned (.bool true)∧∃S'',Hid (nD n S1 S'')∧Hid (eY LB NB w c L st (j+1) (4*n*j+4*n) S'' w')):=fun W hS=>HR.out j _ S1 W (by omega) hS
  generalize kB st.tr n S1=kb at *;subst hkf;go_wp2_with (first
   |(go_at_call 43;refine HAJ.out.mono ?_;rintro e w2 ⟨rfl,H2⟩)
   |(go_at_call 37;refine(HRJ.out _ H2.out).mono ?_;rintro e w3 ⟨rfl,S2,HRN,H3⟩))
  go_roundw
  case rel=>exact⟨j+1,by omega,by simp,S2,by rw[Nat.mul_add,DK];exact H3.out⟩
  case measure=>simp[intOf];omega
section
variable {w0 w W W':World} {LB NB:Nat} {c:Nat→Nat} {L:aC} {st:aS Qn} {k d:Nat}
def fQ(LB NB:Nat)(w:World)(c:Nat→Nat)(L:aC)(st:aS Qn)(k d:Nat)(W:World):Prop:=∃c' L' st',L'.wb=L.wb∧ar (aB LB NB) W c' L' st'∧aG w c W c'∧gz st st' d∧st'.fresh[k]?=some false
theorem fQ.any(h:fQ LB NB w c L st k d W):gU LB NB w c L st d W:=by
 obtain⟨c',L',st',h1,h2,h3,h4,-⟩:=h;exact⟨c',L',st',h1,h2,h3,h4⟩
theorem fQ.below(h:fQ LB NB w c L st k d W)(hb:Below W.heap.size W W'):fQ LB NB w c L st k d W':=by
 obtain⟨c',L',st',h1,h2,h3,h4,h5⟩:=h;exact⟨c',L',st',h1,h2.below (aw LB NB) hb,h3.trans (aG.below hb),h4,h5⟩
theorem gU.Ci(h:gU LB NB w c L st d W)(ho:bN w0 c w)(hg:bH w0)(hk:k<st.n)(hTl:st.tr.length≤1000000000000)(hN:st.bk.length+d≤100000000000):Calls Tryz.prog 35 #[.pointer (some ⟨L.wb,0,none⟩),.int .i64 (k:Int)] W fun e w'=>e=.returned (.bool true)∧fQ LB NB w c L st k (d+4) w':=by
 obtain⟨c',L',st',hwb,hM,hst,ha⟩:=h;have hk':k<st'.n:=by rw[ha.n];exact hk
 have hx:=ix hM (ho.step hst) hg ha.ok hk' (by rw[ha.tr];exact hTl) (by rw[ha.bk];exact hN);unfold bz at hx;rw[hwb]at hx
 refine hx.mono ?_;rintro e w' ⟨rfl,c2,L2,hw2,hM2,hst2⟩
 have hfl:=hM.flen;have hlb:(st'.q.S k).log.length≤10000000000:=by
  obtain⟨c2,d,avs,bus,fus,hI,hF⟩:=hM.rest;have:=hI.fit.log hI.ok hk';omega
 have hax:gz st' (st'.asked k (aR st'.tr (st'.q.S k).log)) 4:=⟨rfl,rfl,rfl,rfl,rfl,rfl,by simp[aS.asked],ha.ok.asked hM.xlen hM.flen hk' hlb⟩;refine⟨rfl,c2,L2,_,hw2,hM2,hst.trans hst2,ha.trans hax,?_⟩;simp only[aS.asked];rw[D0 (by omega)]
theorem fQ.view(h:fQ LB NB w c L st k d W)(ho:bN w0 c w)(hg:bH w0)(hk:k<st.n)(hrb:st.rbs[k]?=some rb):Calls Tryz.prog 23 #[.pointer (some ⟨rb,0,none⟩)] W fun e w'=>∃s,e=.returned (.string s)∧dp (aK (st.q.S k).log (st.q.S k).log) s∧Below W.heap.size W w':=by
 obtain⟨c',L',st',hwb,hM,hst,hX,-⟩:=h;refine(uW hM (ho.step hst) hg (by rw[hX.n];exact hk) (by rw[hX.rbs];exact hrb)).mono ?_;rintro e w' ⟨s,he,ht,hb⟩
 rw[hX.q]at ht;exact⟨s,he,ht,hb⟩
theorem fQ.still(h:fQ LB NB w c L st k d W)(ho:bN w0 c w)(hg:bH w0)(hk:k<st.n){fr:Int}(hH:oE st.n st.q.S fr k f st.q.S)(hfl:f.length≤1000000){p:Option Addr}(hb:aM W (.slice p f.length cc) f)(hp:wV W p):Calls Tryz.prog 70 #[.pointer (some ⟨L.wb,0,none⟩),.int .i64 fr,.int .i64 (k:Int),.slice p f.length cc] W fun e w'=>e=.returned (.bool true)∧∃fb capf v,w'.cell? ⟨L.wb,6,none⟩=some (.slice (some ⟨fb,0,none⟩) st.n capf)∧w'.cell? ⟨fb,k,none⟩=some v∧w'.frozen? ⟨fb,k,none⟩=false∧fQ LB NB w c L st k d (w'.setCell ⟨fb,k,none⟩ (.bool false)):=by
 obtain⟨c',L',st',hwb,hM,hst,hX,hf⟩:=h;have hk':k<st'.n:=by rw[hX.n];exact hk
 have hx:=j9 hM (ho.step hst) hg hk' (by rw[hX.n,hX.q];exact hH) hfl hb hp;rw[hwb]at hx
 refine hx.mono ?_;rintro e w' ⟨rfl,c2,L2,hw2,-,hM2,hst2⟩
 obtain⟨x1,x2,x3,x4⟩:=hM2.flag (aw LB NB) hk' false;have e1:(st'.fresh.set k true).set k false=st'.fresh:=by
  rw[List.set_set];refine List.ext_getElem? fun i=>?_
  by_cases e:i=k
  ·subst e;rw[D0 (CT.1 hf).1,hf]
  rw[DZ (Ne.symm e)]
 have e2:({st'.q with S:=st.q.S}:Qn)=st'.q:=by rw[hX.q]
 have e3:({st' with q:={st'.q with S:=st.q.S},fresh:=(st'.fresh.set k true).set k false}:aS Qn)=st':=by rw[e1,e2]
 have h6:w'.cell? ⟨L.wb,6,none⟩=some (.slice (some ⟨L2.fb,0,none⟩) st.n L2.capf):=by
  rw[←hw2,hM2.cell];simp[aC.C,hX.n]
 have x3':ar (aB LB NB) (w'.setCell ⟨L2.fb,k,none⟩ (.bool false)) c2 {L2 with FB:=L2.FB.setIfInBounds k (.bool false)} st':=by
  have:=x3;rw[←e3];exact this
 exact⟨rfl,L2.fb,L2.capf,_,h6,x1,x2,c2,{L2 with FB:=L2.FB.setIfInBounds k (.bool false)},st',hw2,x3',(hst.trans hst2).trans x4,hX,hf⟩
end
def xY(LB NB zb:Nat)(C:Array Value)(w:World)(n:Nat)(rbs:List Nat)(rv:cX)(q:Qn)(F:Nat→Prop):Prop:=aB LB NB w n rbs rv q F∧w.heap[zb]?=some (.cells C 5 (0,0))∧F zb
theorem qa(LB NB zb:Nat)(C:Array Value):dT (xY LB NB zb C):=⟨fun {w w' n rbs rv q F F'} h hz hs=>by
 obtain⟨h1,h2,h3⟩:=h;have hl:=(Cn.1 h2).1;obtain⟨e,hf⟩:=hs zb h3 hl;exact⟨(aw LB NB).same h1 hz hs,e.trans h2,hf⟩⟩
theorem ar.swap{QT:Type}{R R':World→Nat→List Nat→cX→QT→(Nat→Prop)→Prop}{w:World}{c:Nat→Nat}{L:aC}{st:aS QT}(h:ar R w c L st)(hR':R' w st.n st.rbs L.rv st.q fun b=>c b=20):ar R' w c L st:=⟨h.npos,h.wbk,h.wbc,h.lbc,h.lcell,h.llen,h.trow,h.tvc,h.blen,h.bef,h.kbk,h.kbc,h.xlen,h.xrow,h.slen,h.srow,h.svc,h.fbk,h.fbc,h.flen,h.fcell,h.orow,h.ovc,h.marks,h.krow,h.kvc,hR'⟩
section
variable {w0 w W:World} {LB NB zb:Nat} {C:Array Value} {c:Nat→Nat} {L:aC} {st:aS Qn} {k d:Nat}
theorem zK(h:ar (aB LB NB) w c L st)(ho:bN w0 c w)(hg:bH w0)(hw:mM st)(hk:k<st.n)(hTl:st.tr.length≤1000000000000)(hN:st.bk.length≤100000000000)(hz:w.heap[zb]?=some (.cells C 5 (0,0)))(hzc:c zb=0∨c zb=20):Calls Tryz.prog 35 #[.pointer (some ⟨L.wb,0,none⟩),.int .i64 (k:Int)] w fun e w'=>e=.returned (.bool true)∧∃c' L',L'.wb=L.wb∧ar (aB LB NB) w' c' L' (st.asked k (aR st.tr (st.q.S k).log))∧aG w c w' c'∧w'.heap[zb]?=some (.cells C 5 (0,0)):=by
 have hzl:=(Cn.1 hz).1;rcases hzc with hzc|hzc
 ·refine(ix h ho hg hw hk hTl hN).mono ?_;rintro e w' ⟨rfl,c',L',h1,h2,h3⟩
  exact⟨rfl,c',L',h1,h2,h3,(h3.zero zb hzl hzc).trans hz⟩
 obtain⟨c2,dd,avs,bus,fus,hI,hF,hNt⟩:=h.AZ ho;have hP:ar (xY LB NB zb C) w c L st:=h.swap ⟨h.rest,hz,hzc⟩;have hkx:k<st.xss.length:=by rw[h.xlen];exact hk
 have hkf:k<st.fresh.length:=by rw[h.flen];exact hk
 have hkr:k<st.rbs.length:=by rw[h.llen];exact hk
 obtain⟨m,hm,hx,hf⟩:=hw.kn k hk _ _ (Cr hkx) (Cr hkf);have hlog:=hI.fit.log hI.ok hk;have hlen:=cB st.tr (st.q.S k).log;refine(kI (qa LB NB zb C) hP hk (aR st.tr (st.q.S k).log) (hw.tr.told hI.ok hk) ⟨m,by omega,hx,by rw[hlen];exact hf⟩ hTl (by omega) hN ?_).mono ?_
 ·have e:st.rbs[k]=dd.rb k:=by
   have:=hI.rbl k hk;rw[Cr hkr]at this
   simpa using this
  rw[e,hlen,hw.tr.ops hk];exact rY hNt hg hk
 rintro e w' ⟨rfl,c',L',h1,h2,h3⟩
 exact⟨rfl,c',L',h1,h2.swap h2.rest.1,h3,h2.rest.2.1⟩
end
section
variable {w0 w W:World} {LB NB zb:Nat} {C:Array Value} {c:Nat→Nat} {L:aC} {st:aS Qn} {k d:Nat}
theorem fQ.reads(h:fQ LB NB w c L st k d W)(hk:k<st.n):∃lb capl rb,W.cell? ⟨L.wb,1,none⟩=some (.slice (some ⟨lb,0,none⟩) st.n capl)∧W.cell? ⟨lb,k,none⟩=some (.pointer (some ⟨rb,0,none⟩))∧st.rbs[k]?=some rb:=by
 obtain⟨c',L',st',hwb,hM,hst,hX,-⟩:=h;have hk':k<st'.n:=by rw[hX.n];exact hk
 have hkr:k<st'.rbs.length:=by rw[hM.llen];exact hk'
 refine⟨L'.lb,L'.capl,st'.rbs[k],?_,hM.lcell k hkr,?_⟩
 ·rw[←hwb,hM.cell];simp[aC.C,hX.n]
 rw[←hX.rbs];exact Cr hkr
theorem zL(h:ar (aB LB NB) w c L st)(ho:bN w0 c w)(hg:bH w0)(hw:mM st)(hk:k<st.n)(hTl:st.tr.length≤1000000000000)(hN:st.bk.length≤90000000000)(hz:w.heap[zb]?=some (.cells C 5 (0,0)))(hzc:c zb=0∨c zb=20):Calls Tryz.prog 35 #[.pointer (some ⟨L.wb,0,none⟩),.int .i64 (k:Int)] w fun e w'=>e=.returned (.bool true)∧fQ LB NB w c L st k 4 w'∧w'.heap[zb]?=some (.cells C 5 (0,0)):=by
 refine(zK h ho hg hw hk hTl (by omega) hz hzc).mono ?_;rintro e w' ⟨rfl,c2,L2,hw2,hM2,hst2,hz2⟩
 have hfl:=h.flen;have hlb:(st.q.S k).log.length≤10000000000:=by
  obtain⟨c2,d,avs,bus,fus,hI,hF⟩:=h.rest;have:=hI.fit.log hI.ok hk;omega
 have hax:gz st (st.asked k (aR st.tr (st.q.S k).log)) 4:=⟨rfl,rfl,rfl,rfl,rfl,rfl,by simp[aS.asked],hw.asked h.xlen h.flen hk hlb⟩;refine⟨rfl,⟨c2,L2,_,hw2,hM2,hst2,hax,?_⟩,hz2⟩;simp only[aS.asked];rw[D0 (by omega)]
end
theorem yl{w0 w:World}{LB NB zb oo:Nat}{C:Array Value}{c:Nat→Nat}{L:aC}{st:aS Qn}{k:Nat}(h:ar (aB LB NB) w c L st)(ho:bN w0 c w)(hg:bH w0)(hw:mM st)(hk:k<st.n)(hTl:st.tr.length≤1000000000)(hN:st.bk.length≤80000000000){fr:Int}(hH:oE st.n st.q.S fr k f st.q.S)(hfl:f.length≤1000000)(hb:aM w (.slice (some ⟨zb,oo,none⟩) f.length cc) f)(hz:w.heap[zb]?=some (.cells C 5 (0,0)))(hzc:c zb=0∨c zb=20):Calls Tryz.prog 72 #[.pointer (some ⟨L.wb,0,none⟩),.int .i64 fr,.int .i64 (k:Int),.slice (some ⟨zb,oo,none⟩) f.length cc] w fun e w'=>e=.returned (.bool true)∧fQ LB NB w c L st k 8 w':=by
 have hn:=h.npos;have H1:Hid (Calls Tryz.prog 35 #[.pointer (some ⟨L.wb,0,none⟩),.int .i64 (k:Int)] w fun e w'=>e=.returned (.bool true)∧Hid (fQ LB NB w c L st k 4 w'∧w'.heap[zb]?=some (.cells C 5 (0,0)))):=zL h ho hg hw hk (by omega) (by omega) hz hzc;have HD:Hid (∀d W,fQ LB NB w c L st k d W→∃lb capl rb,W.cell? ⟨L.wb,1,none⟩=some (.slice (some ⟨lb,0,none⟩) st.n capl)∧W.cell? ⟨lb,k,none⟩=some (.pointer (some ⟨rb,0,none⟩))∧st.rbs[k]?=some rb):=fun d W hS=>hS.reads hk
 have HV:Hid (∀d W rb,st.rbs[k]?=some rb→fQ LB NB w c L st k d W→Calls Tryz.prog 23 #[.pointer (some ⟨rb,0,none⟩)] W fun e w'=>∃s,e=.returned (.string s)∧Hid (dp (aK (st.q.S k).log (st.q.S k).log) s)∧Hid (fQ LB NB w c L st k d w')∧Hid (Below W.heap.size W w')):=fun d W rb hrb hS=>by
  refine(hS.view ho hg hk hrb).mono ?_;rintro e w' ⟨s,he,ht,hb⟩
  exact⟨s,he,ht,hS.below hb,hb⟩
 have HS:Hid (∀W,fQ LB NB w c L st k 4 W→W.heap[zb]?=some (.cells C 5 (0,0))→Calls Tryz.prog 70 #[.pointer (some ⟨L.wb,0,none⟩),.int .i64 fr,.int .i64 (k:Int),.slice (some ⟨zb,oo,none⟩) f.length cc] W fun e w'=>e=.returned (.bool true)∧∃fb capf v,w'.cell? ⟨L.wb,6,none⟩=some (.slice (some ⟨fb,0,none⟩) st.n capf)∧w'.cell? ⟨fb,k,none⟩=some v∧w'.frozen? ⟨fb,k,none⟩=false∧Hid (fQ LB NB w c L st k 4 (w'.setCell ⟨fb,k,none⟩ (.bool false)))):=fun W hS hzW=>by
  refine hS.still ho hg hk hH hfl (eX hb fun b o e hl=>?_) (fun b o e=>?_)
  ·simp only[Option.some.injEq,Addr.mk.injEq]at e;rw[←e.1,hzW,hz]
  simp only[Option.some.injEq,Addr.mk.injEq]at e;rw[←e.1];exact⟨C,hzW⟩
 have HA:Hid (∀W,fQ LB NB w c L st k 4 W→Calls Tryz.prog 35 #[.pointer (some ⟨L.wb,0,none⟩),.int .i64 (k:Int)] W fun e w'=>e=.returned (.bool true)∧Hid (fQ LB NB w c L st k 8 w')):=fun W hS=>hS.any.Ci ho hg hk (by omega) (by omega)
 have k0:(0:Int)≤(k:Int):=by omega
 have k1:(k:Int)<(st.n:Int):=by omega
 clear h ho hg hw hH hb hz hzc;generalize L.wb=wb at *;generalize st.n=n at *;go_enter Tryz.func72,Tryz.ntmps72
 go_upto_region 3 with(first
  |(go_at_call 35;refine H1.out.mono ?_;rintro e w1 ⟨rfl,K1⟩;obtain⟨lb,capl,rb,r1,r2,r3⟩:=HD.out _ _ K1.out.1)
  |(go_at_call 23;refine(HV.out _ w1 rb r3 K1.out.1).mono ?_;rintro e w2 ⟨s1,rfl,T1,K2,B2⟩))
 have HZ2:Hid (w2.heap[zb]?=some (.cells C 5 (0,0))):=(B2.out.block zb (Cn.1 K1.out.2).1).trans K1.out.2;clear r1 r2 r3 H1 K1;go_upto_region 6 with(first
  |(go_at_call 70;refine(HS.out w2 K2.out HZ2.out).mono ?_;rintro e w3 ⟨rfl,fb,capf,v,f1,f2,f3,K3⟩)
  |(go_at_call 35;refine(HA.out _ K3.out).mono ?_;rintro e w4 ⟨rfl,K4⟩))
 obtain⟨lb4,capl4,rb4,x1,x2,x3⟩:=HD.out _ _ K4.out;go_wp2_with (first
  |(go_at_call 23;refine(HV.out _ w4 rb4 x3 K4.out).mono ?_;rintro e w5 ⟨s4,rfl,T4,K5,B5⟩;obtain rfl:=iS T4.out T1.out))
 go_ret
 exact⟨rfl,K5.out⟩
end Go.Proofs.YtckmppkdpnhodaaGreatDoor
