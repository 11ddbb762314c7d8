import Derived.Test.YtckmppkdpnhodaaGreatDoorT24
import Derived.Test.YtckmppkdpnhodaaGreatDoorT25
import Derived.Test.YtckmppkdpnhodaaGreatDoorT00
set_option maxRecDepth 100000
set_option maxHeartbeats 8000000
set_option linter.unusedVariables false
set_option linter.unusedSimpArgs false
open Array renaming getElem?_eq_some_iff→Cn,getElem?_setIfInBounds_ne→CY
open List renaming mem_cons→Co,not_mem_nil→Cq,mem_map→CO,length_map→Dx,length_filter_le→DE,getElem_toArray→Ct,getElem_cons_zero→Cu,getElem_cons_succ→Cv,setIfInBounds_toArray→Cw,set_cons_zero→Cs,set_cons_succ→Cx,length_append→Cz,length_cons→CR,length_nil→Dh,range_succ→DL,filter_append→D3,mem_append→CP,mem_singleton→CK,length_take→CI,getElem?_eq_some_iff→CT
open Go.RowKit.Below renaming refl→Ck,heap_alloc→CF
open Nat renaming le_refl→Cl,le_trans→CC,eq_zero_or_pos→DX,reduceAdd→DQ
open Go.Value renaming ownBlock→Cp
open Go.World renaming news_of_block→CH
namespace Go.Proofs.YtckmppkdpnhodaaGreatDoor
section
open Go.RowKit Go.Proofs
attribute [local go_sem ↓] Go.wp_at_zero Go.wp_at_succ
variable {C:Array Value} {D:Nat→List En} {T:TypeId} {db i me n now rb:Nat} {ev wv wv0:Value} {its its0 ps:List It} {lk:Int} {log:List En} {ow:Nat→Bool} {vs:Nat→Value} {w w1 wr:World}
structure th(w:World)(rb:Nat)(C:Array Value)(T:TypeId)(wv0:Value)(now:Nat)(its0:List It)(D:Nat→List En)(vs:Nat→Value)(its:List It)(wv:Value)(W:World):Prop where
 q:gQ W rb (C.setIfInBounds 11 wv) T wv its
 heap:aH 0 its.length (kF its)
 its:its.Perm (its0.map (bE now))
 own:∀b,wv.ownBlock=some b→wv0.ownBlock=some b∨w.heap.size≤b
 due:∀t x,t<5→(x∈D t↔∃p∈its0,p.due≤now∧p.to=t∧p.en=x)
 len:∀t,t<5→(D t).length≤12
 row:∀t,t<5→W.ownsRow w.heap.size 122 10 (vs t) (D t).length (aP (D t))
 apart:∀t u,t<5→u<5→t≠u→∀b,(vs t).ownBlock=some b→(vs u).ownBlock≠some b
 far:∀t,t<5→∀b,(vs t).ownBlock=some b→wv.ownBlock≠some b
 upd:an [some rb,wv0.ownBlock] w W
theorem pX(hrl:rb<w.heap.size)(hdb:w.heap.size<db)(hwl:∀b,wv0.ownBlock=some b→b<w.heap.size)(h12:∀t,t<5→(bU ps t).length≤12)(far:∀t,t<5→∀b,(vs t).ownBlock=some b→wv.ownBlock≠some b)(_own:∀b,wv.ownBlock=some b→wv0.ownBlock=some b∨db<b)(hi:i<5)(h:eH wr db D vs∧(∀t,t<5→(D t).Perm (bU ps t))∧gQ wr rb (C.setIfInBounds 11 wv) T wv its∧an [some rb,wv0.ownBlock] w wr∧wr.heap[w.heap.size]?=some (.cells #[.slice none 0 0,.slice none 0 0,.slice none 0 0,.slice none 0 0,.slice none 0 0] 196 (0,0))):Calls Tryz.prog 139 #[vs i,.func (.func 140) #[] #[]] wr fun e w'=>e=.returned (.tuple #[])∧Hid (∃D':Nat→List En,eH w' db D' vs∧(∀t,t<5→(D' t).Perm (bU ps t))∧gQ w' rb (C.setIfInBounds 11 wv) T wv its∧an [some rb,wv0.ownBlock] w w'∧w'.heap[w.heap.size]?=some (.cells #[.slice none 0 0,.slice none 0 0,.slice none 0 0,.slice none 0 0,.slice none 0 0] 196 (0,0))):=by
 obtain⟨h1,h2,h3,h4,h5⟩:=h;have hs:=h4.size;have hdl:=(Cn.1 h1.blk).1;refine(zo (db+1) (vs i) (D i) (by rw[(h2 i hi).length_eq];exact h12 i hi) wr (h1.row i hi)).mono ?_;rintro e w' ⟨rfl,es',hp,hr,hu⟩
 have hge:∀b,(vs i).ownBlock=some b→db<b:=fun b hb=>aU (h1.row i hi) hb
 refine⟨rfl,fun t=>if t=i then es' else D t,⟨(hu.block db hdl fun hm=>?_).trans h1.blk,fun t ht=>?_,h1.apart⟩,fun t ht=>?_,⟨(hu.block rb (by omega) fun hm=>?_).trans h3.rbk,h3.c11,hu.owns h3.row fun b hb hm=>?_,h3.ne⟩,h4.trans hu fun k hk=>?_,(hu.block _ (by omega) fun hm=>?_).trans h5⟩
 ·simp only[Co,Cq,or_false]at hm;have:=hge db hm.symm;omega
 ·by_cases e:t=i
  ·subst e;simp only[if_pos];rw[hp.length_eq];exact hr
  simp only[if_neg e];exact hu.owns (h1.row t ht) fun b hb hm=>by
   simp only[Co,Cq,or_false]at hm;exact h1.apart t i ht hi e b hb hm.symm
 ·by_cases e:t=i
  ·subst e;simp only[if_pos];exact hp.trans (h2 t ht)
  simp only[if_neg e];exact h2 t ht
 ·simp only[Co,Cq,or_false]at hm;have:=hge rb hm.symm;omega
 ·simp only[Co,Cq,or_false]at hm;exact far i hi b hm.symm hb
 ·simp only[Co,Cq,or_false]at hk;have:=hge k hk.symm;exact .inr (by omega)
 simp only[Co,Cq,or_false]at hm;have:=hge _ hm.symm;omega
theorem ta(hrl:rb<w.heap.size)(hdb:w.heap.size<db)(hwl:∀b,wv0.ownBlock=some b→b<w.heap.size)(hF:eG w rb C T wv0 now its0 db w1 its ps wv vs)(hD:∀p∈its,now<p.due)(h12:∀t,t<5→(bU ps t).length≤12)(h:eH wr db D vs∧(∀t,t<5→(D t).Perm (bU ps t))∧gQ wr rb (C.setIfInBounds 11 wv) T wv its∧an [some rb,wv0.ownBlock] w wr∧wr.heap[w.heap.size]?=some (.cells #[.slice none 0 0,.slice none 0 0,.slice none 0 0,.slice none 0 0,.slice none 0 0] 196 (0,0))):∀a0 a1 a2 a3 a4,th w rb C T wv0 now its0 D vs its wv (((((wr.setCell ⟨w.heap.size,0,none⟩ a0).setCell ⟨w.heap.size,1,none⟩ a1).setCell ⟨w.heap.size,2,none⟩ a2).setCell ⟨w.heap.size,3,none⟩ a3).setCell ⟨w.heap.size,4,none⟩ a4):=fun a0 a1 a2 a3 a4=>by
 obtain⟨h1,h2,h3,h4,h5⟩:=h;have hs:=h4.size;have hA:=(Cn.1 h5).1;obtain⟨rest,hp⟩:=hF.pop;obtain⟨d1,d2⟩:=hp.done hD;have u:an [some w.heap.size] wr (((((wr.setCell ⟨w.heap.size,0,none⟩ a0).setCell ⟨w.heap.size,1,none⟩ a1).setCell ⟨w.heap.size,2,none⟩ a2).setCell ⟨w.heap.size,3,none⟩ a3).setCell ⟨w.heap.size,4,none⟩ a4):=(((((an.refl _ wr).setCell (.inl (by simp)) _).setCell (.inl (by simp)) _).setCell (.inl (by simp)) _).setCell (.inl (by simp)) _).setCell (.inl (by simp)) _;generalize (((((wr.setCell ⟨w.heap.size,0,none⟩ a0).setCell ⟨w.heap.size,1,none⟩ a1).setCell ⟨w.heap.size,2,none⟩ a2).setCell ⟨w.heap.size,3,none⟩ a3).setCell ⟨w.heap.size,4,none⟩ a4)=W at u
 refine⟨⟨(u.block rb (by omega) (by simp;omega)).trans h3.rbk,h3.c11,u.owns h3.row fun b hb hm=>?_,h3.ne⟩,hF.heap,d1,fun b hb=>(hF.own b hb).imp id fun h=>by omega,fun t x ht=>?_,fun t ht=>by rw[(h2 t ht).length_eq];exact h12 t ht,fun t ht=>dc (u.owns (h1.row t ht) fun b hb hm=>?_) (by omega),h1.apart,hF.far,h4.trans u fun i hi=>.inr (by simp at hi;omega)⟩
 ·simp at hm;rcases hF.own b hb with h|h
  ·have:=hwl b h;omega
  omega
 ·rw[(h2 t ht).mem_iff];unfold bU;simp only[CO,List.mem_filter,decide_eq_true_eq]
  constructor
  ·rintro ⟨p,⟨hm,ht'⟩,rfl⟩
   have hm0:=hp.all.mem_iff.2 (List.mem_append_left _ hm);exact⟨p,hm0,(d2 p hm0).1 hm,ht',rfl⟩
  rintro ⟨p,hm,hd,ht',rfl⟩
  exact⟨p,⟨(d2 p hm).2 hd,ht'⟩,rfl⟩
 simp at hm;have:=aU (h1.row t ht) hb;omega
theorem vb(rb:Nat)(its0:List It)(hl:its0.length≤900)(h12:∀t,aX its0 t≤12)(now:Nat)(hnow:now+1<1152921504606846976)(wv0:Value)(C:Array Value)(T:TypeId)(w:World)(hq:gQ w rb C T wv0 its0)(hh:aH 0 its0.length (kF its0))(h10:C[10]?=some (.int .i64 (now:Int))):Calls Tryz.prog 101 #[.pointer (some ⟨rb,10,none⟩)] w fun e w'=>∃vs D its wv,e=.returned (.agg #[vs 0,vs 1,vs 2,vs 3,vs 4])∧th w rb C T wv0 now its0 D vs its wv w':=by
 obtain⟨i3,hi3,hy0,hy1,hy2⟩:=info_parts Tryz.AE;have hta:∀v W,(Instr.typeAssert (.iface 171 v) 20 171 false).run Tryz.prog W=.ok v W:=fun v W=>by kernel_rfl
 have hrl:rb<w.heap.size:=(Cn.1 hq.rbk).1;have hCs:11<C.size:=(Cn.1 hq.c11).1;have HQ:=hid hq;have HWL:Hid (∀b,wv0.ownBlock=some b→b<w.heap.size):=fun b hb=>(hq.row.lt b hb).2
 have HC10:=hid h10;clear h10;go_enter Tryz.func101,Tryz.ntmps101
 go_upto_region 2 with fail
 obtain⟨wa,hwa⟩:∃wa,(w.alloc (.cells #[.slice none 0 0,.slice none 0 0,.slice none 0 0,.slice none 0 0,.slice none 0 0] 196)).alloc (.cells #[.slice none 0 0,.slice none 0 0,.slice none 0 0,.slice none 0 0,.slice none 0 0] 196)=wa:=⟨_,rfl⟩
 have hba:Below w.heap.size w wa:=by rw[←hwa];exact((Ck _ w).alloc (Cl _) _).alloc (by simp) _
 have hsa:wa.heap.size=w.heap.size+2:=by rw[←hwa];simp
 have HA0:Hid (wa.heap[w.heap.size]?=some (.cells #[.slice none 0 0,.slice none 0 0,.slice none 0 0,.slice none 0 0,.slice none 0 0] 196 (0,0))):=by
  show _=_
  rw[←hwa,CF _ _ _ (by simp)];exact heap_alloc_new w _
 have hA1:wa.heap[w.heap.size+1]?=some (.cells #[.slice none 0 0,.slice none 0 0,.slice none 0 0,.slice none 0 0,.slice none 0 0] 196 (0,0)):=by
  rw[←hwa];have:=heap_alloc_new (w.alloc (.cells #[.slice none 0 0,.slice none 0 0,.slice none 0 0,.slice none 0 0,.slice none 0 0] 196)) (.cells #[.slice none 0 0,.slice none 0 0,.slice none 0 0,.slice none 0 0,.slice none 0 0] 196);simpa only[World.size_alloc] using this
 rw[hwa];clear hwa;have HST:Hid (eG w rb C T wv0 now its0 (w.heap.size+1) wa its0 [] wv0 (fun _=>.slice none 0 0)):=by
  have hqa:=hq.below hba;have e:C.setIfInBounds 11 wv0=C:=by
   apply Array.ext_getElem?
   intro i;by_cases hi:i=11
   ·subst hi;rw[Array.getElem?_setIfInBounds_self_of_lt hCs,hq.c11]
   rw[CY (fun e=>hi e.symm)]
  exact⟨by rw[e];exact hqa,hh,⟨its0,fq.start now its0⟩,fun b hb=>.inl hb,(eH.start hA1).congr fun t _=>rfl,fun _ _ _ hb=>by simp[Cp]at hb,an.of_below hba,HA0.out⟩
 clear hq hh hA1 hba;generalize hdb:w.heap.size+1=db at *;go_loopw [12] (fun _ wr=>∃its ps wv vs,Hid (eG w rb C T wv0 now its0 db wr its ps wv vs)) (fun _ wr=>1000-popAt wr db)
 case atStart=>exact⟨its0,[],wv0,_,HST⟩
 case round =>
  obtain⟨its,ps,wv,vs,HI⟩:=hrel;have c10:wr.cell? ⟨rb,10,none⟩=some (.int .i64 (now:Int)):=by rw[cell_of_heap HI.out.q.rbk,CY (by omega)];exact HC10.out
  have c11:wr.cell? ⟨rb,11,none⟩=some wv:=by rw[cell_of_heap HI.out.q.rbk];exact HI.out.q.c11
  obtain⟨pw,cw,hwv⟩:=aW HI.out.q.row;subst hwv;by_cases hg:0<its.length∧kF its 0≤now
  ·obtain⟨g,cap,hgv,-,hgl⟩:=HI.out.q.row.form hg.1;simp only[Value.slice.injEq,true_and]at hgv;obtain⟨rfl,rfl⟩:=hgv;have cg:wr.cell? ⟨g,0,none⟩=some (.int .i64 (its[0].due:Int)):=by
    have h0:=hg.1;obtain⟨g',cap',hv',-,hc'⟩:=mq HI.out.q.row h0;cases hv';have:=hc' 0 (.int .i64 (its[0].due:Int)) (by omega) rfl;simpa using this
   have hdue:decide ((its[0].due:Int)≤(now:Int))=true:=by have:=hg.2;rw[fY hg.1]at this;simp;omega
   have hpos:(0:Int)<(its.length:Int):=by have:=hg.1;omega
   generalize hd0:(its[0].due:Int)=d0 at *;go_upto_region 2 with fail
   go_quiet (fail)
   have HI1:Hid (eG w rb C T wv0 now its0 db (wr.drewN nq) its ps (.slice (some ⟨g,0,none⟩) its.length cw) vs):=HI.out.drewN nq;have HM0:Hid (popAt wr db=ps.length∧ps.length≤its0.length):=HI.out.popAt;have hx0:its[0].due≤now:=by have:=hg.2;rwa[fY hg.1]at this
   have h0m:its[0]∈its:=List.getElem_mem _;clear c10 c11 cg hd0 HI;generalize wr.drewN nq=w1 at *;have hlen:its.length=its0.length:=by obtain⟨rest,hp⟩:=HI1.out.pop;exact hp.len
   have HPOP:Hid (Calls Tryz.prog 138 #[.iface 175 (.pointer (some ⟨rb,11,none⟩))] w1 fun e w'=>∃x its1 g1 cap1,e=.returned (.iface 171 x.val)∧Hid (nE w1 rb (C.setIfInBounds 11 (.slice (some ⟨g,0,none⟩) its.length cw)) T (.slice (some ⟨g,0,none⟩) its.length cw) its1 g1 cap1 w'∧(x::its1).Perm its∧aH 0 its1.length (kF its1)∧x.due≤now)):=by
    refine(zX rb its hg.1 (by omega) _ _ T w1 HI1.out.q HI1.out.heap).mono ?_;rintro e w' ⟨x,its1,g1,cap1,h1,h2,h3,h4,h5⟩
    exact⟨x,its1,g1,cap1,h1,h2,h3,h4,CC (h5 _ h0m) hx0⟩
   unfold It.val at HPOP;clear hg hdue hpos h0m hx0;go_upto_region 4 with(go_at_call 138;refine HPOP.out.mono ?_;rintro e w2 ⟨x,its1,g1,cap1,rfl,HQ2⟩)
   obtain⟨q2,qp,qh,qd⟩:=HQ2.out;have hs2:w1.heap.size≤w2.heap.size:=q2.upd.size;have hdl:db<w1.heap.size:=(Cn.1 HI1.out.due.blk).1;have hxt:=x.ht;obtain⟨w3,hw3⟩:∃w3,w2.alloc (.cells #[.int .i64 (x.due:Int),.int .i64 (x.to:Int),.int .i64 (x.en.org:Int),.int .i64 (x.en.seq:Int),.int .i64 (x.en.ah.a:Int),.int .i64 (x.en.ah.b:Int),.int .i64 (x.en.ah.c:Int),.int .i64 (x.en.ah.d:Int),.int .i64 (x.en.ah.e:Int),.int .i64 (x.en.c.k.num:Int),.string x.en.c.word,.int .i64 (x.en.c.count:Int)] 171)=w3:=⟨_,rfl⟩
   have hb3:w3.heap[w2.heap.size]?=some (.cells #[.int .i64 (x.due:Int),.int .i64 (x.to:Int),.int .i64 (x.en.org:Int),.int .i64 (x.en.seq:Int),.int .i64 (x.en.ah.a:Int),.int .i64 (x.en.ah.b:Int),.int .i64 (x.en.ah.c:Int),.int .i64 (x.en.ah.d:Int),.int .i64 (x.en.ah.e:Int),.int .i64 (x.en.c.k.num:Int),.string x.en.c.word,.int .i64 (x.en.c.count:Int)] 171 (0,0)):=by rw[←hw3];exact heap_alloc_new w2 _
   have hs3:w3.heap.size=w2.heap.size+1:=by rw[←hw3];simp
   have hbl3:Below w2.heap.size w2 w3:=by rw[←hw3];exact(Ck _ w2).alloc (Cl _) _
   rw[hw3];clear hw3;have hD3:eH w3 db (bU ps) vs:=by
    have u:=q2.upd;refine(HI1.out.due.keep u (fun hm=>?_) fun t ht b hb hm=>?_).keep (an.of_below (S:=[]) hbl3) (by simp) (by simp)
    ·simp only[Co,Cq,or_false,Option.some.injEq]at hm;rcases hm with hm|hm
     ·omega
     rcases HI1.out.own db hm.symm with h|h
     ·have:=(HQ.out.row.lt db h).2;omega
     omega
    simp only[Co,Cq,or_false,Option.some.injEq]at hm;rcases hm with hm|hm
    ·have:=aU (HI1.out.due.row t ht) hb;omega
    exact HI1.out.far t ht b hb hm.symm
   have hq3:gQ w3 rb (C.setIfInBounds 11 (.slice (some ⟨g1,0,none⟩) its1.length cap1)) T (.slice (some ⟨g1,0,none⟩) its1.length cap1) its1:=by
    have:=(q2.at (by rw[Array.size_setIfInBounds];exact hCs)).below hbl3;rwa[Array.setIfInBounds_setIfInBounds]at this
   have cd:w3.cell? ⟨db,x.to,none⟩=some (vs x.to):=hD3.cell hxt;have fd:w3.frozen? ⟨db,x.to,none⟩=false:=frozen_of_heap hD3.blk _;have hvb:∀b,(vs x.to).ownBlock=some b→db<b∧b<w2.heap.size:=fun b hb=>⟨aU (hD3.row _ hxt) hb,by have:=((HI1.out.due.row _ hxt).lt b hb).2;omega⟩
   have hib:db<w2.heap.size:=by omega
   generalize hibd:w2.heap.size=ib at *;have hS:(fun w':World=>w'.heap[ib]?=some (.cells #[.int .i64 (x.due:Int),.int .i64 (x.to:Int),.int .i64 (x.en.org:Int),.int .i64 (x.en.seq:Int),.int .i64 (x.en.ah.a:Int),.int .i64 (x.en.ah.b:Int),.int .i64 (x.en.ah.c:Int),.int .i64 (x.en.ah.d:Int),.int .i64 (x.en.ah.e:Int),.int .i64 (x.en.c.k.num:Int),.string x.en.c.word,.int .i64 (x.en.c.count:Int)] 171 (0,0))) w3.drew:=hb3;have hx5:(x.to:Int)<5:=by omega
   have hx50:(0:Int)≤(x.to:Int):=by omega
   have hmx:Tryz.prog.follows .mixedOrders=true:=by kernel_rfl
   have hle9:(bU ps x.to).length≤1000:=by
    have h1:=HM0.out.2;have h2:(bU ps x.to).length≤ps.length:=by unfold bU;rw[Dx];exact DE _ _
    omega
   refine wp_region_held (S:=(fun w':World=>w'.heap[ib]?=some (.cells #[.int .i64 (x.due:Int),.int .i64 (x.to:Int),.int .i64 (x.en.org:Int),.int .i64 (x.en.seq:Int),.int .i64 (x.en.ah.a:Int),.int .i64 (x.en.ah.b:Int),.int .i64 (x.en.ah.c:Int),.int .i64 (x.en.ah.d:Int),.int .i64 (x.en.ah.e:Int),.int .i64 (x.en.c.k.num:Int),.string x.en.c.word,.int .i64 (x.en.c.count:Int)] 171 (0,0)))) hmx ?_;refine wpAnyH_take (i:=0) (v:=(.pointer (some ⟨ib,1,none⟩))) rfl (by kernel_rfl) (by kernel_rfl) (by kernel_rfl) (fun _ _ _ h=>h) (Or.inl ⟨by rfl,?_⟩) hS ?_
   ·intro W hSw;go_simp
   dsimp only[Ct,Cu,Cv];simp only[Act.put,Cw,Cs,Cx];refine wpAnyH_take (i:=1) (v:=(.int .i64 (x.to:Int))) rfl (by kernel_rfl) (by kernel_rfl) (by kernel_rfl) (fun _ _ _ h=>h) (Or.inl ⟨by rfl,?_⟩) hS ?_
   ·intro W hSw;have s1:W.cell? ⟨ib,1,none⟩=some (.int .i64 (x.to:Int)):=cell_of_heap hSw _;go_simp
   dsimp only[Ct,Cu,Cv];simp only[Act.put,Cw,Cs,Cx];refine wpAnyH_take (i:=2) (v:=(.pointer (some ⟨ib,1,none⟩))) rfl (by kernel_rfl) (by kernel_rfl) (by kernel_rfl) (fun _ _ _ h=>h) (Or.inl ⟨by rfl,?_⟩) hS ?_
   ·intro W hSw;go_simp
   dsimp only[Ct,Cu,Cv];simp only[Act.put,Cw,Cs,Cx];refine wpAnyH_take (i:=3) (v:=(.int .i64 (x.to:Int))) rfl (by kernel_rfl) (by kernel_rfl) (by kernel_rfl) (fun _ _ _ h=>h) (Or.inl ⟨by rfl,?_⟩) hS ?_
   ·intro W hSw;have s1:W.cell? ⟨ib,1,none⟩=some (.int .i64 (x.to:Int)):=cell_of_heap hSw _;go_simp
   dsimp only[Ct,Cu,Cv];simp only[Act.put,Cw,Cs,Cx];refine wpAnyH_take (i:=4) (v:=(.pointer (some ⟨db,x.to,none⟩))) rfl (by kernel_rfl) (by kernel_rfl) (by kernel_rfl) (fun _ _ _ h=>h) (Or.inl ⟨by rfl,?_⟩) hS ?_
   ·intro W hSw;go_simp
   dsimp only[Ct,Cu,Cv];simp only[Act.put,Cw,Cs,Cx];refine wpAnyH_take (i:=6) (v:=(.pointer (some ⟨ib,2,none⟩))) rfl (by kernel_rfl) (by kernel_rfl) (by kernel_rfl) (fun _ _ _ h=>h) (Or.inl ⟨by rfl,?_⟩) hS ?_
   ·intro W hSw;go_simp
   dsimp only[Ct,Cu,Cv];simp only[Act.put,Cw,Cs,Cx];refine wpAnyH_take (i:=7) (v:=(.agg #[.int .i64 (x.en.org:Int),.int .i64 (x.en.seq:Int),.int .i64 (x.en.ah.a:Int),.int .i64 (x.en.ah.b:Int),.int .i64 (x.en.ah.c:Int),.int .i64 (x.en.ah.d:Int),.int .i64 (x.en.ah.e:Int),.int .i64 (x.en.c.k.num:Int),.string x.en.c.word,.int .i64 (x.en.c.count:Int)])) rfl (by kernel_rfl) (by kernel_rfl) (by kernel_rfl) (fun _ _ _ h=>h) (Or.inl ⟨by rfl,?_⟩) hS ?_
   ·intro W hSw;have s2:W.cell? ⟨ib,2,none⟩=some (.int .i64 (x.en.org:Int)):=cell_of_heap hSw _;have s3:W.cell? ⟨ib,3,none⟩=some (.int .i64 (x.en.seq:Int)):=cell_of_heap hSw _;have s4:W.cell? ⟨ib,4,none⟩=some (.int .i64 (x.en.ah.a:Int)):=cell_of_heap hSw _;have s5:W.cell? ⟨ib,5,none⟩=some (.int .i64 (x.en.ah.b:Int)):=cell_of_heap hSw _;have s6:W.cell? ⟨ib,6,none⟩=some (.int .i64 (x.en.ah.c:Int)):=cell_of_heap hSw _;have s7:W.cell? ⟨ib,7,none⟩=some (.int .i64 (x.en.ah.d:Int)):=cell_of_heap hSw _;have s8:W.cell? ⟨ib,8,none⟩=some (.int .i64 (x.en.ah.e:Int)):=cell_of_heap hSw _;have s9:W.cell? ⟨ib,9,none⟩=some (.int .i64 (x.en.c.k.num:Int)):=cell_of_heap hSw _;have s10:W.cell? ⟨ib,10,none⟩=some (.string x.en.c.word):=cell_of_heap hSw _;have s11:W.cell? ⟨ib,11,none⟩=some (.int .i64 (x.en.c.count:Int)):=cell_of_heap hSw _;go_simp
   dsimp only[Ct,Cu,Cv];simp only[Act.put,Cw,Cs,Cx];have hnb:∀o,(w3.drew.alloc o).heap[ib]?=w3.heap[ib]?:=fun o=>CF w3.drew o ib (by show ib<w3.heap.size;omega)
   have hSa:∀o,(fun w':World=>w'.heap[ib]?=some (.cells #[.int .i64 (x.due:Int),.int .i64 (x.to:Int),.int .i64 (x.en.org:Int),.int .i64 (x.en.seq:Int),.int .i64 (x.en.ah.a:Int),.int .i64 (x.en.ah.b:Int),.int .i64 (x.en.ah.c:Int),.int .i64 (x.en.ah.d:Int),.int .i64 (x.en.ah.e:Int),.int .i64 (x.en.c.k.num:Int),.string x.en.c.word,.int .i64 (x.en.c.count:Int)] 171 (0,0))) (w3.drew.alloc o):=fun o=>(hnb o).trans hb3
   have ka:∀o,(w3.drew.alloc o).cell? ⟨db,x.to,none⟩=some (vs x.to):=fun o=>(World.cell?_of_block (a:=⟨db,x.to,none⟩) (CF w3.drew o db (by show db<w3.heap.size;omega))).trans cd
   have cd':w3.drew.cell? ⟨db,x.to,none⟩=some (vs x.to):=cd;have hnw:(w3.drew.alloc (.cells #[.int .i64 (x.en.org:Int),.int .i64 (x.en.seq:Int),.int .i64 (x.en.ah.a:Int),.int .i64 (x.en.ah.b:Int),.int .i64 (x.en.ah.c:Int),.int .i64 (x.en.ah.d:Int),.int .i64 (x.en.ah.e:Int),.int .i64 (x.en.c.k.num:Int),.string x.en.c.word,.int .i64 (x.en.c.count:Int)] 122)).heap[ib+1]?=some (.cells #[.int .i64 (x.en.org:Int),.int .i64 (x.en.seq:Int),.int .i64 (x.en.ah.a:Int),.int .i64 (x.en.ah.b:Int),.int .i64 (x.en.ah.c:Int),.int .i64 (x.en.ah.d:Int),.int .i64 (x.en.ah.e:Int),.int .i64 (x.en.c.k.num:Int),.string x.en.c.word,.int .i64 (x.en.c.count:Int)] 122 (0,0)):=by
    have:=heap_alloc_new w3.drew (.cells #[.int .i64 (x.en.org:Int),.int .i64 (x.en.seq:Int),.int .i64 (x.en.ah.a:Int),.int .i64 (x.en.ah.b:Int),.int .i64 (x.en.ah.c:Int),.int .i64 (x.en.ah.d:Int),.int .i64 (x.en.ah.e:Int),.int .i64 (x.en.c.k.num:Int),.string x.en.c.word,.int .i64 (x.en.c.count:Int)] 122);rwa[show w3.drew.heap.size=ib+1 from hs3]at this
   have HAP:Hid (∀(g5 cap5:Nat) (w5:World),w5.ownsRow (db+1) 122 10 (.slice (some ⟨g5,0,none⟩) ((bU ps x.to).length+1) cap5) ((bU ps x.to).length+1) (aP (bU ps x.to)++[.int .i64 (x.en.org:Int),.int .i64 (x.en.seq:Int),.int .i64 (x.en.ah.a:Int),.int .i64 (x.en.ah.b:Int),.int .i64 (x.en.ah.c:Int),.int .i64 (x.en.ah.d:Int),.int .i64 (x.en.ah.e:Int),.int .i64 (x.en.c.k.num:Int),.string x.en.c.word,.int .i64 (x.en.c.count:Int)])→(w3.drew.alloc (.cells #[.int .i64 (x.en.org:Int),.int .i64 (x.en.seq:Int),.int .i64 (x.en.ah.a:Int),.int .i64 (x.en.ah.b:Int),.int .i64 (x.en.ah.c:Int),.int .i64 (x.en.ah.d:Int),.int .i64 (x.en.ah.e:Int),.int .i64 (x.en.c.k.num:Int),.string x.en.c.word,.int .i64 (x.en.c.count:Int)] 122)).grownBy w5 (vs x.to).ownBlock→((vs x.to).ownBlock=some g5∨g5=w3.heap.size+1)→(fun w':World=>w'.heap[ib]?=some (.cells #[.int .i64 (x.due:Int),.int .i64 (x.to:Int),.int .i64 (x.en.org:Int),.int .i64 (x.en.seq:Int),.int .i64 (x.en.ah.a:Int),.int .i64 (x.en.ah.b:Int),.int .i64 (x.en.ah.c:Int),.int .i64 (x.en.ah.d:Int),.int .i64 (x.en.ah.e:Int),.int .i64 (x.en.c.k.num:Int),.string x.en.c.word,.int .i64 (x.en.c.count:Int)] 171 (0,0))) w5∧w5.cell? ⟨db,x.to,none⟩=some (vs x.to)∧w5.frozen? ⟨db,x.to,none⟩=false∧(fun w':World=>w'.heap[ib]?=some (.cells #[.int .i64 (x.due:Int),.int .i64 (x.to:Int),.int .i64 (x.en.org:Int),.int .i64 (x.en.seq:Int),.int .i64 (x.en.ah.a:Int),.int .i64 (x.en.ah.b:Int),.int .i64 (x.en.ah.c:Int),.int .i64 (x.en.ah.d:Int),.int .i64 (x.en.ah.e:Int),.int .i64 (x.en.c.k.num:Int),.string x.en.c.word,.int .i64 (x.en.c.count:Int)] 171 (0,0))) (w5.setCell ⟨db,x.to,none⟩ (.slice (some ⟨g5,0,none⟩) ((bU ps x.to).length+1) cap5))∧Hid (eH (w5.setCell ⟨db,x.to,none⟩ (.slice (some ⟨g5,0,none⟩) ((bU ps x.to).length+1) cap5)) db (bU (ps++[x])) (fun u=>if u=x.to then .slice (some ⟨g5,0,none⟩) ((bU ps x.to).length+1) cap5 else vs u)∧an [(vs x.to).ownBlock,some db] w3 (w5.setCell ⟨db,x.to,none⟩ (.slice (some ⟨g5,0,none⟩) ((bU ps x.to).length+1) cap5))∧((vs x.to).ownBlock=some g5∨w3.heap.size<g5))):=fun g5 cap5 w5 hown5 hgrow hat5=>by
    have u5:an [(vs x.to).ownBlock] w3 w5:=((an.refl _ w3).drew.alloc _).grown hgrow fun k hk=>.inl (by simp[hk])
    have kb:∀b,b<w3.heap.size→(vs x.to).ownBlock≠some b→w5.heap[b]?=w3.heap[b]?:=fun b hb hne=>u5.block b hb (by simpa using fun e=>hne e.symm)
    have s5:w5.heap[ib]?=_:=(kb ib (by omega) fun e=>by have:=(hvb ib e).2;omega).trans hb3;have d5:w5.heap[db]?=_:=(kb db (by omega) fun e=>by have:=(hvb db e).1;omega).trans hD3.blk;refine⟨s5,by rw[cell_of_heap d5];exact qP vs hxt,frozen_of_heap d5 _,?_,?_,?_,?_⟩
    ·exact(Below.heap_setCell _ _ _ _ (by show ib≠db;omega)).trans s5
    ·refine(hD3.push hxt hown5 (hat5.imp id fun h=>by omega) u5).congr fun t _=>?_
     rw[uk];by_cases e:t=x.to
     ·subst e;simp
     rw[if_neg e,if_neg (fun e'=>e e'.symm),List.append_nil]
    ·exact(u5.mono (T:=[(vs x.to).ownBlock,some db]) (fun i hi=>by simp only[Co,Cq,or_false]at hi ⊢;exact .inl hi)).setCell (.inl (by simp)) _
    exact hat5.imp id fun h=>by omega
   refine wpAnyH_ready (rs:=[5,8]) (by kernel_rfl) (by simp) ?_;refine AllReadyH.cons rfl (fun K hK=>?_) (AllReadyH.cons rfl (fun K hK=>?_) AllReadyH.nil)
   ·
    rw[if_pos (by rfl)];dsimp only[Ct,Cu,Cv];go_simp
    refine hK.out _ _ hS (fun _=>?_);clear hK K
    try simp only[Act.put,Cw,Cs,Cx]
    refine wpAnyH_ready (rs:=[8]) (by kernel_rfl) (by simp) ?_;refine AllReadyH.cons rfl (fun K hK=>?_) AllReadyH.nil;rw[if_pos (by rfl)];dsimp only[Ct,Cu,Cv];go_simp
    refine hK.out _ _ (hSa _) (fun _=>?_);clear hK K
    try simp only[Act.put,Cw,Cs,Cx]
    refine wpAnyH_ready (rs:=[9]) (by kernel_rfl) (by simp) ?_;refine AllReadyH.cons rfl (fun K hK=>?_) AllReadyH.nil;refine step_append_lies _ (by rfl) _ _ _ (by rfl) (db+1) 122 i3 _ 10 88 Tryz.underlying101 hi3 hy0 hy1 hy2 rfl (by omega) (vs x.to) (bU ps x.to).length (aP (bU ps x.to)) (by rfl) (an.owns (S:=[]) (an.alloc (an.drew (an.refl _ w3)) _) (hD3.row _ hxt) (by simp)) ⟨ib+1,0,none⟩ 1 1 [.int .i64 (x.en.org:Int),.int .i64 (x.en.seq:Int),.int .i64 (x.en.ah.a:Int),.int .i64 (x.en.ah.b:Int),.int .i64 (x.en.ah.c:Int),.int .i64 (x.en.ah.d:Int),.int .i64 (x.en.ah.e:Int),.int .i64 (x.en.c.k.num:Int),.string x.en.c.word,.int .i64 (x.en.c.count:Int)] (by rfl) (by rfl) (CH hnw) (by simp[Value.oneCell']) (by omega) (by unfold maxLen;omega) (by omega) (by show db+1≤(w3.drew.alloc _).heap.size;simp;omega) (w3.heap.size+1) (by show(w3.drew.alloc _).heap.size=_;simp) ?_
    intro g5 cap5 w5 hown5 hgrow hat5 hlt5;obtain⟨hS5,c5,f5,hS6,HD6⟩:=HAP.out g5 cap5 w5 hown5 hgrow hat5;refine hK.out _ _ hS5 (fun _=>?_);clear hK K
    try simp only[Act.put,Cw,Cs,Cx]
    refine wpAnyH_take (i:=10) (v:=(.pointer (some ⟨db,x.to,none⟩))) rfl (by kernel_rfl) (by kernel_rfl) (by kernel_rfl) (fun _ _ _ h=>h) (Or.inl ⟨by rfl,?_⟩) hS5 ?_
    ·intro W hSw;go_simp
    dsimp only[Ct,Cu,Cv];simp only[Act.put,Cw,Cs,Cx];refine wpAnyH_ready (rs:=[11]) (by kernel_rfl) (by simp) ?_;refine AllReadyH.cons rfl (fun K hK=>?_) AllReadyH.nil;rw[if_pos (by rfl)];dsimp only[Ct,Cu,Cv];go_simp
    refine hK.out _ _ hS6 (fun _=>?_);clear hK K
    try simp only[Act.put,Cw,Cs,Cx]
    refine wpAnyH_done (by kernel_rfl) ?_ _;obtain⟨hD6,u6,hg5⟩:=HD6.out;generalize hw6:w5.setCell ⟨db,x.to,none⟩ (.slice (some ⟨g5,0,none⟩) ((bU ps x.to).length+1) cap5)=w6 at *;have u7:an [some ib] w6 (w6.setCell ⟨ib,0,none⟩ (.int .i64 ((now:Int)+1))):=(an.refl _ w6).setCell (.inl (by simp)) _;obtain⟨q6,q7⟩:=HI1.out.q7 (x:=x) hrl (by omega) HWL.out (by rw[←hibd]at *;exact q2) (by rw[hibd];exact hs3) hq3 u6 (by rw[hibd];exact u7);have c10:w6.cell? ⟨rb,10,none⟩=some (.int .i64 (now:Int)):=by rw[cell_of_heap q6.rbk,CY (by omega)];exact HC10.out
    have ci0:w6.cell? ⟨ib,0,none⟩=some (.int .i64 (x.due:Int)):=cell_of_heap hS6 _;have fi0:w6.frozen? ⟨ib,0,none⟩=false:=frozen_of_heap hS6 0;have hS7:(fun w':World=>w'.heap[ib]?=some (.cells #[.int .i64 ((now:Int)+1),.int .i64 (x.to:Int),.int .i64 (x.en.org:Int),.int .i64 (x.en.seq:Int),.int .i64 (x.en.ah.a:Int),.int .i64 (x.en.ah.b:Int),.int .i64 (x.en.ah.c:Int),.int .i64 (x.en.ah.d:Int),.int .i64 (x.en.ah.e:Int),.int .i64 (x.en.c.k.num:Int),.string x.en.c.word,.int .i64 (x.en.c.count:Int)] 171 (0,0))) (w6.setCell ⟨ib,0,none⟩ (.int .i64 ((now:Int)+1))).drew:=by
     show(w6.setCell ⟨ib,0,none⟩ (.int .i64 ((now:Int)+1))).heap[ib]?=_
     rw[ae hS6];rfl
    have HPU:Hid (Calls Tryz.prog 89 #[.iface 175 (.pointer (some ⟨rb,11,none⟩)),.iface 171 (.agg #[.int .i64 ((now:Int)+1),.int .i64 (x.to:Int),.int .i64 (x.en.org:Int),.int .i64 (x.en.seq:Int),.int .i64 (x.en.ah.a:Int),.int .i64 (x.en.ah.b:Int),.int .i64 (x.en.ah.c:Int),.int .i64 (x.en.ah.d:Int),.int .i64 (x.en.ah.e:Int),.int .i64 (x.en.c.k.num:Int),.string x.en.c.word,.int .i64 (x.en.c.count:Int)])] (w6.setCell ⟨ib,0,none⟩ (.int .i64 ((now:Int)+1))).drew fun e w'=>e=.returned (.tuple #[])∧(fun w':World=>w'.heap[ib]?=some (.cells #[.int .i64 ((now:Int)+1),.int .i64 (x.to:Int),.int .i64 (x.en.org:Int),.int .i64 (x.en.seq:Int),.int .i64 (x.en.ah.a:Int),.int .i64 (x.en.ah.b:Int),.int .i64 (x.en.ah.c:Int),.int .i64 (x.en.ah.d:Int),.int .i64 (x.en.ah.e:Int),.int .i64 (x.en.c.k.num:Int),.string x.en.c.word,.int .i64 (x.en.c.count:Int)] 171 (0,0))) w'∧Hid (∃its2 wv2,eG w rb C T wv0 now its0 db w' its2 (ps++[x]) wv2 (fun u=>if u=x.to then .slice (some ⟨g5,0,none⟩) ((bU ps x.to).length+1) cap5 else vs u))):=by
     have hlt:bE now x=⟨now+1,x.to,x.en,hnow,x.ht⟩:=dif_pos ⟨qd,hnow⟩;have hl1:its1.length<1000:=by have:=qp.length_eq;simp at this;omega
     have hpu:=vD rb its1 hl1 (bE now x) _ _ T (w6.setCell ⟨ib,0,none⟩ (.int .i64 ((now:Int)+1))).drew ⟨q7.rbk,q7.c11,q7.row,q7.ne⟩ qh;have hva:(bE now x).val=.agg #[.int .i64 ((now:Int)+1),.int .i64 (x.to:Int),.int .i64 (x.en.org:Int),.int .i64 (x.en.seq:Int),.int .i64 (x.en.ah.a:Int),.int .i64 (x.en.ah.b:Int),.int .i64 (x.en.ah.c:Int),.int .i64 (x.en.ah.d:Int),.int .i64 (x.en.ah.e:Int),.int .i64 (x.en.c.k.num:Int),.string x.en.c.word,.int .i64 (x.en.c.count:Int)]:=by rw[hlt];rfl
     rw[hva]at hpu;refine hpu.mono ?_;rintro e w8 ⟨he,its2,g8,cap8,q8,p8,h8⟩
     refine⟨he,(q8.upd.block ib (by show ib<(w6.setCell _ _).heap.size;rw[aj];exact(Cn.1 hS6).1) fun hm=>?_).trans hS7,its2,_,HI1.out.step hrl (by omega) HWL.out hnow hCs q2 qp qd (by rw[hibd];exact hbl3) (by rw[hibd];exact hs3) hD6 u6 hg5 (by rw[hibd];exact u7.drew) q8 p8 h8⟩;simp only[Co,Cq,or_false,Option.some.injEq,Cp]at hm;rcases hm with hm|hm
     ·omega
     have:=(q2.row.lt g1 rfl).2;rw[hibd]at this;subst hm;exact absurd this (Nat.lt_irrefl _)
    clear hD6 u6 hg5 q6 q7 u7 HD6 hw6 hSa ka cd' hnw HAP hD3 hq3 cd fd hb3 hS5 c5 f5 hown5 hgrow hat5 hlt5 hnb hS;go_upto_region 6 with fail
    refine wp_region_held (S:=(fun w':World=>w'.heap[ib]?=some (.cells #[.int .i64 ((now:Int)+1),.int .i64 (x.to:Int),.int .i64 (x.en.org:Int),.int .i64 (x.en.seq:Int),.int .i64 (x.en.ah.a:Int),.int .i64 (x.en.ah.b:Int),.int .i64 (x.en.ah.c:Int),.int .i64 (x.en.ah.d:Int),.int .i64 (x.en.ah.e:Int),.int .i64 (x.en.c.k.num:Int),.string x.en.c.word,.int .i64 (x.en.c.count:Int)] 171 (0,0)))) hmx ?_;refine wpAnyH_take (i:=0) (v:=(.pointer (some ⟨rb,10,none⟩))) rfl (by kernel_rfl) (by kernel_rfl) (by kernel_rfl) (fun _ _ _ h=>h) (Or.inl ⟨by rfl,?_⟩) hS7 ?_
    ·intro W hSw;go_simp
    dsimp only[Ct,Cu,Cv];simp only[Act.put,Cw,Cs,Cx];refine wpAnyH_take (i:=1) (v:=(.pointer (some ⟨rb,10,none⟩))) rfl (by kernel_rfl) (by kernel_rfl) (by kernel_rfl) (fun _ _ _ h=>h) (Or.inl ⟨by rfl,?_⟩) hS7 ?_
    ·intro W hSw;go_simp
    dsimp only[Ct,Cu,Cv];simp only[Act.put,Cw,Cs,Cx];refine wpAnyH_take (i:=2) (v:=(.pointer (some ⟨rb,11,none⟩))) rfl (by kernel_rfl) (by kernel_rfl) (by kernel_rfl) (fun _ _ _ h=>h) (Or.inl ⟨by rfl,?_⟩) hS7 ?_
    ·intro W hSw;go_simp
    dsimp only[Ct,Cu,Cv];simp only[Act.put,Cw,Cs,Cx];refine wpAnyH_take (i:=3) (v:=(.iface 175 (.pointer (some ⟨rb,11,none⟩)))) rfl (by kernel_rfl) (by kernel_rfl) (by kernel_rfl) (fun _ _ _ h=>h) (Or.inl ⟨by rfl,?_⟩) hS7 ?_
    ·intro W hSw;go_simp
    dsimp only[Ct,Cu,Cv];simp only[Act.put,Cw,Cs,Cx];refine wpAnyH_take (i:=4) (v:=(.agg #[.int .i64 ((now:Int)+1),.int .i64 (x.to:Int),.int .i64 (x.en.org:Int),.int .i64 (x.en.seq:Int),.int .i64 (x.en.ah.a:Int),.int .i64 (x.en.ah.b:Int),.int .i64 (x.en.ah.c:Int),.int .i64 (x.en.ah.d:Int),.int .i64 (x.en.ah.e:Int),.int .i64 (x.en.c.k.num:Int),.string x.en.c.word,.int .i64 (x.en.c.count:Int)])) rfl (by kernel_rfl) (by kernel_rfl) (by kernel_rfl) (fun _ _ _ h=>h) (Or.inl ⟨by rfl,?_⟩) hS7 ?_
    ·intro W hSw;have s0:W.cell? ⟨ib,0,none⟩=some (.int .i64 ((now:Int)+1)):=cell_of_heap hSw _;have s1:W.cell? ⟨ib,1,none⟩=some (.int .i64 (x.to:Int)):=cell_of_heap hSw _;have s2:W.cell? ⟨ib,2,none⟩=some (.int .i64 (x.en.org:Int)):=cell_of_heap hSw _;have s3:W.cell? ⟨ib,3,none⟩=some (.int .i64 (x.en.seq:Int)):=cell_of_heap hSw _;have s4:W.cell? ⟨ib,4,none⟩=some (.int .i64 (x.en.ah.a:Int)):=cell_of_heap hSw _;have s5:W.cell? ⟨ib,5,none⟩=some (.int .i64 (x.en.ah.b:Int)):=cell_of_heap hSw _;have s6:W.cell? ⟨ib,6,none⟩=some (.int .i64 (x.en.ah.c:Int)):=cell_of_heap hSw _;have s7:W.cell? ⟨ib,7,none⟩=some (.int .i64 (x.en.ah.d:Int)):=cell_of_heap hSw _;have s8:W.cell? ⟨ib,8,none⟩=some (.int .i64 (x.en.ah.e:Int)):=cell_of_heap hSw _;have s9:W.cell? ⟨ib,9,none⟩=some (.int .i64 (x.en.c.k.num:Int)):=cell_of_heap hSw _;have s10:W.cell? ⟨ib,10,none⟩=some (.string x.en.c.word):=cell_of_heap hSw _
     have s11:W.cell? ⟨ib,11,none⟩=some (.int .i64 (x.en.c.count:Int)):=cell_of_heap hSw _;go_simp
    dsimp only[Ct,Cu,Cv];simp only[Act.put,Cw,Cs,Cx];refine wpAnyH_take (i:=5) (v:=(.iface 171 (.agg #[.int .i64 ((now:Int)+1),.int .i64 (x.to:Int),.int .i64 (x.en.org:Int),.int .i64 (x.en.seq:Int),.int .i64 (x.en.ah.a:Int),.int .i64 (x.en.ah.b:Int),.int .i64 (x.en.ah.c:Int),.int .i64 (x.en.ah.d:Int),.int .i64 (x.en.ah.e:Int),.int .i64 (x.en.c.k.num:Int),.string x.en.c.word,.int .i64 (x.en.c.count:Int)]))) rfl (by kernel_rfl) (by kernel_rfl) (by kernel_rfl) (fun _ _ _ h=>h) (Or.inl ⟨by rfl,?_⟩) hS7 ?_
    ·intro W hSw;go_simp
    dsimp only[Ct,Cu,Cv];simp only[Act.put,Cw,Cs,Cx];refine wpAnyH_ready (rs:=[6]) (by kernel_rfl) (by simp) ?_;refine AllReadyH.cons rfl (fun K hK=>?_) AllReadyH.nil;rw[if_pos (by rfl)];dsimp only[Ct,Cu,Cv];go_simp
    refine HPU.out.mono ?_;rintro e w8 ⟨rfl,hS8,HT8⟩
    refine hK.out _ _ hS8 (fun _=>?_);clear hK K
    try simp only[Act.put,Cw,Cs,Cx]
    refine wpAnyH_done (by kernel_rfl) ?_ _;go_wp2
    go_roundw
    case rel=>obtain⟨its2,wv2,h2⟩:=HT8.out;exact⟨its2,_,wv2,_,h2⟩
    case measure =>
     obtain⟨its2,wv2,h2⟩:=HT8.out;have m1:=h2.popAt;have m0:=HM0.out;rw[Cz]at m1
     simp only[CR,Dh]at m1;omega
   
   rw[if_pos (by rfl)];dsimp only[Ct,Cu,Cv];go_simp
   refine hK.out _ _ (hSa _) (fun _=>?_);clear hK K
   try simp only[Act.put,Cw,Cs,Cx]
   refine wpAnyH_ready (rs:=[5]) (by kernel_rfl) (by simp) ?_;refine AllReadyH.cons rfl (fun K hK=>?_) AllReadyH.nil;rw[if_pos (by rfl)];dsimp only[Ct,Cu,Cv];go_simp
   refine hK.out _ _ (hSa _) (fun _=>?_);clear hK K
   try simp only[Act.put,Cw,Cs,Cx]
   refine wpAnyH_ready (rs:=[9]) (by kernel_rfl) (by simp) ?_;refine AllReadyH.cons rfl (fun K hK=>?_) AllReadyH.nil;refine step_append_lies _ (by rfl) _ _ _ (by rfl) (db+1) 122 i3 _ 10 88 Tryz.underlying101 hi3 hy0 hy1 hy2 rfl (by omega) (vs x.to) (bU ps x.to).length (aP (bU ps x.to)) (by rfl) (an.owns (S:=[]) (an.alloc (an.drew (an.refl _ w3)) _) (hD3.row _ hxt) (by simp)) ⟨ib+1,0,none⟩ 1 1 [.int .i64 (x.en.org:Int),.int .i64 (x.en.seq:Int),.int .i64 (x.en.ah.a:Int),.int .i64 (x.en.ah.b:Int),.int .i64 (x.en.ah.c:Int),.int .i64 (x.en.ah.d:Int),.int .i64 (x.en.ah.e:Int),.int .i64 (x.en.c.k.num:Int),.string x.en.c.word,.int .i64 (x.en.c.count:Int)] (by rfl) (by rfl) (CH hnw) (by simp[Value.oneCell']) (by omega) (by unfold maxLen;omega) (by omega) (by show db+1≤(w3.drew.alloc _).heap.size;simp;omega) (w3.heap.size+1) (by show(w3.drew.alloc _).heap.size=_;simp) ?_
   intro g5 cap5 w5 hown5 hgrow hat5 hlt5;obtain⟨hS5,c5,f5,hS6,HD6⟩:=HAP.out g5 cap5 w5 hown5 hgrow hat5;refine hK.out _ _ hS5 (fun _=>?_);clear hK K
   try simp only[Act.put,Cw,Cs,Cx]
   refine wpAnyH_take (i:=10) (v:=(.pointer (some ⟨db,x.to,none⟩))) rfl (by kernel_rfl) (by kernel_rfl) (by kernel_rfl) (fun _ _ _ h=>h) (Or.inl ⟨by rfl,?_⟩) hS5 ?_
   ·intro W hSw;go_simp
   dsimp only[Ct,Cu,Cv];simp only[Act.put,Cw,Cs,Cx];refine wpAnyH_ready (rs:=[11]) (by kernel_rfl) (by simp) ?_;refine AllReadyH.cons rfl (fun K hK=>?_) AllReadyH.nil;rw[if_pos (by rfl)];dsimp only[Ct,Cu,Cv];go_simp
   refine hK.out _ _ hS6 (fun _=>?_);clear hK K
   try simp only[Act.put,Cw,Cs,Cx]
   refine wpAnyH_done (by kernel_rfl) ?_ _;obtain⟨hD6,u6,hg5⟩:=HD6.out;generalize hw6:w5.setCell ⟨db,x.to,none⟩ (.slice (some ⟨g5,0,none⟩) ((bU ps x.to).length+1) cap5)=w6 at *;have u7:an [some ib] w6 (w6.setCell ⟨ib,0,none⟩ (.int .i64 ((now:Int)+1))):=(an.refl _ w6).setCell (.inl (by simp)) _;obtain⟨q6,q7⟩:=HI1.out.q7 (x:=x) hrl (by omega) HWL.out (by rw[←hibd]at *;exact q2) (by rw[hibd];exact hs3) hq3 u6 (by rw[hibd];exact u7);have c10:w6.cell? ⟨rb,10,none⟩=some (.int .i64 (now:Int)):=by rw[cell_of_heap q6.rbk,CY (by omega)];exact HC10.out
   have ci0:w6.cell? ⟨ib,0,none⟩=some (.int .i64 (x.due:Int)):=cell_of_heap hS6 _;have fi0:w6.frozen? ⟨ib,0,none⟩=false:=frozen_of_heap hS6 0;have hS7:(fun w':World=>w'.heap[ib]?=some (.cells #[.int .i64 ((now:Int)+1),.int .i64 (x.to:Int),.int .i64 (x.en.org:Int),.int .i64 (x.en.seq:Int),.int .i64 (x.en.ah.a:Int),.int .i64 (x.en.ah.b:Int),.int .i64 (x.en.ah.c:Int),.int .i64 (x.en.ah.d:Int),.int .i64 (x.en.ah.e:Int),.int .i64 (x.en.c.k.num:Int),.string x.en.c.word,.int .i64 (x.en.c.count:Int)] 171 (0,0))) (w6.setCell ⟨ib,0,none⟩ (.int .i64 ((now:Int)+1))).drew:=by
    show(w6.setCell ⟨ib,0,none⟩ (.int .i64 ((now:Int)+1))).heap[ib]?=_
    rw[ae hS6];rfl
   have HPU:Hid (Calls Tryz.prog 89 #[.iface 175 (.pointer (some ⟨rb,11,none⟩)),.iface 171 (.agg #[.int .i64 ((now:Int)+1),.int .i64 (x.to:Int),.int .i64 (x.en.org:Int),.int .i64 (x.en.seq:Int),.int .i64 (x.en.ah.a:Int),.int .i64 (x.en.ah.b:Int),.int .i64 (x.en.ah.c:Int),.int .i64 (x.en.ah.d:Int),.int .i64 (x.en.ah.e:Int),.int .i64 (x.en.c.k.num:Int),.string x.en.c.word,.int .i64 (x.en.c.count:Int)])] (w6.setCell ⟨ib,0,none⟩ (.int .i64 ((now:Int)+1))).drew fun e w'=>e=.returned (.tuple #[])∧(fun w':World=>w'.heap[ib]?=some (.cells #[.int .i64 ((now:Int)+1),.int .i64 (x.to:Int),.int .i64 (x.en.org:Int),.int .i64 (x.en.seq:Int),.int .i64 (x.en.ah.a:Int),.int .i64 (x.en.ah.b:Int),.int .i64 (x.en.ah.c:Int),.int .i64 (x.en.ah.d:Int),.int .i64 (x.en.ah.e:Int),.int .i64 (x.en.c.k.num:Int),.string x.en.c.word,.int .i64 (x.en.c.count:Int)] 171 (0,0))) w'∧Hid (∃its2 wv2,eG w rb C T wv0 now its0 db w' its2 (ps++[x]) wv2 (fun u=>if u=x.to then .slice (some ⟨g5,0,none⟩) ((bU ps x.to).length+1) cap5 else vs u))):=by
    have hlt:bE now x=⟨now+1,x.to,x.en,hnow,x.ht⟩:=dif_pos ⟨qd,hnow⟩;have hl1:its1.length<1000:=by have:=qp.length_eq;simp at this;omega
    have hpu:=vD rb its1 hl1 (bE now x) _ _ T (w6.setCell ⟨ib,0,none⟩ (.int .i64 ((now:Int)+1))).drew ⟨q7.rbk,q7.c11,q7.row,q7.ne⟩ qh;have hva:(bE now x).val=.agg #[.int .i64 ((now:Int)+1),.int .i64 (x.to:Int),.int .i64 (x.en.org:Int),.int .i64 (x.en.seq:Int),.int .i64 (x.en.ah.a:Int),.int .i64 (x.en.ah.b:Int),.int .i64 (x.en.ah.c:Int),.int .i64 (x.en.ah.d:Int),.int .i64 (x.en.ah.e:Int),.int .i64 (x.en.c.k.num:Int),.string x.en.c.word,.int .i64 (x.en.c.count:Int)]:=by rw[hlt];rfl
    rw[hva]at hpu;refine hpu.mono ?_;rintro e w8 ⟨he,its2,g8,cap8,q8,p8,h8⟩
    refine⟨he,(q8.upd.block ib (by show ib<(w6.setCell _ _).heap.size;rw[aj];exact(Cn.1 hS6).1) fun hm=>?_).trans hS7,its2,_,HI1.out.step hrl (by omega) HWL.out hnow hCs q2 qp qd (by rw[hibd];exact hbl3) (by rw[hibd];exact hs3) hD6 u6 hg5 (by rw[hibd];exact u7.drew) q8 p8 h8⟩;simp only[Co,Cq,or_false,Option.some.injEq,Cp]at hm;rcases hm with hm|hm
    ·omega
    have:=(q2.row.lt g1 rfl).2;rw[hibd]at this;subst hm;exact absurd this (Nat.lt_irrefl _)
   clear hD6 u6 hg5 q6 q7 u7 HD6 hw6 hSa ka cd' hnw HAP hD3 hq3 cd fd hb3 hS5 c5 f5 hown5 hgrow hat5 hlt5 hnb hS;go_upto_region 6 with fail
   refine wp_region_held (S:=(fun w':World=>w'.heap[ib]?=some (.cells #[.int .i64 ((now:Int)+1),.int .i64 (x.to:Int),.int .i64 (x.en.org:Int),.int .i64 (x.en.seq:Int),.int .i64 (x.en.ah.a:Int),.int .i64 (x.en.ah.b:Int),.int .i64 (x.en.ah.c:Int),.int .i64 (x.en.ah.d:Int),.int .i64 (x.en.ah.e:Int),.int .i64 (x.en.c.k.num:Int),.string x.en.c.word,.int .i64 (x.en.c.count:Int)] 171 (0,0)))) hmx ?_;refine wpAnyH_take (i:=0) (v:=(.pointer (some ⟨rb,10,none⟩))) rfl (by kernel_rfl) (by kernel_rfl) (by kernel_rfl) (fun _ _ _ h=>h) (Or.inl ⟨by rfl,?_⟩) hS7 ?_
   ·intro W hSw;go_simp
   dsimp only[Ct,Cu,Cv];simp only[Act.put,Cw,Cs,Cx];refine wpAnyH_take (i:=1) (v:=(.pointer (some ⟨rb,10,none⟩))) rfl (by kernel_rfl) (by kernel_rfl) (by kernel_rfl) (fun _ _ _ h=>h) (Or.inl ⟨by rfl,?_⟩) hS7 ?_
   ·intro W hSw;go_simp
   dsimp only[Ct,Cu,Cv];simp only[Act.put,Cw,Cs,Cx];refine wpAnyH_take (i:=2) (v:=(.pointer (some ⟨rb,11,none⟩))) rfl (by kernel_rfl) (by kernel_rfl) (by kernel_rfl) (fun _ _ _ h=>h) (Or.inl ⟨by rfl,?_⟩) hS7 ?_
   ·intro W hSw;go_simp
   dsimp only[Ct,Cu,Cv];simp only[Act.put,Cw,Cs,Cx];refine wpAnyH_take (i:=3) (v:=(.iface 175 (.pointer (some ⟨rb,11,none⟩)))) rfl (by kernel_rfl) (by kernel_rfl) (by kernel_rfl) (fun _ _ _ h=>h) (Or.inl ⟨by rfl,?_⟩) hS7 ?_
   ·intro W hSw;go_simp
   dsimp only[Ct,Cu,Cv];simp only[Act.put,Cw,Cs,Cx];refine wpAnyH_take (i:=4) (v:=(.agg #[.int .i64 ((now:Int)+1),.int .i64 (x.to:Int),.int .i64 (x.en.org:Int),.int .i64 (x.en.seq:Int),.int .i64 (x.en.ah.a:Int),.int .i64 (x.en.ah.b:Int),.int .i64 (x.en.ah.c:Int),.int .i64 (x.en.ah.d:Int),.int .i64 (x.en.ah.e:Int),.int .i64 (x.en.c.k.num:Int),.string x.en.c.word,.int .i64 (x.en.c.count:Int)])) rfl (by kernel_rfl) (by kernel_rfl) (by kernel_rfl) (fun _ _ _ h=>h) (Or.inl ⟨by rfl,?_⟩) hS7 ?_
   ·intro W hSw;have s0:W.cell? ⟨ib,0,none⟩=some (.int .i64 ((now:Int)+1)):=cell_of_heap hSw _;have s1:W.cell? ⟨ib,1,none⟩=some (.int .i64 (x.to:Int)):=cell_of_heap hSw _;have s2:W.cell? ⟨ib,2,none⟩=some (.int .i64 (x.en.org:Int)):=cell_of_heap hSw _;have s3:W.cell? ⟨ib,3,none⟩=some (.int .i64 (x.en.seq:Int)):=cell_of_heap hSw _;have s4:W.cell? ⟨ib,4,none⟩=some (.int .i64 (x.en.ah.a:Int)):=cell_of_heap hSw _;have s5:W.cell? ⟨ib,5,none⟩=some (.int .i64 (x.en.ah.b:Int)):=cell_of_heap hSw _;have s6:W.cell? ⟨ib,6,none⟩=some (.int .i64 (x.en.ah.c:Int)):=cell_of_heap hSw _;have s7:W.cell? ⟨ib,7,none⟩=some (.int .i64 (x.en.ah.d:Int)):=cell_of_heap hSw _;have s8:W.cell? ⟨ib,8,none⟩=some (.int .i64 (x.en.ah.e:Int)):=cell_of_heap hSw _;have s9:W.cell? ⟨ib,9,none⟩=some (.int .i64 (x.en.c.k.num:Int)):=cell_of_heap hSw _;have s10:W.cell? ⟨ib,10,none⟩=some (.string x.en.c.word):=cell_of_heap hSw _
    have s11:W.cell? ⟨ib,11,none⟩=some (.int .i64 (x.en.c.count:Int)):=cell_of_heap hSw _;go_simp
   dsimp only[Ct,Cu,Cv];simp only[Act.put,Cw,Cs,Cx];refine wpAnyH_take (i:=5) (v:=(.iface 171 (.agg #[.int .i64 ((now:Int)+1),.int .i64 (x.to:Int),.int .i64 (x.en.org:Int),.int .i64 (x.en.seq:Int),.int .i64 (x.en.ah.a:Int),.int .i64 (x.en.ah.b:Int),.int .i64 (x.en.ah.c:Int),.int .i64 (x.en.ah.d:Int),.int .i64 (x.en.ah.e:Int),.int .i64 (x.en.c.k.num:Int),.string x.en.c.word,.int .i64 (x.en.c.count:Int)]))) rfl (by kernel_rfl) (by kernel_rfl) (by kernel_rfl) (fun _ _ _ h=>h) (Or.inl ⟨by rfl,?_⟩) hS7 ?_
   ·intro W hSw;go_simp
   dsimp only[Ct,Cu,Cv];simp only[Act.put,Cw,Cs,Cx];refine wpAnyH_ready (rs:=[6]) (by kernel_rfl) (by simp) ?_;refine AllReadyH.cons rfl (fun K hK=>?_) AllReadyH.nil;rw[if_pos (by rfl)];dsimp only[Ct,Cu,Cv];go_simp
   refine HPU.out.mono ?_;rintro e w8 ⟨rfl,hS8,HT8⟩
   refine hK.out _ _ hS8 (fun _=>?_);clear hK K
   try simp only[Act.put,Cw,Cs,Cx]
   refine wpAnyH_done (by kernel_rfl) ?_ _;go_wp2
   go_roundw
   case rel=>obtain⟨its2,wv2,h2⟩:=HT8.out;exact⟨its2,_,wv2,_,h2⟩
   case measure =>
    obtain⟨its2,wv2,h2⟩:=HT8.out;have m1:=h2.popAt;have m0:=HM0.out;rw[Cz]at m1
    simp only[CR,Dh]at m1;omega
  have HND:Hid (its=[]∨now<kF its 0):=by
   show _∨_
   rcases DX its.length with h|h
   ·exact .inl (List.length_eq_zero_iff.1 h)
   exact .inr (Nat.lt_of_not_le fun h'=>hg ⟨h,h'⟩)
  rcases DX its.length with hz|hz
  ·have c11':wr.cell? ⟨rb,11,none⟩=some (.slice pw 0 cw):=by rw[c11,hz]
   clear c11;have c11:=c11';clear hg c11';go_upto_region 2 with fail
   go_quiet (fail)
   have HF:Hid (eG w rb C T wv0 now its0 db (wr.drewN nq) its ps (.slice pw its.length cw) vs):=HI.out.drewN nq;have HD:Hid (∀p∈its,now<p.due):=qz HI.out.heap HND.out;clear c10 c11 HI HND;generalize wr.drewN nq=w1 at *;generalize Value.slice pw its.length cw=wv at *;have i0:∀W,(Instr.index 196 (.agg #[vs 0,vs 1,vs 2,vs 3,vs 4]) (.int .i64 0)).run Tryz.prog W=.ok (vs 0) W:=fun _=>by kernel_rfl
   have i1:∀W,(Instr.index 196 (.agg #[vs 0,vs 1,vs 2,vs 3,vs 4]) (.int .i64 1)).run Tryz.prog W=.ok (vs 1) W:=fun _=>by kernel_rfl
   have i2:∀W,(Instr.index 196 (.agg #[vs 0,vs 1,vs 2,vs 3,vs 4]) (.int .i64 2)).run Tryz.prog W=.ok (vs 2) W:=fun _=>by kernel_rfl
   have i3:∀W,(Instr.index 196 (.agg #[vs 0,vs 1,vs 2,vs 3,vs 4]) (.int .i64 3)).run Tryz.prog W=.ok (vs 3) W:=fun _=>by kernel_rfl
   have i4:∀W,(Instr.index 196 (.agg #[vs 0,vs 1,vs 2,vs 3,vs 4]) (.int .i64 4)).run Tryz.prog W=.ok (vs 4) W:=fun _=>by kernel_rfl
   have e0:=HF.out.due.cell (t:=0) (by omega);have e1:=HF.out.due.cell (t:=1) (by omega);have e2:=HF.out.due.cell (t:=2) (by omega);have e3:=HF.out.due.cell (t:=3) (by omega);have e4:=HF.out.due.cell (t:=4) (by omega);have HST2:Hid (eH w1 db (bU ps) vs∧(∀t,t<5→(bU ps t).Perm (bU ps t))∧gQ w1 rb (C.setIfInBounds 11 wv) T wv its∧an [some rb,wv0.ownBlock] w w1∧w1.heap[w.heap.size]?=some (.cells #[.slice none 0 0,.slice none 0 0,.slice none 0 0,.slice none 0 0,.slice none 0 0] 196 (0,0))):=⟨HF.out.due,fun _ _=>List.Perm.refl _,HF.out.q,HF.out.upd,HF.out.res⟩;go_wp2
   go_loopw [58] (fun v wr=>∃(i:Nat) (D:Nat→List En),i≤5∧v=.int .i64 (i:Int)∧Hid (eH wr db D vs∧(∀t,t<5→(D t).Perm (bU ps t))∧gQ wr rb (C.setIfInBounds 11 wv) T wv its∧an [some rb,wv0.ownBlock] w wr∧wr.heap[w.heap.size]?=some (.cells #[.slice none 0 0,.slice none 0 0,.slice none 0 0,.slice none 0 0,.slice none 0 0] 196 (0,0)))) (fun v _=>5-(intOf v).toNat)
   case atStart=>exact⟨0,bU ps,by omega,rfl,HST2⟩
   case round =>
    obtain⟨i,D,hi5,rfl,HJ⟩:=hrel;clear e0 e1 e2 e3 e4 HST2;by_cases hlt:i<5
    ·have HSRT:Hid (Calls Tryz.prog 139 #[vs i,.func (.func 140) #[] #[]] wr fun e w'=>e=.returned (.tuple #[])∧Hid (∃D':Nat→List En,eH w' db D' vs∧(∀t,t<5→(D' t).Perm (bU ps t))∧gQ w' rb (C.setIfInBounds 11 wv) T wv its∧an [some rb,wv0.ownBlock] w w'∧w'.heap[w.heap.size]?=some (.cells #[.slice none 0 0,.slice none 0 0,.slice none 0 0,.slice none 0 0,.slice none 0 0] 196 (0,0)))):=pX hrl (by omega) HWL.out (fun t ht=>by obtain⟨rest,hp⟩:=HF.out.pop;exact CC (lF hp t) (h12 t)) HF.out.far HF.out.own hlt HJ.out;rcases(show i=0∨i=1∨i=2∨i=3∨i=4 by omega) with rfl|rfl|rfl|rfl|rfl
     all_goals go_wp2_with (go_at_call 139;refine HSRT.out.mono ?_;rintro e w' ⟨rfl,HR⟩)
     all_goals
      go_roundw
      case rel=>obtain⟨D',h'⟩:=HR.out;exact⟨_,D',by decide,rfl,h'⟩
      case measure=>simp[intOf]
    obtain rfl:i=5:=by omega
    have e0:=HJ.out.1.cell (t:=0) (by omega);have e1:=HJ.out.1.cell (t:=1) (by omega);have e2:=HJ.out.1.cell (t:=2) (by omega);have e3:=HJ.out.1.cell (t:=3) (by omega);have e4:=HJ.out.1.cell (t:=4) (by omega);have k0:=HJ.out.2.2.2.2;have z0:wr.cell? ⟨w.heap.size,0,none⟩=some (.slice none 0 0):=cell_of_heap k0 _;have z1:wr.cell? ⟨w.heap.size,1,none⟩=some (.slice none 0 0):=cell_of_heap k0 _;have z2:wr.cell? ⟨w.heap.size,2,none⟩=some (.slice none 0 0):=cell_of_heap k0 _;have z3:wr.cell? ⟨w.heap.size,3,none⟩=some (.slice none 0 0):=cell_of_heap k0 _;have z4:wr.cell? ⟨w.heap.size,4,none⟩=some (.slice none 0 0):=cell_of_heap k0 _;have zf:=frozen_of_heap k0;clear k0;obtain⟨p0,q0,hv0⟩:=aW (HJ.out.1.row 0 (by omega));obtain⟨p1,q1,hv1⟩:=aW (HJ.out.1.row 1 (by omega));obtain⟨p2,q2,hv2⟩:=aW (HJ.out.1.row 2 (by omega));obtain⟨p3,q3,hv3⟩:=aW (HJ.out.1.row 3 (by omega))
    obtain⟨p4,q4,hv4⟩:=aW (HJ.out.1.row 4 (by omega));have HE:=ta hrl (by omega) HWL.out HF.out HD.out (fun t ht=>by obtain⟨rest,hp⟩:=HF.out.pop;exact CC (lF hp t) (h12 t)) HJ.out;go_wp2
    exact bodyPost_ret (v:=.agg #[vs 0,vs 1,vs 2,vs 3,vs 4]) (by simp[results,Tryz.results101,go_sem,z0,z1,z2,z3,z4,hv0,hv1,hv2,hv3,hv4]) rfl ⟨vs,D,its,wv,rfl,HE _ _ _ _ _⟩
  obtain⟨g,cap,hgv,-,hgl⟩:=HI.out.q.row.form hz;simp only[Value.slice.injEq,true_and]at hgv;obtain⟨rfl,rfl⟩:=hgv;have cg:wr.cell? ⟨g,0,none⟩=some (.int .i64 (its[0].due:Int)):=by
   obtain⟨g',cap',hv',-,hc'⟩:=mq HI.out.q.row hz;cases hv';have:=hc' 0 (.int .i64 (its[0].due:Int)) (by omega) rfl;simpa using this
  have hdue:decide ((its[0].due:Int)≤(now:Int))=false:=by
   have:¬ kF its 0≤now:=fun h=>hg ⟨hz,h⟩
   rw[fY hz]at this;simp;omega
  have hpos:(0:Int)<(its.length:Int):=by omega
  generalize hd0:(its[0].due:Int)=d0 at *;clear hg;go_upto_region 2 with fail
  go_quiet (fail)
  clear cg;generalize (some ⟨g,0,none⟩:Option Addr)=pw at *;have HF:Hid (eG w rb C T wv0 now its0 db (wr.drewN nq) its ps (.slice pw its.length cw) vs):=HI.out.drewN nq;have HD:Hid (∀p∈its,now<p.due):=qz HI.out.heap HND.out;clear c10 c11 HI HND;generalize wr.drewN nq=w1 at *;generalize Value.slice pw its.length cw=wv at *;have i0:∀W,(Instr.index 196 (.agg #[vs 0,vs 1,vs 2,vs 3,vs 4]) (.int .i64 0)).run Tryz.prog W=.ok (vs 0) W:=fun _=>by kernel_rfl
  have i1:∀W,(Instr.index 196 (.agg #[vs 0,vs 1,vs 2,vs 3,vs 4]) (.int .i64 1)).run Tryz.prog W=.ok (vs 1) W:=fun _=>by kernel_rfl
  have i2:∀W,(Instr.index 196 (.agg #[vs 0,vs 1,vs 2,vs 3,vs 4]) (.int .i64 2)).run Tryz.prog W=.ok (vs 2) W:=fun _=>by kernel_rfl
  have i3:∀W,(Instr.index 196 (.agg #[vs 0,vs 1,vs 2,vs 3,vs 4]) (.int .i64 3)).run Tryz.prog W=.ok (vs 3) W:=fun _=>by kernel_rfl
  have i4:∀W,(Instr.index 196 (.agg #[vs 0,vs 1,vs 2,vs 3,vs 4]) (.int .i64 4)).run Tryz.prog W=.ok (vs 4) W:=fun _=>by kernel_rfl
  have e0:=HF.out.due.cell (t:=0) (by omega);have e1:=HF.out.due.cell (t:=1) (by omega);have e2:=HF.out.due.cell (t:=2) (by omega);have e3:=HF.out.due.cell (t:=3) (by omega);have e4:=HF.out.due.cell (t:=4) (by omega);have HST2:Hid (eH w1 db (bU ps) vs∧(∀t,t<5→(bU ps t).Perm (bU ps t))∧gQ w1 rb (C.setIfInBounds 11 wv) T wv its∧an [some rb,wv0.ownBlock] w w1∧w1.heap[w.heap.size]?=some (.cells #[.slice none 0 0,.slice none 0 0,.slice none 0 0,.slice none 0 0,.slice none 0 0] 196 (0,0))):=⟨HF.out.due,fun _ _=>List.Perm.refl _,HF.out.q,HF.out.upd,HF.out.res⟩;go_wp2
  go_loopw [58] (fun v wr=>∃(i:Nat) (D:Nat→List En),i≤5∧v=.int .i64 (i:Int)∧Hid (eH wr db D vs∧(∀t,t<5→(D t).Perm (bU ps t))∧gQ wr rb (C.setIfInBounds 11 wv) T wv its∧an [some rb,wv0.ownBlock] w wr∧wr.heap[w.heap.size]?=some (.cells #[.slice none 0 0,.slice none 0 0,.slice none 0 0,.slice none 0 0,.slice none 0 0] 196 (0,0)))) (fun v _=>5-(intOf v).toNat)
  case atStart=>exact⟨0,bU ps,by omega,rfl,HST2⟩
  case round =>
   obtain⟨i,D,hi5,rfl,HJ⟩:=hrel;clear e0 e1 e2 e3 e4 HST2;by_cases hlt:i<5
   ·have HSRT:Hid (Calls Tryz.prog 139 #[vs i,.func (.func 140) #[] #[]] wr fun e w'=>e=.returned (.tuple #[])∧Hid (∃D':Nat→List En,eH w' db D' vs∧(∀t,t<5→(D' t).Perm (bU ps t))∧gQ w' rb (C.setIfInBounds 11 wv) T wv its∧an [some rb,wv0.ownBlock] w w'∧w'.heap[w.heap.size]?=some (.cells #[.slice none 0 0,.slice none 0 0,.slice none 0 0,.slice none 0 0,.slice none 0 0] 196 (0,0)))):=pX hrl (by omega) HWL.out (fun t ht=>by obtain⟨rest,hp⟩:=HF.out.pop;exact CC (lF hp t) (h12 t)) HF.out.far HF.out.own hlt HJ.out;rcases(show i=0∨i=1∨i=2∨i=3∨i=4 by omega) with rfl|rfl|rfl|rfl|rfl
    all_goals go_wp2_with (go_at_call 139;refine HSRT.out.mono ?_;rintro e w' ⟨rfl,HR⟩)
    all_goals
     go_roundw
     case rel=>obtain⟨D',h'⟩:=HR.out;exact⟨_,D',by decide,rfl,h'⟩
     case measure=>simp[intOf]
   obtain rfl:i=5:=by omega
   have e0:=HJ.out.1.cell (t:=0) (by omega);have e1:=HJ.out.1.cell (t:=1) (by omega);have e2:=HJ.out.1.cell (t:=2) (by omega);have e3:=HJ.out.1.cell (t:=3) (by omega);have e4:=HJ.out.1.cell (t:=4) (by omega);have k0:=HJ.out.2.2.2.2;have z0:wr.cell? ⟨w.heap.size,0,none⟩=some (.slice none 0 0):=cell_of_heap k0 _;have z1:wr.cell? ⟨w.heap.size,1,none⟩=some (.slice none 0 0):=cell_of_heap k0 _;have z2:wr.cell? ⟨w.heap.size,2,none⟩=some (.slice none 0 0):=cell_of_heap k0 _;have z3:wr.cell? ⟨w.heap.size,3,none⟩=some (.slice none 0 0):=cell_of_heap k0 _;have z4:wr.cell? ⟨w.heap.size,4,none⟩=some (.slice none 0 0):=cell_of_heap k0 _;have zf:=frozen_of_heap k0;clear k0;obtain⟨p0,q0,hv0⟩:=aW (HJ.out.1.row 0 (by omega));obtain⟨p1,q1,hv1⟩:=aW (HJ.out.1.row 1 (by omega));obtain⟨p2,q2,hv2⟩:=aW (HJ.out.1.row 2 (by omega));obtain⟨p3,q3,hv3⟩:=aW (HJ.out.1.row 3 (by omega))
   obtain⟨p4,q4,hv4⟩:=aW (HJ.out.1.row 4 (by omega));have HE:=ta hrl (by omega) HWL.out HF.out HD.out (fun t ht=>by obtain⟨rest,hp⟩:=HF.out.pop;exact CC (lF hp t) (h12 t)) HJ.out;go_wp2
   exact bodyPost_ret (v:=.agg #[vs 0,vs 1,vs 2,vs 3,vs 4]) (by simp[results,Tryz.results101,go_sem,z0,z1,z2,z3,z4,hv0,hv1,hv2,hv3,hv4]) rfl ⟨vs,D,its,wv,rfl,HE _ _ _ _ _⟩
theorem Tryz.Ba:(Tryz.prog.info? 137).map (fun i=>(i.zero,i.size,i.bytes))=some (some (.agg #[.int .i64 0,.slice none 0 0]),2,32):=by kernel_rfl
def bG(vs:Nat→Value)(ts:List Nat):List Value:=ts.flatMap fun(t:Nat)=>[.int .i64 ((t:Nat):Int),vs t]
theorem o9(vs:Nat→Value)(ts:List Nat)(t:Nat):bG vs (ts++[t])=bG vs ts++[.int .i64 (t:Int),vs t]:=by simp[bG]
def ax(D:Nat→List En)(ow:Nat→Bool)(i:Nat):List Nat:=(List.range i).filter fun t=>decide (0<(D t).length) || ow t
theorem rV(h:0<(D i).length∨ow i=true):ax D ow (i+1)=ax D ow i++[i]:=by
 unfold ax;rw[DL,D3];rcases h with h|h <;> simp[h]
theorem tU(h:(D i).length=0)(h':ow i=false):ax D ow (i+1)=ax D ow i:=by
 unfold ax;rw[DL,D3];simp[h,h']
theorem iE(D:Nat→List En)(ow:Nat→Bool)(i:Nat):(ax D ow i).length≤i:=by
 unfold ax;have:=DE (fun t=>decide (0<(D t).length) || ow t) (List.range i);simpa using this
structure pI(w:World)(rb n me:Nat)(lk:Int)(log:List En)(now:Nat)(its0:List It)(ow:Nat→Bool)(ev wv0:Value)(D:Nat→List En)(vs:Nat→Value)(its:List It)(wv mv:Value)(W:World):Prop where
 rep:bp W rb n me lk log now its (fun _=>false) ev wv
 its:its.Perm (its0.map (bE now))
 own:∀b,wv.ownBlock=some b→wv0.ownBlock=some b∨w.heap.size≤b
 due:∀t x,t<5→(x∈D t↔∃p∈its0,p.due≤now∧p.to=t∧p.en=x)
 len:∀t,t<5→(D t).length≤12
 row:∀t,t<5→W.ownsRow w.heap.size 122 10 (vs t) (D t).length (aP (D t))
 mail:W.ownsRow w.heap.size 137 2 mv (ax D ow 5).length (bG vs (ax D ow 5))
 upd:an [some rb,wv0.ownBlock] w W
theorem rJ(lk:Int)(n me:Nat)(r:Rc)(now:Nat)(ow:Nat→Bool)(ev wv:Value):(((((dL lk n me r now ow ev wv).setIfInBounds 12 (.bool false)).setIfInBounds 13 (.bool false)).setIfInBounds 14 (.bool false)).setIfInBounds 15 (.bool false)).setIfInBounds 16 (.bool false)=dL lk n me r now (fun _=>false) ev wv:=by simp[dL]
theorem va(hm:bp w rb n me lk log now its0 ow ev wv0){mv:Value}(h:th w rb (dL lk n me (bC log) now ow ev wv0) 113 wv0 now its0 D vs its wv w1)(hb:Below w1.heap.size w1 wr)(hr:wr.ownsRow w1.heap.size 137 2 mv (ax D ow 5).length (bG vs (ax D ow 5))):pI w rb n me lk log now its0 ow ev wv0 D vs its wv mv (((((wr.setCell ⟨rb,12,none⟩ (.bool false)).setCell ⟨rb,13,none⟩ (.bool false)).setCell ⟨rb,14,none⟩ (.bool false)).setCell ⟨rb,15,none⟩ (.bool false)).setCell ⟨rb,16,none⟩ (.bool false)):=by
 have hrl:=hm.lt;have hs1:=h.upd.size;have hq:=h.q.below hb;have k0:wr.heap[rb]?=some (.cells (dL lk n me (bC log) now ow ev wv) 113 (0,0)):=by rw[hq.rbk,eL]
 have k1:=ae (o:=12) k0 (.bool false);have k2:=ae (o:=13) k1 (.bool false);have k3:=ae (o:=14) k2 (.bool false);have k4:=ae (o:=15) k3 (.bool false);have k5:=ae (o:=16) k4 (.bool false);rw[rJ]at k5
 have u:an [some rb] wr (((((wr.setCell ⟨rb,12,none⟩ (.bool false)).setCell ⟨rb,13,none⟩ (.bool false)).setCell ⟨rb,14,none⟩ (.bool false)).setCell ⟨rb,15,none⟩ (.bool false)).setCell ⟨rb,16,none⟩ (.bool false)):=(((((an.refl _ wr).setCell (.inl (by simp)) _).setCell (.inl (by simp)) _).setCell (.inl (by simp)) _).setCell (.inl (by simp)) _).setCell (.inl (by simp)) _;generalize (((((wr.setCell ⟨rb,12,none⟩ (.bool false)).setCell ⟨rb,13,none⟩ (.bool false)).setCell ⟨rb,14,none⟩ (.bool false)).setCell ⟨rb,15,none⟩ (.bool false)).setCell ⟨rb,16,none⟩ (.bool false))=W at u k5;have u1:an [some rb,wv0.ownBlock] w wr:=h.upd.below hb;have uf:an [some rb,wv0.ownBlock] w W:=u1.trans u fun i hi=>.inl (by simp at hi;simp[hi])
 have ne:∀b,b≠rb→some b∉[some rb]:=fun b hb hm=>by simp at hm;exact hb hm
 refine⟨⟨k5,uf.owns hm.erow fun b hb hmem=>?_,hm.eN,u.owns hq.row fun b hb=>ne b fun e=>h.q.ne (by rw[hb,e]),h.q.ne,fun b hb e=>?_,h.heap⟩,h.its,h.own,h.due,h.len,fun t ht=>u.owns ((an.of_below (S:=[]) hb).owns (h.row t ht) (by simp)) fun b hb=>ne b (by have:=aU (h.row t ht) hb;omega),dc (u.owns hr fun b hb=>ne b (by have:=aU hr hb;omega)) (by omega),uf⟩
 ·simp only[Co,Cq,or_false,Option.some.injEq]at hmem;rcases hmem with e|e
  ·exact hm.eN (by rw[hb,e])
  exact hm.ew b e.symm hb
 rcases h.own b hb with h1|h1
 ·exact hm.ew b h1 e
 have:=(hm.erow.lt b e).2;omega
theorem wJ(hm:bp w rb n me lk log now its0 ow ev wv0)(hl:its0.length≤900)(h12:∀t,aX its0 t≤12)(hnow:now+1<1152921504606846976):Calls Tryz.prog 56 #[.pointer (some ⟨rb,10,none⟩)] w fun e w'=>∃mv D vs its wv,e=.returned mv∧pI w rb n me lk log now its0 ow ev wv0 D vs its wv mv w':=by
 obtain⟨iM,hi0,hi1,hi2,hi3⟩:=info_parts Tryz.Ba;have hrl:=hm.lt;have HM:=hid hm;have HTD:Hid (Calls Tryz.prog 101 #[.pointer (some ⟨rb,10,none⟩)] w fun e w'=>∃vs D its wv,e=.returned (.agg #[vs 0,vs 1,vs 2,vs 3,vs 4])∧Hid (th w rb (dL lk n me (bC log) now ow ev wv0) 113 wv0 now its0 D vs its wv w')):=vb rb its0 hl h12 now hnow wv0 _ _ w hm.qat hm.heap rfl;clear hm;go_enter Tryz.func56,Tryz.ntmps56
 go_wp2_with (go_at_call 101;refine HTD.out.mono ?_;rintro e w1 ⟨vs,D,its,wv,rfl,HD⟩)
 have hs1:w.heap.size≤w1.heap.size:=HD.out.upd.size;have i0:∀W,(Instr.index 196 (.agg #[vs 0,vs 1,vs 2,vs 3,vs 4]) (.int .i64 0)).run Tryz.prog W=.ok (vs 0) W:=fun _=>by kernel_rfl
 have i1:∀W,(Instr.index 196 (.agg #[vs 0,vs 1,vs 2,vs 3,vs 4]) (.int .i64 1)).run Tryz.prog W=.ok (vs 1) W:=fun _=>by kernel_rfl
 have i2:∀W,(Instr.index 196 (.agg #[vs 0,vs 1,vs 2,vs 3,vs 4]) (.int .i64 2)).run Tryz.prog W=.ok (vs 2) W:=fun _=>by kernel_rfl
 have i3:∀W,(Instr.index 196 (.agg #[vs 0,vs 1,vs 2,vs 3,vs 4]) (.int .i64 3)).run Tryz.prog W=.ok (vs 3) W:=fun _=>by kernel_rfl
 have i4:∀W,(Instr.index 196 (.agg #[vs 0,vs 1,vs 2,vs 3,vs 4]) (.int .i64 4)).run Tryz.prog W=.ok (vs 4) W:=fun _=>by kernel_rfl
 go_loopw [3,8] (fun v i wr=>∃k:Nat,k≤5∧i=.int .i64 (k:Int)∧Hid (wr.ownsRow w1.heap.size 137 2 v (ax D ow k).length (bG vs (ax D ow k))∧Below w1.heap.size w1 wr)) (fun _ i _=>5-(intOf i).toNat)
 case atStart=>exact⟨0,by omega,rfl,⟨by simp[ax,bG],.inl ⟨rfl,by simp[ax]⟩⟩,Ck _ _⟩
 case round =>
  obtain⟨k,hk,rfl,HI⟩:=hrel;have hsr:w1.heap.size≤wr.heap.size:=HI.out.2.size;have hq:=HD.out.q.below HI.out.2;by_cases hlt:k<5
  ·have oc:wr.cell? ⟨rb,12+k,none⟩=some (.bool (ow k)):=by rw[cell_of_heap hq.rbk,eL];exact nQ _ _ _ _ _ _ _ _ hlt
   obtain⟨pk,ck,hvk⟩:=aW (HD.out.row k hlt);have hml:=iE D ow k;have HAL:Hid (wr.ownsRow w1.heap.size 137 2 u3 (ax D ow k).length (bG vs (ax D ow k))):=HI.out.1;have HBL:Hid (Below w1.heap.size w1 wr):=HI.out.2;clear hq;have HAP:Hid ((0<(D k).length∨ow k=true)→∀(g cap:Nat) (o:Obj) (w5:World),w5.ownsRow w1.heap.size 137 2 (.slice (some ⟨g,0,none⟩) ((ax D ow k).length+1) cap) ((ax D ow k).length+1) (bG vs (ax D ow k)++[.int .i64 (k:Int),.slice pk (D k).length ck])→(wr.alloc o).grownBy w5 u3.ownBlock→w5.ownsRow w1.heap.size 137 2 (.slice (some ⟨g,0,none⟩) ((ax D ow k).length+1) cap) (ax D ow (k+1)).length (bG vs (ax D ow (k+1)))∧Below w1.heap.size w1 w5):=fun hy g cap o w5 ho hg=>by
    refine⟨by rw[rV hy,o9,Cz,hvk];exact ho,?_⟩;have u5:an [u3.ownBlock] wr w5:=((an.refl _ wr).alloc o).grown hg fun b hb=>.inl (by simp[hb])
    have hb:=HBL.out;exact⟨u5.os.trans hb.os,u5.tape.trans hb.tape,u5.output.trans hb.output,CC hb.size u5.size,fun b hbl=>(u5.block b (by omega) fun hmm=>by
     simp only[Co,Cq,or_false]at hmm;have:=aU HAL.out hmm.symm;omega).trans (hb.block b hbl)⟩
   have HNO:Hid ((D k).length=0→ow k=false→wr.ownsRow w1.heap.size 137 2 u3 (ax D ow (k+1)).length (bG vs (ax D ow (k+1)))∧Below w1.heap.size w1 wr):=fun h1 h2=>by rw[tU h1 h2];exact⟨HAL.out,HBL.out⟩
   have HAA:Hid (∀o,(wr.alloc o).ownsRow w1.heap.size 137 2 u3 (ax D ow k).length (bG vs (ax D ow k))):=fun o=>(an.alloc (an.refl [] wr) o).owns HAL.out (by simp)
   have hdk:=HD.out.len k hlt;generalize (D k).length=dl at *;generalize ow k=ok at *;rcases(show k=0∨k=1∨k=2∨k=3∨k=4 by omega) with rfl|rfl|rfl|rfl|rfl
   ·have j0:∀W,(Instr.index 196 (.agg #[vs 0,vs 1,vs 2,vs 3,vs 4]) (.int .i64 0)).run Tryz.prog W=.ok (.slice pk dl ck) W:=fun W=>by rw[i0 W,hvk]
    clear i0;simp only[Nat.add_zero]at oc;clear i1 i2 i3 i4 hvk;by_cases hp:0<dl
    ·have hpi:(0:Int)<(dl:Int):=by omega
     go_wp2_with (at_builtin;refine wpList_append_lies _ rfl _ _ 134 rfl w1.heap.size 137 iM (.agg #[.int .i64 0,.slice none 0 0]) 2 32 Tryz.underlying134 hi0 hi1 hi2 hi3 rfl (by decide) u3 (ax D ow 0).length (bG vs (ax D ow 0)) (by rfl) (HAA.out _) ⟨wr.heap.size,0,none⟩ 1 1 [.int .i64 0,.slice pk dl ck] (by rfl) (by rfl) (CH (heap_alloc_new _ _)) (by simp[Value.oneCell']) (by omega) (by unfold maxLen;omega) (by omega) (by simp;omega) (wr.heap.size+1) (by simp) ?_;intro g4 cap4 w4 ho4 hg4 hat4 hgl4)
     go_roundw
     case rel=>exact⟨1,by omega,rfl,HAP.out (.inl hp) _ _ _ _ ho4 hg4⟩
     case measure=>simp[intOf]
    obtain rfl:dl=0:=by omega
    cases ok with
    |true =>
     go_wp2_with (at_builtin;refine wpList_append_lies _ rfl _ _ 134 rfl w1.heap.size 137 iM (.agg #[.int .i64 0,.slice none 0 0]) 2 32 Tryz.underlying134 hi0 hi1 hi2 hi3 rfl (by decide) u3 (ax D ow 0).length (bG vs (ax D ow 0)) (by rfl) (HAA.out _) ⟨wr.heap.size,0,none⟩ 1 1 [.int .i64 0,.slice pk 0 ck] (by rfl) (by rfl) (CH (heap_alloc_new _ _)) (by simp[Value.oneCell']) (by omega) (by unfold maxLen;omega) (by omega) (by simp;omega) (wr.heap.size+1) (by simp) ?_;intro g4 cap4 w4 ho4 hg4 hat4 hgl4)
     go_roundw
     case rel=>exact⟨1,by omega,rfl,HAP.out (.inr rfl) _ _ _ _ ho4 hg4⟩
     case measure=>simp[intOf]
    |false =>
     go_wp2
     go_roundw
     case rel=>exact⟨1,by omega,rfl,HNO.out rfl rfl⟩
     case measure=>simp[intOf]
   ·have j1:∀W,(Instr.index 196 (.agg #[vs 0,vs 1,vs 2,vs 3,vs 4]) (.int .i64 1)).run Tryz.prog W=.ok (.slice pk dl ck) W:=fun W=>by rw[i1 W,hvk]
    clear i1;simp only[DQ]at oc;clear i0 i2 i3 i4 hvk;by_cases hp:0<dl
    ·have hpi:(0:Int)<(dl:Int):=by omega
     go_wp2_with (at_builtin;refine wpList_append_lies _ rfl _ _ 134 rfl w1.heap.size 137 iM (.agg #[.int .i64 0,.slice none 0 0]) 2 32 Tryz.underlying134 hi0 hi1 hi2 hi3 rfl (by decide) u3 (ax D ow 1).length (bG vs (ax D ow 1)) (by rfl) (HAA.out _) ⟨wr.heap.size,0,none⟩ 1 1 [.int .i64 1,.slice pk dl ck] (by rfl) (by rfl) (CH (heap_alloc_new _ _)) (by simp[Value.oneCell']) (by omega) (by unfold maxLen;omega) (by omega) (by simp;omega) (wr.heap.size+1) (by simp) ?_;intro g4 cap4 w4 ho4 hg4 hat4 hgl4)
     go_roundw
     case rel=>exact⟨2,by omega,rfl,HAP.out (.inl hp) _ _ _ _ ho4 hg4⟩
     case measure=>simp[intOf]
    obtain rfl:dl=0:=by omega
    cases ok with
    |true =>
     go_wp2_with (at_builtin;refine wpList_append_lies _ rfl _ _ 134 rfl w1.heap.size 137 iM (.agg #[.int .i64 0,.slice none 0 0]) 2 32 Tryz.underlying134 hi0 hi1 hi2 hi3 rfl (by decide) u3 (ax D ow 1).length (bG vs (ax D ow 1)) (by rfl) (HAA.out _) ⟨wr.heap.size,0,none⟩ 1 1 [.int .i64 1,.slice pk 0 ck] (by rfl) (by rfl) (CH (heap_alloc_new _ _)) (by simp[Value.oneCell']) (by omega) (by unfold maxLen;omega) (by omega) (by simp;omega) (wr.heap.size+1) (by simp) ?_;intro g4 cap4 w4 ho4 hg4 hat4 hgl4)
     go_roundw
     case rel=>exact⟨2,by omega,rfl,HAP.out (.inr rfl) _ _ _ _ ho4 hg4⟩
     case measure=>simp[intOf]
    |false =>
     go_wp2
     go_roundw
     case rel=>exact⟨2,by omega,rfl,HNO.out rfl rfl⟩
     case measure=>simp[intOf]
   ·have j2:∀W,(Instr.index 196 (.agg #[vs 0,vs 1,vs 2,vs 3,vs 4]) (.int .i64 2)).run Tryz.prog W=.ok (.slice pk dl ck) W:=fun W=>by rw[i2 W,hvk]
    clear i2;simp only[DQ]at oc;clear i0 i1 i3 i4 hvk;by_cases hp:0<dl
    ·have hpi:(0:Int)<(dl:Int):=by omega
     go_wp2_with (at_builtin;refine wpList_append_lies _ rfl _ _ 134 rfl w1.heap.size 137 iM (.agg #[.int .i64 0,.slice none 0 0]) 2 32 Tryz.underlying134 hi0 hi1 hi2 hi3 rfl (by decide) u3 (ax D ow 2).length (bG vs (ax D ow 2)) (by rfl) (HAA.out _) ⟨wr.heap.size,0,none⟩ 1 1 [.int .i64 2,.slice pk dl ck] (by rfl) (by rfl) (CH (heap_alloc_new _ _)) (by simp[Value.oneCell']) (by omega) (by unfold maxLen;omega) (by omega) (by simp;omega) (wr.heap.size+1) (by simp) ?_;intro g4 cap4 w4 ho4 hg4 hat4 hgl4)
     go_roundw
     case rel=>exact⟨3,by omega,rfl,HAP.out (.inl hp) _ _ _ _ ho4 hg4⟩
     case measure=>simp[intOf]
    obtain rfl:dl=0:=by omega
    cases ok with
    |true =>
     go_wp2_with (at_builtin;refine wpList_append_lies _ rfl _ _ 134 rfl w1.heap.size 137 iM (.agg #[.int .i64 0,.slice none 0 0]) 2 32 Tryz.underlying134 hi0 hi1 hi2 hi3 rfl (by decide) u3 (ax D ow 2).length (bG vs (ax D ow 2)) (by rfl) (HAA.out _) ⟨wr.heap.size,0,none⟩ 1 1 [.int .i64 2,.slice pk 0 ck] (by rfl) (by rfl) (CH (heap_alloc_new _ _)) (by simp[Value.oneCell']) (by omega) (by unfold maxLen;omega) (by omega) (by simp;omega) (wr.heap.size+1) (by simp) ?_;intro g4 cap4 w4 ho4 hg4 hat4 hgl4)
     go_roundw
     case rel=>exact⟨3,by omega,rfl,HAP.out (.inr rfl) _ _ _ _ ho4 hg4⟩
     case measure=>simp[intOf]
    |false =>
     go_wp2
     go_roundw
     case rel=>exact⟨3,by omega,rfl,HNO.out rfl rfl⟩
     case measure=>simp[intOf]
   ·have j3:∀W,(Instr.index 196 (.agg #[vs 0,vs 1,vs 2,vs 3,vs 4]) (.int .i64 3)).run Tryz.prog W=.ok (.slice pk dl ck) W:=fun W=>by rw[i3 W,hvk]
    clear i3;simp only[DQ]at oc;clear i0 i1 i2 i4 hvk;by_cases hp:0<dl
    ·have hpi:(0:Int)<(dl:Int):=by omega
     go_wp2_with (at_builtin;refine wpList_append_lies _ rfl _ _ 134 rfl w1.heap.size 137 iM (.agg #[.int .i64 0,.slice none 0 0]) 2 32 Tryz.underlying134 hi0 hi1 hi2 hi3 rfl (by decide) u3 (ax D ow 3).length (bG vs (ax D ow 3)) (by rfl) (HAA.out _) ⟨wr.heap.size,0,none⟩ 1 1 [.int .i64 3,.slice pk dl ck] (by rfl) (by rfl) (CH (heap_alloc_new _ _)) (by simp[Value.oneCell']) (by omega) (by unfold maxLen;omega) (by omega) (by simp;omega) (wr.heap.size+1) (by simp) ?_;intro g4 cap4 w4 ho4 hg4 hat4 hgl4)
     go_roundw
     case rel=>exact⟨4,by omega,rfl,HAP.out (.inl hp) _ _ _ _ ho4 hg4⟩
     case measure=>simp[intOf]
    obtain rfl:dl=0:=by omega
    cases ok with
    |true =>
     go_wp2_with (at_builtin;refine wpList_append_lies _ rfl _ _ 134 rfl w1.heap.size 137 iM (.agg #[.int .i64 0,.slice none 0 0]) 2 32 Tryz.underlying134 hi0 hi1 hi2 hi3 rfl (by decide) u3 (ax D ow 3).length (bG vs (ax D ow 3)) (by rfl) (HAA.out _) ⟨wr.heap.size,0,none⟩ 1 1 [.int .i64 3,.slice pk 0 ck] (by rfl) (by rfl) (CH (heap_alloc_new _ _)) (by simp[Value.oneCell']) (by omega) (by unfold maxLen;omega) (by omega) (by simp;omega) (wr.heap.size+1) (by simp) ?_;intro g4 cap4 w4 ho4 hg4 hat4 hgl4)
     go_roundw
     case rel=>exact⟨4,by omega,rfl,HAP.out (.inr rfl) _ _ _ _ ho4 hg4⟩
     case measure=>simp[intOf]
    |false =>
     go_wp2
     go_roundw
     case rel=>exact⟨4,by omega,rfl,HNO.out rfl rfl⟩
     case measure=>simp[intOf]
   have j4:∀W,(Instr.index 196 (.agg #[vs 0,vs 1,vs 2,vs 3,vs 4]) (.int .i64 4)).run Tryz.prog W=.ok (.slice pk dl ck) W:=fun W=>by rw[i4 W,hvk]
   clear i4;simp only[DQ]at oc;clear i0 i1 i2 i3 hvk;by_cases hp:0<dl
   ·have hpi:(0:Int)<(dl:Int):=by omega
    go_wp2_with (at_builtin;refine wpList_append_lies _ rfl _ _ 134 rfl w1.heap.size 137 iM (.agg #[.int .i64 0,.slice none 0 0]) 2 32 Tryz.underlying134 hi0 hi1 hi2 hi3 rfl (by decide) u3 (ax D ow 4).length (bG vs (ax D ow 4)) (by rfl) (HAA.out _) ⟨wr.heap.size,0,none⟩ 1 1 [.int .i64 4,.slice pk dl ck] (by rfl) (by rfl) (CH (heap_alloc_new _ _)) (by simp[Value.oneCell']) (by omega) (by unfold maxLen;omega) (by omega) (by simp;omega) (wr.heap.size+1) (by simp) ?_;intro g4 cap4 w4 ho4 hg4 hat4 hgl4)
    go_roundw
    case rel=>exact⟨5,by omega,rfl,HAP.out (.inl hp) _ _ _ _ ho4 hg4⟩
    case measure=>simp[intOf]
   obtain rfl:dl=0:=by omega
   cases ok with
   |true =>
    go_wp2_with (at_builtin;refine wpList_append_lies _ rfl _ _ 134 rfl w1.heap.size 137 iM (.agg #[.int .i64 0,.slice none 0 0]) 2 32 Tryz.underlying134 hi0 hi1 hi2 hi3 rfl (by decide) u3 (ax D ow 4).length (bG vs (ax D ow 4)) (by rfl) (HAA.out _) ⟨wr.heap.size,0,none⟩ 1 1 [.int .i64 4,.slice pk 0 ck] (by rfl) (by rfl) (CH (heap_alloc_new _ _)) (by simp[Value.oneCell']) (by omega) (by unfold maxLen;omega) (by omega) (by simp;omega) (wr.heap.size+1) (by simp) ?_;intro g4 cap4 w4 ho4 hg4 hat4 hgl4)
    go_roundw
    case rel=>exact⟨5,by omega,rfl,HAP.out (.inr rfl) _ _ _ _ ho4 hg4⟩
    case measure=>simp[intOf]
   |false =>
    go_wp2
    go_roundw
    case rel=>exact⟨5,by omega,rfl,HNO.out rfl rfl⟩
    case measure=>simp[intOf]
  obtain rfl:k=5:=by omega
  have hq2:=HD.out.q.below HI.out.2;have c12:wr.cell? ⟨rb,12,none⟩=some (.bool (ow 0)):=by rw[cell_of_heap hq2.rbk,eL];rfl
  have c13:wr.cell? ⟨rb,13,none⟩=some (.bool (ow 1)):=by rw[cell_of_heap hq2.rbk,eL];rfl
  have c14:wr.cell? ⟨rb,14,none⟩=some (.bool (ow 2)):=by rw[cell_of_heap hq2.rbk,eL];rfl
  have c15:wr.cell? ⟨rb,15,none⟩=some (.bool (ow 3)):=by rw[cell_of_heap hq2.rbk,eL];rfl
  have c16:wr.cell? ⟨rb,16,none⟩=some (.bool (ow 4)):=by rw[cell_of_heap hq2.rbk,eL];rfl
  have cf:=frozen_of_heap hq2.rbk;clear hq2;have HE:Hid (pI w rb n me lk log now its0 ow ev wv0 D vs its wv u3 (((((wr.setCell ⟨rb,12,none⟩ (.bool false)).setCell ⟨rb,13,none⟩ (.bool false)).setCell ⟨rb,14,none⟩ (.bool false)).setCell ⟨rb,15,none⟩ (.bool false)).setCell ⟨rb,16,none⟩ (.bool false))):=va HM.out HD.out HI.out.2 HI.out.1;go_wp2
  go_ret
  exact⟨_,D,vs,its,wv,rfl,HE.out⟩
end
section
open Go.RowKit Go.Proofs
variable {B B' cap g j t:Nat} {W W' w3:World} {fs:List (List UInt8)} {fv u:Value} {os os0:List (Nat×Value×List UInt8)} {vf:List Value}
def cL(os:List (Nat×Value×List UInt8)):List Value:=os.flatMap fun o=>[.int .i64 ((o.1:Nat):Int),o.2.1]
theorem mY(os:List (Nat×Value×List UInt8))(o:Nat×Value×List UInt8):cL (os++[o])=cL os++[.int .i64 ((o.1:Nat):Int),o.2.1]:=by simp[cL]
structure cV(B:Nat)(fv:Value)(os:List (Nat×Value×List UInt8))(W:World):Prop where
 row:W.ownsRow B 57 2 fv os.length (cL os)
 each:∀o∈os,W.ownsRow B 5 1 o.2.1 o.2.2.length (Lib.byteCells o.2.2)
 apart:∀o∈os,∀b,o.2.1.ownBlock=some b→fv.ownBlock≠some b
 dist:os.Pairwise fun x y=>∀b,x.2.1.ownBlock=some b→y.2.1.ownBlock≠some b
theorem cV.nil(B:Nat)(W:World):cV B (.slice none 0 0) [] W:=⟨⟨rfl,.inl ⟨rfl,rfl⟩⟩,by simp,by simp,List.Pairwise.nil⟩
theorem cV.upd(h:cV B fv os W){S:List (Option Nat)}(hu:an S W W')(hf:∀b,fv.ownBlock=some b→some b∉S)(hv:∀o∈os,∀b,o.2.1.ownBlock=some b→some b∉S):cV B fv os W':=⟨hu.owns h.row hf,fun o ho=>hu.owns (h.each o ho) (hv o ho),h.apart,h.dist⟩
theorem cV.below(h:cV B fv os W)(hb:Below W.heap.size W W'):cV B fv os W':=h.upd (an.of_below (S:=[]) hb) (by simp) (by simp)
theorem cV.snoc{o:Nat×Value×List UInt8}(h:cV B fv os W)(hr:W.ownsRow B 5 1 o.2.1 o.2.2.length (Lib.byteCells o.2.2))(h1:∀b,o.2.1.ownBlock=some b→fv.ownBlock≠some b)(h2:∀x∈os,∀b,x.2.1.ownBlock=some b→o.2.1.ownBlock≠some b)(hu:an [fv.ownBlock] W w3)(ho:w3.ownsRow B 57 2 (.slice (some ⟨g,0,none⟩) (os.length+1) cap) (os.length+1) (cL os++[.int .i64 ((o.1:Nat):Int),o.2.1]))(hat:fv.ownBlock=some g∨W.heap.size≤g):cV B (.slice (some ⟨g,0,none⟩) (os.length+1) cap) (os++[o]) w3:=by
 have key:∀x∈os++[o],W.ownsRow B 5 1 x.2.1 x.2.2.length (Lib.byteCells x.2.2)∧∀b,x.2.1.ownBlock=some b→fv.ownBlock≠some b:=fun x hx=>by
  rcases CP.1 hx with hx|hx
  ·exact⟨h.each x hx,h.apart x hx⟩
  cases CK.1 hx;exact⟨hr,h1⟩
 refine⟨by rw[Cz,mY];exact ho,fun x hx=>hu.owns (key x hx).1 fun b hb hm=>(key x hx).2 b hb (CK.1 hm).symm,fun x hx b hb e=>?_,?_⟩
 ·have hbg:b=g:=by cases e;rfl
  subst hbg;rcases hat with e2|e2
  ·exact(key x hx).2 b hb e2
  have:=((key x hx).1.lt b hb).2;omega
 rw[List.pairwise_append];refine⟨h.dist,List.pairwise_singleton _ _,fun x hx y hy=>?_⟩;cases CK.1 hy;exact h2 x hx
theorem pn(hd:List UInt8):∀(es:List En) (body:List UInt8),(lay hd body es).length≤es.length+1
 |[],body=>by simp[lay]
 |x::es,body=>by
  rw[lay];split
  ·have:=pn hd es (hd++cH x);simp only[CR];omega
  have:=pn hd es (body++cH x);simp only[CR];omega
theorem lJ(a b h:Nat)(es:List En):(ed a b h es).length≤es.length+1:=pn _ _ _
def iW(me:Nat)(log:List En)(D:Nat→List En)(t:Nat):List (Nat×List UInt8):=(ed me t (aq log t) (D t)).map fun f=>(t,f)
theorem od(me:Nat)(log:List En)(D:Nat→List En)(ts:List Nat)(h:∀t∈ts,(D t).length≤12):(ts.flatMap (iW me log D)).length≤13*ts.length:=by
 induction ts with
 |nil=>simp
 |cons t ts ih =>
  rw[List.flatMap_cons,Cz,CR];have h1:=ih fun u hu=>h u (by simp[hu])
  have h2:=h t (by simp);have h3:=lJ me t (aq log t) (D t);have h4:(iW me log D t).length=(ed me t (aq log t) (D t)).length:=by simp[iW]
  omega
structure sE(B B':Nat)(t:Nat)(fv:Value)(vf:List Value)(fs:List (List UInt8))(os0:List (Nat×Value×List UInt8))(j:Nat)(u:Value)(os:List (Nat×Value×List UInt8))(W:World):Prop where
 out:cV B u os W
 os:os=os0++((vf.zip fs).take j).map fun p=>(t,p.1,p.2)
 old:∀o∈os0,∀b,o.2.1.ownBlock=some b→b<B'
 fr:cY B' fv vf fs W
 far:∀b,u.ownBlock=some b→fv.ownBlock≠some b∧∀v∈vf,v.ownBlock≠some b
theorem sE.len(h:sE B B' t fv vf fs os0 j u os W):os.length≤os0.length+fs.length:=by
 rw[h.os,Cz,Dx,CI,List.length_zip];omega
theorem sE.step(hB:B≤B')(h:sE B B' t fv vf fs os0 j u os W){v:Value}(hv:vf[j]?=some v){f:List UInt8}(hf:fs[j]?=some f)(hu:an [u.ownBlock] W w3)(ho:w3.ownsRow B 57 2 (.slice (some ⟨g,0,none⟩) (os.length+1) cap) (os.length+1) (cL os++[.int .i64 (t:Int),v]))(hat:u.ownBlock=some g∨W.heap.size≤g):sE B B' t fv vf fs os0 (j+1) (.slice (some ⟨g,0,none⟩) (os.length+1) cap) (os++[(t,v,f)]) w3:=by
 have hvm:v∈vf:=List.mem_of_getElem? hv;have hjl:j<vf.length:=(CT.1 hv).1;have hjf:j<fs.length:=(CT.1 hf).1;have hvj:vf[j]=v:=(CT.1 hv).2;have hfj:fs[j]=f:=(CT.1 hf).2;have hrow:=h.fr.each j v f hv hf;have hfar:∀b,v.ownBlock=some b→u.ownBlock≠some b:=fun b hb e=>(h.far b e).2 v hvm hb
 have hz:(vf.zip fs).length=vf.length:=by rw[List.length_zip,h.fr.len];omega
 have h2:∀x∈os,∀b,x.2.1.ownBlock=some b→v.ownBlock≠some b:=fun x hx b hb e=>by
  rw[h.os]at hx;rcases CP.1 hx with hx|hx
  ·have:=h.old x hx b hb;have:=aU hrow e;omega
  rw[CO]at hx;obtain⟨p,hp,rfl⟩:=hx;obtain⟨i,hi,rfl⟩:=List.mem_iff_getElem.1 hp;rw[CI]at hi
  rw[List.getElem_take]at hb;simp only[List.getElem_zip]at hb;have hd:=List.pairwise_iff_getElem.1 h.fr.dist i j (by omega) hjl (by omega);rw[hvj]at hd
  exact hd b hb e
 refine⟨h.out.snoc (o:=(t,v,f)) (dc hrow hB) hfar h2 hu ho hat,?_,h.old,h.fr.upd hu (fun b hb hm=>(h.far b (CK.1 hm).symm).1 hb) fun x hx b hb hm=>(h.far b (CK.1 hm).symm).2 x hx hb,fun b hb=>?_⟩
 ·have e:(vf.zip fs).take (j+1)=(vf.zip fs).take j++[(v,f)]:=by
   rw[List.take_succ_eq_append_getElem (by omega)];simp[hvj,hfj]
  rw[e,List.map_append,←List.append_assoc,←h.os]
  rfl
 have hbg:b=g:=by cases hb;rfl
 subst hbg;rcases hat with e|e
 ·exact h.far b e
 refine⟨fun e'=>?_,fun x hx e'=>?_⟩
 ·have:=(h.fr.row.lt b e').2;omega
 obtain⟨f',hf'⟩:=h.fr.mem hx;have:=(hf'.lt b e').2;omega
end
end Go.Proofs.YtckmppkdpnhodaaGreatDoor
