import Derived.Test.YtckmppkdpnhodaaGreatDoorT28
import Derived.Test.YtckmppkdpnhodaaGreatDoorT29
import Derived.Test.YtckmppkdpnhodaaGreatDoorT00
set_option maxRecDepth 100000
set_option maxHeartbeats 8000000
set_option linter.unusedVariables false
set_option linter.unusedSimpArgs false
open List renaming length_append→Cz,mem_cons→Co,not_mem_nil→Cq,length_cons→CR,getElem_toArray→Ct,getElem_cons_zero→Cu,getElem_cons_succ→Cv,setIfInBounds_toArray→Cw,set_cons_zero→Cs,set_cons_succ→Cx,mem_append→CP,mem_map→CO,mem_append_left→C8,mem_filter→Dc,mem_range→DJ
open Go.World renaming cell?_of_block→CE,block_lt_of_cell?→Cy,ownsRow_nil→CW
open Go.RowKit.Below renaming heap_setCell→CD,refl→Ck
open Array renaming getElem?_eq_some_iff→Cn
open Nat renaming le_refl→Cl,le_trans→CC,lt_of_lt_of_le→CG
open Go.Value renaming ownBlock→Cp
namespace Go.Proofs.YtckmppkdpnhodaaGreatDoor
section
open Go.RowKit Go.Proofs
variable {ev wv:Value} {its:List It} {lk:Int} {log:List En} {me n now rb:Nat} {ow:Nat→Bool} {w:World}
theorem yE(hm:bp w rb n me lk log now its ow ev wv)(h8:log.length≤4294967295)(x:En):Calls Tryz.prog 62 #[.pointer (some ⟨rb,4,none⟩),x.val] w fun e w'=>e=.returned (.tuple #[])∧∃ev',bp w' rb n me lk (bQ log x) now its ow ev' wv∧(∀b,ev'.ownBlock=some b→ev.ownBlock=some b∨w.heap.size≤b)∧an [some rb,ev.ownBlock] w w':=by
 have hcl:=fW log x.org;by_cases hs:x.seq=aq log x.org+1
 ·have hne:x.seq=(bC log).get x.org+1:=by rw[bD];exact hs
  refine(rW rb log (by omega) x (bC log) ev _ _ w hm.rbk rfl (fun j hj=>jg _ _ _ _ _ _ _ _ hj) (fun j=>by rw[bD];have:=fW log j;omega) hne hm.erow hm.eN).mono ?_;rintro e w' ⟨rfl,(⟨hc,hb⟩|⟨hc,g,cap,o1,o2,o3,o4,o5⟩)⟩
  ·refine⟨rfl,ev,?_,fun b hb=>.inl hb,an.of_below hb⟩;have e:bQ log x=log:=by unfold bQ;rw[if_neg fun h=>by rw[hc]at h;simp at h]
   rw[e];exact hm.below hb
  have e:bQ log x=log++[x]:=by unfold bQ;rw[if_pos ⟨hs,hc⟩]
  refine⟨rfl,.slice (some ⟨g,0,none⟩) (log.length+1) cap,?_,fun b hb=>?_,o5⟩
  ·rw[e];refine⟨?_,by rw[Cz];exact o1,fun e=>o3 (by cases e;rfl),o5.owns hm.wrow fun b hb hmem=>?_,hm.wN,fun b hb e=>?_,hm.heap⟩
   ·rw[o4,qc _ _ _ _ _ _ _ _ _ x.ho,jz log x hs]
   ·simp only[Co,Cq,or_false,Option.some.injEq]at hmem;rcases hmem with e|e
    ·exact hm.wN (by rw[hb,e])
    exact hm.ew b hb e.symm
   have hbg:b=g:=by cases e;rfl
   subst hbg;rcases o2 with h|h
   ·exact hm.ew b hb h
   have:=(hm.wrow.lt b hb).2;omega
  have hbg:b=g:=by cases hb;rfl
  subst hbg;exact o2
 refine(tV rb x (aq log x.org) _ _ w hm.rbk (by rw[jg _ _ _ _ _ _ _ _ x.ho,bD]) (by omega) hs).mono ?_;rintro e w' ⟨rfl,hb⟩
 have e:bQ log x=log:=by unfold bQ;rw[if_neg fun h=>hs h.1]
 exact⟨rfl,ev,by rw[e];exact hm.below hb,fun b hb=>.inl hb,an.of_below hb⟩
theorem uy(hm:bp w rb n me lk log now its ow ev wv)(hl:its.length≤1000)(tt cnt:Nat):Calls Tryz.prog 61 #[.pointer (some ⟨rb,10,none⟩),.int .i64 (tt:Int),.int .i64 (cnt:Int)] w fun e w'=>e=.returned (.tuple #[])∧∃its' wv',bp w' rb n me lk log now its' ow ev wv'∧its'.Perm (cN tt cnt its)∧wv'.ownBlock=wv.ownBlock∧an [some rb,wv.ownBlock] w w':=by
 refine(yG rb tt cnt its hl wv _ _ w hm.qat).mono ?_;rintro e w' ⟨rfl,wv',its',hk,hp,hh⟩
 refine⟨rfl,its',wv',⟨by rw[hk.q.rbk,eL],hk.upd.owns hm.erow fun b hb hmem=>?_,hm.eN,hk.q.row,hk.q.ne,fun b hb e=>hm.ew b (by rw[←hk.own];exact hb) e,hh⟩,hp,hk.own,hk.upd⟩;simp only[Co,Cq,or_false,Option.some.injEq]at hmem;rcases hmem with e|e
 ·exact hm.eN (by rw[hb,e])
 exact hm.ew b e.symm hb
theorem zY(hm:bp w rb n me lk log now its ow ev wv){tt:Nat}(ht:tt<5):Calls Tryz.prog 63 #[.pointer (some ⟨rb,10,none⟩),.int .i64 (tt:Int)] w fun e w'=>e=.returned (.tuple #[])∧bp w' rb n me lk log now its (fun k=>if k=tt then true else ow k) ev wv∧an [some rb] w w':=by
 refine(zZ rb tt ht w (ow tt) (by rw[cell_of_heap hm.rbk];exact nQ _ _ _ _ _ _ _ _ ht) (hm.f _)).mono ?_;rintro e w' ⟨rfl,rfl⟩
 refine⟨rfl,⟨by rw[ae hm.rbk,vu _ _ _ _ _ _ _ _ ht],ai hm.erow (fun b hb e=>hm.eN (by rw[hb,e])) _,hm.eN,ai hm.wrow (fun b hb e=>hm.wN (by rw[hb,e])) _,hm.wN,hm.ew,hm.heap⟩,(an.refl _ w).setCell (.inl (by simp)) _⟩
end
section
open Go.RowKit Go.Proofs Go.MuLone
variable {a b h me n now rb:Nat} {es log:List En} {ev wv:Value} {its:List It} {ow:Nat→Bool} {w:World}
theorem jv{z off c:Nat}{f:List UInt8}(h:aM w (.slice (some ⟨z,off,none⟩) f.length c) f)(hz:z≠rb)(v:Value):aM (w.setCell ⟨rb,0,none⟩ v) (.slice (some ⟨z,off,none⟩) f.length c) f:=by
 obtain⟨p',c',h1,h2⟩:=h;simp only[Value.slice.injEq,true_and]at h1;obtain⟨rfl,rfl⟩:=h1;refine⟨_,_,rfl,fun i x hx=>?_⟩;obtain⟨b',o',h3,h4⟩:=h2 i x hx;simp only[Option.some.injEq,Addr.mk.injEq,and_true]at h3;obtain⟨rfl,rfl⟩:=h3;exact⟨z,off,rfl,(CE (a:=⟨z,off+i,none⟩) (CD _ _ _ _ hz)).trans h4⟩
theorem lT(h:eS w)(hr:rb≠1)(v:Value):eS (w.setCell ⟨rb,0,none⟩ v):=fun i hi =>
 (CE (a:=⟨1,i,none⟩) (CD _ _ _ _ (Ne.symm hr))).trans (h i hi)
theorem oT(hR:eS w)(hG:1<w.heap.size)(hrG:rb≠1)(hm:bp w rb n me 0 log now its ow ev wv)(z off c:Nat)(f:List UInt8)(hc:f.length≤c)(hc9:c≤9223372036854775807)(hfl:f.length≤1000000000)(hz:z≠rb)(hb:aM w (.slice (some ⟨z,off,none⟩) f.length c) f)(hok:okB f=false)(fr:Int):Calls Tryz.prog 30 #[.pointer (some ⟨rb,0,none⟩),.int .i64 fr,.slice (some ⟨z,off,none⟩) f.length c] w fun e w'=>e=.returned (.tuple #[])∧Below w.heap.size w w':=by
 have c0:=hm.c0;have f0:=hm.f 0;have HK:=hid hm;have HR:Hid (Calls Tryz.prog 59 #[.slice (some ⟨z,off,none⟩) f.length c] (w.setCell ⟨rb,0,none⟩ (.int .i32 1)) fun e w'=>e=.returned (.tuple #[.agg #[.int .i64 0,.int .i64 0,.int .i64 0,.slice none 0 0],.bool false])∧Below w.heap.size (w.setCell ⟨rb,0,none⟩ (.int .i32 1)) w'):=by
  have:=tI (some ⟨z,off,none⟩) c f hc hfl hc9 (w.setCell ⟨rb,0,none⟩ (.int .i32 1)) (jv hb hz _) (lT hR hrG _) (by rw[aj];exact hG) hok;rwa[aj]at this
 clear hm hR hb;go_enter_defers Tryz.func30,Tryz.ntmps30
 go_wp2_with (first
  |(go_at_call 44;refine(lock_free dQ ⟨rb,0,none⟩ _ c0 f0).mono ?_;rintro e w' ⟨rfl,rfl⟩)
  |(go_at_call 59;refine HR.out.mono ?_;rintro e w2 ⟨rfl,hb⟩;have hb3:∀o,Below w.heap.size (w.setCell ⟨rb,0,none⟩ (.int .i32 1)) (w2.alloc o):=fun o=>hb.alloc (by have:=hb.size;rw[aj]at this;exact this) o))
 have hk2:=(HK.out.lock 1).below (by rw[aj];exact hb3 (.cells #[.int .i64 0,.int .i64 0,.int .i64 0,.slice none 0 0] 140));refine leaves_cons (f:=45) (args:=#[.pointer (some ⟨rb,0,none⟩)]) (by simp) (by simp[go_sem]) ?_;refine(unlock_deferred dQ ⟨rb,0,none⟩ .returning _ hk2.c0 (hk2.f 0)).mono ?_;rintro e u' w'' ⟨rfl,rfl,rfl⟩
 exact⟨_,results_none rfl _ _ _,rfl,HK.out.relock (hb3 _)⟩
structure Whole(f:List UInt8)(a b h:Nat)(es:List En):Prop where
 ok:okB f=true
 la:a<5
 lb:b<5
 lh:h<72057594037927936
 body:bP f=eO a b h++es.flatMap cH
 en:∀x∈es,x.org=a∧x.ah.lt 72057594037927936∧x.seq=x.ah.get x.org+1∧aY (aQ x.c)=some x.c
theorem lU(hv:ba w)(hR:eS w)(hG:1<w.heap.size)(hrG:rb≠1)(hm:bp w rb n me 0 log now its ow ev wv)(hme:me<5)(z off c:Nat)(f:List UInt8)(hc:f.length≤c)(hc9:c≤9223372036854775807)(hz:z≠rb)(hzl:z<w.heap.size)(hb:aM w (.slice (some ⟨z,off,none⟩) f.length c) f)(hw:Whole f a b h es)(fr:Int)(hmy:gS n me log a b h fr=false):Calls Tryz.prog 30 #[.pointer (some ⟨rb,0,none⟩),.int .i64 fr,.slice (some ⟨z,off,none⟩) f.length c] w fun e w'=>e=.returned (.tuple #[])∧Below w.heap.size w w':=by
 have c0:=hm.c0;have f0:=hm.f 0;have HK:=hid hm;have HR:Hid (Calls Tryz.prog 59 #[.slice (some ⟨z,off,none⟩) f.length c] (w.setCell ⟨rb,0,none⟩ (.int .i32 1)) fun e w'=>∃p l c',e=.returned (.tuple #[.agg #[.int .i64 (a:Int),.int .i64 (b:Int),.int .i64 (h:Int),.slice p l c'],.bool true])∧Below w.heap.size (w.setCell ⟨rb,0,none⟩ (.int .i32 1)) w'):=by
  have:=readG_ok z off c f hc hc9 (w.setCell ⟨rb,0,none⟩ (.int .i32 1)) (jv hb hz _) (by rw[aj];exact hzl) (lT hR hrG _) (by rw[aj];exact hG) (hv.lock (hm.ne0 hv) _ _) hw.ok a b h hw.la hw.lb hw.lh es hw.body hw.en;rw[aj]at this
  refine this.mono ?_;rintro e w' ⟨ev',rfl,h1,h2⟩
  obtain⟨p,c',rfl⟩:=aW h1;exact⟨p,_,c',rfl,h2⟩
 have HI:Hid (∀W,Below w.heap.size (w.setCell ⟨rb,0,none⟩ (.int .i32 1)) W→∀p l c',Calls Tryz.prog 60 #[.pointer (some ⟨rb,0,none⟩),.agg #[.int .i64 (a:Int),.int .i64 (b:Int),.int .i64 (h:Int),.slice p l c'],.int .i64 fr] W fun e w'=>e=.returned (.bool false)∧Below W.heap.size W w'):=fun W hW p l c'=>by
  have:=sW ((hm.lock 1).below (by rw[aj];exact hW)) hme a b h p l c' fr;rwa[hmy]at this
 clear hm hR hb hv hmy hw;go_enter_defers Tryz.func30,Tryz.ntmps30
 go_wp2_with (first
  |(go_at_call 44;refine(lock_free dQ ⟨rb,0,none⟩ _ c0 f0).mono ?_;rintro e w' ⟨rfl,rfl⟩)
  |(go_at_call 59;refine HR.out.mono ?_;rintro e w2 ⟨pl,ll,cl,rfl,hb⟩;have hb3:∀o,Below w.heap.size (w.setCell ⟨rb,0,none⟩ (.int .i32 1)) (w2.alloc o):=fun o=>hb.alloc (by have:=hb.size;rw[aj]at this;exact this) o)
  |(go_at_call 60;refine(HI.out _ (hb3 _) _ _ _).mono ?_;rintro e w4 ⟨rfl,hb4⟩;have hb5:Below w.heap.size (w.setCell ⟨rb,0,none⟩ (.int .i32 1)) w4:=(hb3 _).trans (hb4.mono (by have:=(hb3 (.map #[] 0)).size;rw[aj]at this;simpa using this))))
 have hk2:=(HK.out.lock 1).below (by rw[aj];exact hb5);refine leaves_cons (f:=45) (args:=#[.pointer (some ⟨rb,0,none⟩)]) (by simp) (by simp[go_sem]) ?_;refine(unlock_deferred dQ ⟨rb,0,none⟩ .returning _ hk2.c0 (hk2.f 0)).mono ?_;rintro e u' w'' ⟨rfl,rfl,rfl⟩
 exact⟨_,results_none rfl _ _ _,rfl,HK.out.relock hb5⟩
theorem jJ:∀(es log:List En),(bg log es).length≤log.length+es.length
 |[],log=>by simp[bg]
 |x::es,log=>by
  have h:=jJ es (bQ log x);have h2:(bQ log x).length≤log.length+1:=by
   unfold bQ;split
   ·simp
   omega
  have e:bg log (x::es)=bg (bQ log x) es:=rfl;rw[e,CR];omega
theorem na(log es:List En)(x:En):bg log (es++[x])=bQ (bg log es) x:=by simp[bg]
structure ry(w:World)(rb n me:Nat)(log:List En)(now:Nat)(its:List It)(ow:Nat→Bool)(ev wv0 wv:Value)(lb:Nat)(L:Array Value)(v2:Value)(es:List En)(k:Nat)(ev':Value)(W:World):Prop where
 rep:bp W rb n me 1 (bg log (es.take k)) now its ow ev' wv
 own:∀b,ev'.ownBlock=some b→(ev.ownBlock=some b∨w.heap.size≤b)∧v2.ownBlock≠some b∧b≠lb
 lt:W.heap[lb]?=some (.cells L 140 (0,0))
 row:W.ownsRow w.heap.size 122 10 v2 es.length (aP es)
 upd:an [some rb,ev.ownBlock,wv0.ownBlock] w W
theorem ry.BY{wv0:Value}{lb:Nat}{L:Array Value}{v2:Value}{k:Nat}{ev':Value}{W:World}(h:ry w rb n me log now its ow ev wv0 wv lb L v2 es k ev' W)(hrl:rb<w.heap.size)(hlb:w.heap.size≤lb)(h8:log.length+es.length≤4294967295)(hk:k<es.length){W':World}(hW:Below W.heap.size W W'):Calls Tryz.prog 62 #[.pointer (some ⟨rb,4,none⟩),es[k].val] W' fun e w'=>e=.returned (.tuple #[])∧(∀b C T,W.heap.size≤b→W'.heap[b]?=some (.cells C T (0,0))→w'.heap[b]?=some (.cells C T (0,0)))∧∃ev2,ry w rb n me log now its ow ev wv0 wv lb L v2 es (k+1) ev2 w':=by
 have hrep:=h.rep.below hW;have hlen:=jJ (es.take k) log;rw[List.length_take]at hlen
 refine(yE hrep (by omega) es[k]).mono ?_;rintro e w' ⟨rfl,ev2,q1,q2,q3⟩
 have hs:=hW.size;have hws:=h.upd.size;have ne:∀b,b≠rb→ev'.ownBlock≠some b→some b∉[some rb,ev'.ownBlock]:=fun b h1 h2 hm=>by
  simp only[Co,Cq,or_false,Option.some.injEq]at hm;rcases hm with e|e
  ·exact h1 e
  exact h2 e.symm
 have hll:=(Cn.1 h.lt).1;refine⟨rfl,fun b C T hb hc=>(q3.block b (Cn.1 hc).1 (ne b (by omega) fun e=>by have:=(h.rep.erow.lt b e).2;omega)).trans hc,ev2,⟨?_,fun b hb=>?_,(q3.block lb (by omega) (ne lb (by omega) fun e=>(h.own lb e).2.2 rfl)).trans ((hW.block lb hll).trans h.lt),q3.owns ((an.of_below (S:=[]) hW).owns h.row (by simp)) fun b hb=>ne b (by have:=aU h.row hb;omega) fun e=>(h.own b e).2.1 hb,(h.upd.below hW).trans q3 fun i hi=>?_⟩⟩
 ·rw[List.take_succ_eq_append_getElem hk,na];exact q1
 ·rcases q2 b hb with e|e
  ·exact h.own b e
  refine⟨.inr (by omega),fun e'=>?_,by omega⟩;have:=(h.row.lt b e').2;omega
 simp only[Co,Cq,or_false,Option.some.injEq]at hi;rcases hi with hi|hi
 ·exact .inl (by simp[hi])
 rcases(h.own i hi.symm).1 with e|e
 ·exact .inl (by simp[e])
 exact .inr e
def tN(ow:Nat→Bool)(a:Nat)(es:List En):Nat→Bool:=if es=[] then ow else fun k=>if k=a then true else ow k
theorem qg(hv:ba w)(hR:eS w)(hG:1<w.heap.size)(hrG:rb≠1)(hm:bp w rb n me 0 log now its ow ev wv)(hme:me<5)(h8:log.length≤4294960000)(hl:its.length≤1000)(z off c:Nat)(f:List UInt8)(hc:f.length≤c)(hc9:c≤9223372036854775807)(hz:z≠rb)(hzl:z<w.heap.size)(hb:aM w (.slice (some ⟨z,off,none⟩) f.length c) f)(hw:Whole f a b h es)(hmy:gS n me log a b h (a:Int)=true):Calls Tryz.prog 30 #[.pointer (some ⟨rb,0,none⟩),.int .i64 (a:Int),.slice (some ⟨z,off,none⟩) f.length c] w fun e w'=>e=.returned (.tuple #[])∧∃ev' wv' its',bp w' rb n me 0 (bg log es) now its' (tN ow a es) ev' wv'∧its'.Perm (cN a h its)∧(∀b,ev'.ownBlock=some b→ev.ownBlock=some b∨w.heap.size≤b)∧wv'.ownBlock=wv.ownBlock∧an [some rb,ev.ownBlock,wv.ownBlock] w w':=by
 have hrl:=hm.lt;have c0:=hm.c0;have f0:=hm.f 0;have ha5:=hw.la;have hes:es.length≤200:=by
  have h1:=sX es;have h2:=iN ((dy f).1 hw.ok).1;have h3:=((dy f).1 hw.ok).2.1;rw[hw.body,Cz]at h2
  omega
 have HK:=hid hm;have HR:Hid (Calls Tryz.prog 59 #[.slice (some ⟨z,off,none⟩) f.length c] (w.setCell ⟨rb,0,none⟩ (.int .i32 1)) fun e w'=>∃p c',e=.returned (.tuple #[.agg #[.int .i64 (a:Int),.int .i64 (b:Int),.int .i64 (h:Int),.slice p es.length c'],.bool true])∧Hid (w'.ownsRow w.heap.size 122 10 (.slice p es.length c') es.length (aP es))∧Below w.heap.size (w.setCell ⟨rb,0,none⟩ (.int .i32 1)) w'):=by
  have:=readG_ok z off c f hc hc9 (w.setCell ⟨rb,0,none⟩ (.int .i32 1)) (jv hb hz _) (by rw[aj];exact hzl) (lT hR hrG _) (by rw[aj];exact hG) (hv.lock (hm.ne0 hv) _ _) hw.ok a b h hw.la hw.lb hw.lh es hw.body hw.en;rw[aj]at this
  refine this.mono ?_;rintro e w' ⟨ev',rfl,h1,h2⟩
  obtain⟨p,c',rfl⟩:=aW h1;exact⟨p,c',rfl,h1,h2⟩
 have HI:Hid (∀W,Below w.heap.size (w.setCell ⟨rb,0,none⟩ (.int .i32 1)) W→∀p l c',Calls Tryz.prog 60 #[.pointer (some ⟨rb,0,none⟩),.agg #[.int .i64 (a:Int),.int .i64 (b:Int),.int .i64 (h:Int),.slice p l c'],.int .i64 (a:Int)] W fun e w'=>e=.returned (.bool true)∧Below W.heap.size W w'):=fun W hW p l c'=>by
  have:=sW ((hm.lock 1).below (by rw[aj];exact hW)) hme a b h p l c' (a:Int);rwa[hmy]at this
 clear hm hR hb hv hmy hw;go_enter_defers Tryz.func30,Tryz.ntmps30
 go_upto_region 4 with(first
  |(go_at_call 44;refine(lock_free dQ ⟨rb,0,none⟩ _ c0 f0).mono ?_;rintro e w' ⟨rfl,rfl⟩)
  |(go_at_call 59;refine HR.out.mono ?_;rintro e w2 ⟨pl,cl,rfl,HRW,hb⟩;have hb3:∀o,Below w.heap.size (w.setCell ⟨rb,0,none⟩ (.int .i32 1)) (w2.alloc o):=fun o=>hb.alloc (by have:=hb.size;rw[aj]at this;exact this) o)
  |(go_at_call 60;refine(HI.out _ (hb3 _) _ _ _).mono ?_;rintro e w4 ⟨rfl,hb4⟩;have hb5:Below w.heap.size (w.setCell ⟨rb,0,none⟩ (.int .i32 1)) w4:=(hb3 _).trans (hb4.mono (by have:=(hb3 (.map #[] 0)).size;rw[aj]at this;simpa using this))))
 have hs2:w.heap.size≤w2.heap.size:=by have:=hb.size;rwa[aj]at this
 have hl4:w4.heap[w2.heap.size]?=some (.cells #[.int .i64 (a:Int),.int .i64 (b:Int),.int .i64 (h:Int),.slice pl es.length cl] 140 (0,0)):=(hb4.block _ (by simp)).trans (heap_alloc_new w2 _);have hs4:w2.heap.size<w4.heap.size:=(Cn.1 hl4).1;have hr4:=(HK.out.lock 1).below (by rw[aj];exact hb5);have hrow4:w4.ownsRow w.heap.size 122 10 (.slice pl es.length cl) es.length (aP es):=(an.of_below (S:=[]) hb4).owns ((an.alloc (an.refl [] w2) _).owns HRW.out (by simp)) (by simp);have hrl2:∀b,(Value.slice pl es.length cl).ownBlock=some b→b<w2.heap.size:=fun b hb=>(HRW.out.lt b hb).2
 have hwl:∀b,wv.ownBlock=some b→b<w.heap.size:=fun b hb=>(HK.out.wrow.lt b hb).2
 have hel:∀b,ev.ownBlock=some b→b<w.heap.size:=fun b hb=>(HK.out.erow.lt b hb).2
 have hu0:an [some rb,ev.ownBlock,wv.ownBlock] w (w.setCell ⟨rb,0,none⟩ (.int .i32 1)):=(an.refl _ w).setCell (.inl (by simp)) _;have hu4:an [some rb,ev.ownBlock,wv.ownBlock] w w4:=hu0.trans (an.of_below (S:=[]) (by rw[aj];exact hb5)) (by simp);clear hb hb3 hb4 hb5 HR HI HRW c0 f0 hu0;generalize hlbd:w2.heap.size=lb at *;have HKN:Hid (Calls Tryz.prog 61 #[.pointer (some ⟨rb,10,none⟩),.int .i64 (a:Int),.int .i64 (h:Int)] w4.drew fun e w'=>e=.returned (.tuple #[])∧(fun w':World=>w'.heap[lb]?=some (.cells #[.int .i64 (a:Int),.int .i64 (b:Int),.int .i64 (h:Int),.slice pl es.length cl] 140 (0,0))) w'∧Hid (∃its' wv',its'.Perm (cN a h its)∧wv'.ownBlock=wv.ownBlock∧ry w rb n me log now its' ow ev wv wv' lb #[.int .i64 (a:Int),.int .i64 (b:Int),.int .i64 (h:Int),.slice pl es.length cl] (.slice pl es.length cl) es 0 ev w')):=by
  have hd:bp w4.drew rb n me 1 log now its ow ev wv:=hr4.below (Ck _ w4).drew;refine(uy hd hl a h).mono ?_;rintro e w' ⟨rfl,its',wv',q1,q2,q3,q4⟩
  have q4':an [some rb,wv.ownBlock] w4 w':=⟨q4.os,q4.tape,q4.output,q4.size,q4.block⟩;have ne:∀b,w.heap.size≤b→some b∉[some rb,wv.ownBlock]:=fun b hb hm=>by
   simp only[Co,Cq,or_false,Option.some.injEq]at hm;rcases hm with e|e
   ·omega
   have:=hwl b e.symm;omega
  have hlt:w'.heap[lb]?=some (.cells #[.int .i64 (a:Int),.int .i64 (b:Int),.int .i64 (h:Int),.slice pl es.length cl] 140 (0,0)):=(q4'.block lb hs4 (ne lb hs2)).trans hl4;refine⟨rfl,hlt,its',wv',q2,q3,⟨by simpa[bg] using q1,fun b hb=>⟨.inl hb,fun e=>?_,?_⟩,hlt,q4'.owns hrow4 fun b hb=>ne b (aU hrow4 hb),hu4.trans q4' fun i hi=>.inl (by
   simp only[Co,Cq,or_false]at hi ⊢;rcases hi with e|e
   ·exact .inl e
   exact .inr (.inr e))⟩⟩
  ·have:=aU hrow4 e;have:=hel b hb;omega
  have:=hel b hb;omega
 have hS:(fun w':World=>w'.heap[lb]?=some (.cells #[.int .i64 (a:Int),.int .i64 (b:Int),.int .i64 (h:Int),.slice pl es.length cl] 140 (0,0))) w4.drew:=hl4;have hmx:Tryz.prog.follows .mixedOrders=true:=by kernel_rfl
 clear hr4 hrow4 hu4 hl4;refine wp_region_noPanic ?_;refine wp_region_held (S:=(fun w':World=>w'.heap[lb]?=some (.cells #[.int .i64 (a:Int),.int .i64 (b:Int),.int .i64 (h:Int),.slice pl es.length cl] 140 (0,0)))) hmx ?_;refine wpAnyH_take (i:=0) (v:=(.pointer (some ⟨rb,0,none⟩))) rfl (by kernel_rfl) (by kernel_rfl) (by kernel_rfl) (fun _ _ _ h=>h) (Or.inl ⟨by rfl,?_⟩) hS ?_
 ·intro W hSw;have s2:W.cell? ⟨lb,2,none⟩=some (.int .i64 (h:Int)):=cell_of_heap hSw _;go_simp
 dsimp only[Ct,Cu,Cv];simp only[Act.put,Cw,Cs,Cx];refine wpAnyH_take (i:=1) (v:=(.pointer (some ⟨rb,0,none⟩))) rfl (by kernel_rfl) (by kernel_rfl) (by kernel_rfl) (fun _ _ _ h=>h) (Or.inl ⟨by rfl,?_⟩) hS ?_
 ·intro W hSw;have s2:W.cell? ⟨lb,2,none⟩=some (.int .i64 (h:Int)):=cell_of_heap hSw _;go_simp
 dsimp only[Ct,Cu,Cv];simp only[Act.put,Cw,Cs,Cx];refine wpAnyH_take (i:=2) (v:=(.pointer (some ⟨rb,10,none⟩))) rfl (by kernel_rfl) (by kernel_rfl) (by kernel_rfl) (fun _ _ _ h=>h) (Or.inl ⟨by rfl,?_⟩) hS ?_
 ·intro W hSw;have s2:W.cell? ⟨lb,2,none⟩=some (.int .i64 (h:Int)):=cell_of_heap hSw _;go_simp
 dsimp only[Ct,Cu,Cv];simp only[Act.put,Cw,Cs,Cx];refine wpAnyH_take (i:=3) (v:=(.int .i64 (a:Int))) rfl (by kernel_rfl) (by kernel_rfl) (by kernel_rfl) (fun _ _ _ h=>h) (Or.inl ⟨by rfl,?_⟩) hS ?_
 ·intro W hSw;have s2:W.cell? ⟨lb,2,none⟩=some (.int .i64 (h:Int)):=cell_of_heap hSw _;go_simp
 dsimp only[Ct,Cu,Cv];simp only[Act.put,Cw,Cs,Cx];refine wpAnyH_take (i:=4) (v:=(.pointer (some ⟨lb,2,none⟩))) rfl (by kernel_rfl) (by kernel_rfl) (by kernel_rfl) (fun _ _ _ h=>h) (Or.inl ⟨by rfl,?_⟩) hS ?_
 ·intro W hSw;have s2:W.cell? ⟨lb,2,none⟩=some (.int .i64 (h:Int)):=cell_of_heap hSw _;go_simp
 dsimp only[Ct,Cu,Cv];simp only[Act.put,Cw,Cs,Cx];refine wpAnyH_take (i:=5) (v:=(.int .i64 (h:Int))) rfl (by kernel_rfl) (by kernel_rfl) (by kernel_rfl) (fun _ _ _ h=>h) (Or.inl ⟨by rfl,?_⟩) hS ?_
 ·intro W hSw;have s2:W.cell? ⟨lb,2,none⟩=some (.int .i64 (h:Int)):=cell_of_heap hSw _;go_simp
 dsimp only[Ct,Cu,Cv];simp only[Act.put,Cw,Cs,Cx];refine wpAnyH_ready (rs:=[6]) (by kernel_rfl) (by simp) ?_;refine AllReadyH.cons rfl (fun K hK=>?_) AllReadyH.nil;rw[if_pos (by rfl)];dsimp only[Ct,Cu,Cv];go_simp
 refine HKN.out.mono ?_;rintro e w6 ⟨rfl,hS6,HK6⟩
 refine hK.out _ _ hS6 (fun _=>?_);clear hK K
 try simp only[Act.put,Cw,Cs,Cx]
 refine wpAnyH_done (by kernel_rfl) ?_ _;refine NoPanic.normal ?_;obtain⟨its1,wv1,hp1,hw1,hI1⟩:=HK6.out;have HP1:Hid (its1.Perm (cN a h its)∧wv1.ownBlock=wv.ownBlock):=⟨hp1,hw1⟩;have HI1:Hid (ry w rb n me log now its1 ow ev wv wv1 lb #[.int .i64 (a:Int),.int .i64 (b:Int),.int .i64 (h:Int),.slice pl es.length cl] (.slice pl es.length cl) es 0 ev w6):=hI1;have l3:w6.cell? ⟨lb,3,none⟩=some (.slice pl es.length cl):=cell_of_heap hS6 _;clear HK6 hp1 hw1 hI1 HKN hS;go_wp2
 go_loopw [41] (fun v wr=>∃(k:Nat) (ev':Value),k≤es.length∧v=.int .i64 (k:Int)∧Hid (ry w rb n me log now its1 ow ev wv wv1 lb #[.int .i64 (a:Int),.int .i64 (b:Int),.int .i64 (h:Int),.slice pl es.length cl] (.slice pl es.length cl) es k ev' wr)) (fun v _=>es.length-(intOf v).toNat)
 case atStart=>exact⟨0,ev,by omega,rfl,HI1⟩
 case round =>
  obtain⟨k,ev',hk,rfl,HJ⟩:=hrel;by_cases hlt:k<es.length
  ·obtain⟨g,cp,hgv,hgl,d0,d1,d2,d3,d4,d5,d6,d7,d8,d9⟩:=jN HJ.out.row hlt;simp only[Value.slice.injEq,true_and]at hgv;obtain⟨rfl,rfl⟩:=hgv;have hks:(k:Int)<(es.length:Int):=by omega
   have HLN:Hid (∀W',Below wr.heap.size wr W'→Calls Tryz.prog 62 #[.pointer (some ⟨rb,4,none⟩),es[k].val] W' fun e w'=>e=.returned (.tuple #[])∧(∀b C T,wr.heap.size≤b→W'.heap[b]?=some (.cells C T (0,0))→w'.heap[b]?=some (.cells C T (0,0)))∧∃ev2,Hid (ry w rb n me log now its1 ow ev wv wv1 lb #[.int .i64 (a:Int),.int .i64 (b:Int),.int .i64 (h:Int),.slice (some ⟨g,0,none⟩) es.length cl] (.slice (some ⟨g,0,none⟩) es.length cl) es (k+1) ev2 w')):=fun W' hW=>HJ.out.BY hrl hs2 (by omega) hlt hW
   unfold En.val at HLN;generalize es[k]=x at *;go_upto_region 8 with fail
   obtain⟨w3,hw3⟩:∃w3,wr.alloc (.cells #[.int .i64 (x.org:Int),.int .i64 (x.seq:Int),.int .i64 (x.ah.a:Int),.int .i64 (x.ah.b:Int),.int .i64 (x.ah.c:Int),.int .i64 (x.ah.d:Int),.int .i64 (x.ah.e:Int),.int .i64 (x.c.k.num:Int),.string x.c.word,.int .i64 (x.c.count:Int)] 122)=w3:=⟨_,rfl⟩
   have hb3:w3.heap[wr.heap.size]?=some (.cells #[.int .i64 (x.org:Int),.int .i64 (x.seq:Int),.int .i64 (x.ah.a:Int),.int .i64 (x.ah.b:Int),.int .i64 (x.ah.c:Int),.int .i64 (x.ah.d:Int),.int .i64 (x.ah.e:Int),.int .i64 (x.c.k.num:Int),.string x.c.word,.int .i64 (x.c.count:Int)] 122 (0,0)):=by rw[←hw3];exact heap_alloc_new wr _
   have hbl3:Below wr.heap.size wr w3:=by rw[←hw3];exact(Ck _ wr).alloc (Cl _) _
   rw[hw3];clear hw3 d0 d1 d2 d3 d4 d5 d6 d7 d8 d9;have HL3:=HLN.out w3.drew hbl3.drew;generalize hebd:wr.heap.size=eb at *
   have HLN3:Hid (Calls Tryz.prog 62 #[.pointer (some ⟨rb,4,none⟩),.agg #[.int .i64 (x.org:Int),.int .i64 (x.seq:Int),.int .i64 (x.ah.a:Int),.int .i64 (x.ah.b:Int),.int .i64 (x.ah.c:Int),.int .i64 (x.ah.d:Int),.int .i64 (x.ah.e:Int),.int .i64 (x.c.k.num:Int),.string x.c.word,.int .i64 (x.c.count:Int)]] w3.drew fun e w'=>e=.returned (.tuple #[])∧(fun w':World=>w'.heap[eb]?=some (.cells #[.int .i64 (x.org:Int),.int .i64 (x.seq:Int),.int .i64 (x.ah.a:Int),.int .i64 (x.ah.b:Int),.int .i64 (x.ah.c:Int),.int .i64 (x.ah.d:Int),.int .i64 (x.ah.e:Int),.int .i64 (x.c.k.num:Int),.string x.c.word,.int .i64 (x.c.count:Int)] 122 (0,0))) w'∧∃ev2,Hid (ry w rb n me log now its1 ow ev wv wv1 lb #[.int .i64 (a:Int),.int .i64 (b:Int),.int .i64 (h:Int),.slice (some ⟨g,0,none⟩) es.length cl] (.slice (some ⟨g,0,none⟩) es.length cl) es (k+1) ev2 w')):=by
    refine HL3.mono ?_;rintro e w' ⟨h1,h2,h3⟩
    exact⟨h1,h2 eb _ _ (Cl _) hb3,h3⟩
   have hS8:(fun w':World=>w'.heap[eb]?=some (.cells #[.int .i64 (x.org:Int),.int .i64 (x.seq:Int),.int .i64 (x.ah.a:Int),.int .i64 (x.ah.b:Int),.int .i64 (x.ah.c:Int),.int .i64 (x.ah.d:Int),.int .i64 (x.ah.e:Int),.int .i64 (x.c.k.num:Int),.string x.c.word,.int .i64 (x.c.count:Int)] 122 (0,0))) w3.drew:=hb3;clear HL3 HLN hbl3;refine wp_region_noPanic ?_;refine wp_region_held (S:=(fun w':World=>w'.heap[eb]?=some (.cells #[.int .i64 (x.org:Int),.int .i64 (x.seq:Int),.int .i64 (x.ah.a:Int),.int .i64 (x.ah.b:Int),.int .i64 (x.ah.c:Int),.int .i64 (x.ah.d:Int),.int .i64 (x.ah.e:Int),.int .i64 (x.c.k.num:Int),.string x.c.word,.int .i64 (x.c.count:Int)] 122 (0,0)))) hmx ?_;refine wpAnyH_take (i:=0) (v:=(.pointer (some ⟨rb,0,none⟩))) rfl (by kernel_rfl) (by kernel_rfl) (by kernel_rfl) (fun _ _ _ h=>h) (Or.inl ⟨by rfl,?_⟩) hS8 ?_
   ·intro W hSw;go_simp
   dsimp only[Ct,Cu,Cv];simp only[Act.put,Cw,Cs,Cx];refine wpAnyH_take (i:=1) (v:=(.pointer (some ⟨rb,0,none⟩))) rfl (by kernel_rfl) (by kernel_rfl) (by kernel_rfl) (fun _ _ _ h=>h) (Or.inl ⟨by rfl,?_⟩) hS8 ?_
   ·intro W hSw;go_simp
   dsimp only[Ct,Cu,Cv];simp only[Act.put,Cw,Cs,Cx];refine wpAnyH_take (i:=2) (v:=(.pointer (some ⟨rb,4,none⟩))) rfl (by kernel_rfl) (by kernel_rfl) (by kernel_rfl) (fun _ _ _ h=>h) (Or.inl ⟨by rfl,?_⟩) hS8 ?_
   ·intro W hSw;go_simp
   dsimp only[Ct,Cu,Cv];simp only[Act.put,Cw,Cs,Cx];refine wpAnyH_take (i:=3) (v:=(.agg #[.int .i64 (x.org:Int),.int .i64 (x.seq:Int),.int .i64 (x.ah.a:Int),.int .i64 (x.ah.b:Int),.int .i64 (x.ah.c:Int),.int .i64 (x.ah.d:Int),.int .i64 (x.ah.e:Int),.int .i64 (x.c.k.num:Int),.string x.c.word,.int .i64 (x.c.count:Int)])) rfl (by kernel_rfl) (by kernel_rfl) (by kernel_rfl) (fun _ _ _ h=>h) (Or.inl ⟨by rfl,?_⟩) hS8 ?_
   ·intro W hSw;have s0:W.cell? ⟨eb,0,none⟩=some (.int .i64 (x.org:Int)):=cell_of_heap hSw _;have s1:W.cell? ⟨eb,1,none⟩=some (.int .i64 (x.seq:Int)):=cell_of_heap hSw _;have s2:W.cell? ⟨eb,2,none⟩=some (.int .i64 (x.ah.a:Int)):=cell_of_heap hSw _;have s3:W.cell? ⟨eb,3,none⟩=some (.int .i64 (x.ah.b:Int)):=cell_of_heap hSw _;have s4:W.cell? ⟨eb,4,none⟩=some (.int .i64 (x.ah.c:Int)):=cell_of_heap hSw _;have s5:W.cell? ⟨eb,5,none⟩=some (.int .i64 (x.ah.d:Int)):=cell_of_heap hSw _;have s6:W.cell? ⟨eb,6,none⟩=some (.int .i64 (x.ah.e:Int)):=cell_of_heap hSw _;have s7:W.cell? ⟨eb,7,none⟩=some (.int .i64 (x.c.k.num:Int)):=cell_of_heap hSw _;have s8:W.cell? ⟨eb,8,none⟩=some (.string x.c.word):=cell_of_heap hSw _;have s9:W.cell? ⟨eb,9,none⟩=some (.int .i64 (x.c.count:Int)):=cell_of_heap hSw _;go_simp
   dsimp only[Ct,Cu,Cv];simp only[Act.put,Cw,Cs,Cx];refine wpAnyH_ready (rs:=[4]) (by kernel_rfl) (by simp) ?_;refine AllReadyH.cons rfl (fun K hK=>?_) AllReadyH.nil;rw[if_pos (by rfl)];dsimp only[Ct,Cu,Cv];go_simp
   refine HLN3.out.mono ?_;rintro e w5 ⟨rfl,hS5,ev2,HN5⟩
   refine hK.out _ _ hS5 (fun _=>?_);clear hK K
   try simp only[Act.put,Cw,Cs,Cx]
   refine wpAnyH_done (by kernel_rfl) ?_ _;refine NoPanic.normal ?_;go_wp2
   go_roundw
   case rel=>exact⟨k+1,ev2,by omega,by go_num,HN5⟩
   case measure=>simp[intOf];omega
  obtain rfl:k=es.length:=by omega
  have l3r:wr.cell? ⟨lb,3,none⟩=some (.slice pl es.length cl):=cell_of_heap HJ.out.lt _;have hrq:=HJ.out.rep;rw[List.take_length]at hrq
  have HEND:Hid (∀(W:World) (ow':Nat→Bool),bp W rb n me 1 (bg log es) now its1 ow' ev' wv1→ow'=tN ow a es→an [some rb,ev.ownBlock,wv.ownBlock] w W→∃ev' wv' its',bp (W.setCell ⟨rb,0,none⟩ (.int .i32 0)) rb n me 0 (bg log es) now its' (tN ow a es) ev' wv'∧its'.Perm (cN a h its)∧(∀b,ev'.ownBlock=some b→ev.ownBlock=some b∨w.heap.size≤b)∧wv'.ownBlock=wv.ownBlock∧an [some rb,ev.ownBlock,wv.ownBlock] w (W.setCell ⟨rb,0,none⟩ (.int .i32 0))):=fun W ow' hr he hu=>⟨ev',wv1,its1,by rw[←he];exact hr.lock 0,HP1.out.1,fun b hb=>(HJ.out.own b hb).1,HP1.out.2,hu.setCell (.inl (by simp)) _⟩
  have HU:Hid (an [some rb,ev.ownBlock,wv.ownBlock] w wr):=HJ.out.upd;have HRQ:Hid (bp wr rb n me 1 (bg log es) now its1 ow ev' wv1):=hrq;clear hrq HJ;rcases Nat.eq_zero_or_pos es.length with h0|h0
  ·have hn:es=[]:=List.length_eq_zero_iff.1 h0;have HX:=HEND.out wr ow HRQ.out (by unfold tN;rw[if_pos hn]) HU.out;have HXH:Hid _:=HX;clear HX HEND;rw[h0]at l3r ⊢
   go_wp2
   refine leaves_cons (f:=45) (args:=#[.pointer (some ⟨rb,0,none⟩)]) (by simp) (by simp[go_sem]) ?_;refine(unlock_deferred dQ ⟨rb,0,none⟩ .returning _ HRQ.out.c0 (HRQ.out.f 0)).mono ?_;rintro e u' w'' ⟨rfl,rfl,rfl⟩
   exact⟨_,results_none rfl _ _ _,rfl,HXH.out⟩
  have hpos:(0:Int)<(es.length:Int):=by omega
  have HOW:Hid (Calls Tryz.prog 63 #[.pointer (some ⟨rb,10,none⟩),.int .i64 (a:Int)] wr fun e w'=>e=.returned (.tuple #[])∧Hid (bp w' rb n me 1 (bg log es) now its1 (fun k=>if k=a then true else ow k) ev' wv1∧an [some rb] wr w')):=zY HRQ.out ha5;have HEO:Hid ((fun k=>if k=a then true else ow k)=tN ow a es):=by
   show _=_
   unfold tN;rw[if_neg fun e=>by rw[e]at h0;simp at h0]
  go_wp2_with (go_at_call 63;refine HOW.out.mono ?_;rintro e w8 ⟨rfl,HO8⟩)
  refine leaves_cons (f:=45) (args:=#[.pointer (some ⟨rb,0,none⟩)]) (by simp) (by simp[go_sem]) ?_;refine(unlock_deferred dQ ⟨rb,0,none⟩ .returning _ HO8.out.1.c0 (HO8.out.1.f 0)).mono ?_;rintro e u' w'' ⟨rfl,rfl,rfl⟩
  exact⟨_,results_none rfl _ _ _,rfl,HEND.out w8 _ HO8.out.1 HEO.out (HU.out.trans HO8.out.2 fun i hi=>.inl (by simp at hi;simp[hi]))⟩
end
section
open Go.RowKit Go.Proofs
variable {B b:Nat} {e:TypeId} {s:Sr} {v:Value} {w:World} {x:En} {xs:List Value}
def Bears(L:Lt)(f:List UInt8):Prop:=Whole f L.src L.dst L.h L.es
def er{α β:Type}(R:α→β→Prop):List α→List β→Prop
 |[],[]=>True
 |a::aas,b::bs=>R a b∧er R aas bs
 |_,_=>False
theorem er.append{α β:Type}{R:α→β→Prop}:∀{a:List α} {b:List β} {c:List α} {d:List β},er R a b→er R c d→er R (a++c) (b++d)
 |[],[],_,_,_,h=>h
 |_::aas,_::bs,_,_,h,k=>⟨h.1,er.append (a:=aas) (b:=bs) h.2 k⟩
 |[],_::_,_,_,h,_=>h.elim
 |_::_,[],_,_,h,_=>h.elim
theorem er.len{α β:Type}{R:α→β→Prop}:∀{a:List α} {b:List β},er R a b→a.length=b.length
 |[],[],_=>rfl
 |_::aas,_::bs,h=>by rw[CR,CR,er.len (a:=aas) (b:=bs) h.2]
 |[],_::_,h=>h.elim
 |_::_,[],h=>h.elim
theorem er.get{α β:Type}{R:α→β→Prop}:∀{a:List α} {b:List β},er R a b→∀{i:Nat} (h1:i<a.length) (h2:i<b.length),R a[i] b[i]
 |[],[],_,i,h1,_=>by simp at h1
 |_::aas,_::bs,h,0,_,_=>h.1
 |_::aas,_::bs,h,i+1,h1,h2=>er.get (a:=aas) (b:=bs) h.2 (by simpa using h1) (by simpa using h2)
 |[],_::_,h,_,_,_=>h.elim
 |_::_,[],h,_,_,_=>h.elim
theorem er.of_map{α β γ:Type}{R:α→β→Prop}(g:γ→α){b:List β}:∀{c:List γ},er R (c.map g) b→er (fun x y=>R (g x) y) c b:=by
 induction b with
 |nil=>intro c h;cases c with
  |nil=>trivial
  |cons _ _=>exact h.elim
 |cons y b ih=>intro c h;cases c with
  |nil=>exact h.elim
  |cons x c=>exact⟨h.1,ih h.2⟩
theorem qY{α β γ:Type}{R:α→β→Prop}(f:γ→α)(g:γ→β):∀{l:List γ},(∀x∈l,R (f x) (g x))→er R (l.map f) (l.map g)
 |[],_=>trivial
 |x::l,h=>⟨h x (by simp),qY f g (l:=l) fun y hy=>h y (by simp[hy])⟩
def yc(i:Nat)(x:En):Prop:=x.org=i∧x.ah.lt 72057594037927936∧x.seq=x.ah.get x.org+1∧aY (aQ x.c)=some x.c
theorem ob(i:Nat)(hi:i<5)(log:List En)(hl:log.length≤4294967296)(D:Nat→List En):∀(ts:List Nat),(∀t∈ts,t<5∧∀x∈D t,yc i x)→∃Ls:List Lt,er (fun(o:Nat×List UInt8) (L:Lt)=>o.1=L.dst∧Bears L o.2) (ts.flatMap (iW i log D)) Ls∧(∀L∈Ls,L.src=i∧L.dst∈ts∧L.h=aq log L.dst∧∀x∈L.es,x∈D L.dst)∧(∀t∈ts,(∃L∈Ls,L.dst=t)∧∀x∈D t,∃L∈Ls,L.dst=t∧x∈L.es)
 |[],_=>⟨[],trivial,by simp,by simp⟩
 |t::ts,h=>by
  obtain⟨Ls,h1,h2,h3⟩:=ob i hi log hl D ts fun u hu=>h u (by simp[hu])
  have ht:=h t (by simp);have hcl:=fW log t;obtain⟨P,p1,p2,p3,p4⟩:=oF i t (h:=aq log t) (by omega) (D t);have hmem:∀l∈P,∀x∈l,x∈D t:=fun l hl x hx=>by rw[p2];exact List.mem_flatten.2 ⟨l,hl,hx⟩
  refine⟨P.map (fun l=>(⟨i,t,aq log t,l⟩:Lt))++Ls,?_,fun L hL=>?_,fun u hu=>?_⟩
  ·rw[List.flatMap_cons];refine er.append ?_ h1;unfold iW;rw[p1,List.map_map];refine qY _ _ fun l hl=>⟨rfl,?_⟩
   exact⟨(p4 l hl).1,hi,ht.1,by show aq log t<_;omega,(p4 l hl).2,fun x hx=>ht.2 x (hmem l hl x hx)⟩
  ·rcases CP.1 hL with hL|hL
   ·rw[CO]at hL;obtain⟨l,hl,rfl⟩:=hL;exact⟨rfl,by simp,rfl,hmem l hl⟩
   obtain⟨q1,q2,q3⟩:=h2 L hL;exact⟨q1,by simp[q2],q3⟩
  have hin:∀L∈Ls,L∈P.map (fun l=>(⟨i,t,aq log t,l⟩:Lt))++Ls:=fun L hL=>List.mem_append_right _ hL
  have hnew:(∃L∈P.map (fun l=>(⟨i,t,aq log t,l⟩:Lt))++Ls,L.dst=t)∧∀x∈D t,∃L∈P.map (fun l=>(⟨i,t,aq log t,l⟩:Lt))++Ls,L.dst=t∧x∈L.es:=by
   constructor
   ·obtain⟨l,hl⟩:=List.exists_mem_of_ne_nil _ p3;exact⟨_,C8 _ (CO.2 ⟨l,hl,rfl⟩),rfl⟩
   intro x hx;rw[p2]at hx
   obtain⟨l,hl,hxl⟩:=List.mem_flatten.1 hx;exact⟨_,C8 _ (CO.2 ⟨l,hl,rfl⟩),rfl,hxl⟩
  rcases Co.1 hu with e|hu
  ·rw[e];exact hnew
  obtain⟨⟨L,q1,q2⟩,q3⟩:=h3 u hu;refine⟨⟨L,hin L q1,q2⟩,fun x hx=>?_⟩;obtain⟨L',r1,r2⟩:=q3 x hx;exact⟨L',hin L' r1,r2⟩
theorem LogFrom.Bz{me:Nat}{log:List En}(h:LogFrom me [] log)(hx:x∈log)(ho:x.org=me):x.seq=x.ah.get x.org+1∧∀o,x.ah.get o≤aq log o:=by
 obtain⟨pre,post,rfl⟩:=List.append_of_mem hx;obtain⟨⟨h1,h2,h3⟩,-⟩:=h.split;refine⟨by rw[h3 ho,bD];exact h1,fun o=>?_⟩;rw[bO];have:=h2 o;omega
theorem Rc.BH{r:Rc}{m:Nat}(h:∀o,r.get o<m):r.lt m:=by
 have h0:=h 0;have h1:=h 1;have h2:=h 2;have h3:=h 3;have h4:=h 4;simp[Rc.get]at h0 h1 h2 h3 h4
 exact⟨h0,h1,h2,h3,h4⟩
structure Fit(n LB NB:Nat)(S:Nat→Sr):Prop where
 n5:2≤n∧n≤5
 len:bn n S≤LB
 lb:LB≤4294900000
 now:∀i,i<n→(S i).now≤NB
 nb:NB≤1000000000000000
 read:∀i,i<n→∀x∈(S i).log,aY (aQ x.c)=some x.c
theorem Fit.log{n LB NB:Nat}{S:Nat→Sr}(h:Fit n LB NB S)(hS:ay n S){i:Nat}(hi:i<n):(S i).log.length≤4294900000:=CC (hS.AN hi) (CC h.len h.lb)
theorem Fit.its{n:Nat}{S:Nat→Sr}(hS:ay n S){i:Nat}(hi:i<n):(S i).its.length≤40:=by
 have h:=(hS.one i hi).room;have e:(S i).its.length=aX (S i).its 0+aX (S i).its 1+aX (S i).its 2+aX (S i).its 3+aX (S i).its 4:=by
  generalize (S i).its=l
  induction l with
  |nil=>rfl
  |cons p l ih =>
   have c:∀t,aX (p::l) t=aX l t+if p.to=t then 1 else 0:=fun t=>by
    unfold aX;rw[List.countP_cons];by_cases h:p.to=t <;> simp[h]
   rw[c,c,c,c,c,CR,ih];have:=p.ht;rcases(show p.to=0∨p.to=1∨p.to=2∨p.to=3∨p.to=4 by omega) with h|h|h|h|h <;> simp[h] <;> omega
 have h0:=h 0;have h1:=h 1;have h2:=h 2;have h3:=h 3;have h4:=h 4;omega
theorem Fit.en{n LB NB:Nat}{S:Nat→Sr}(h:Fit n LB NB S)(hS:ay n S){i:Nat}(hi:i<n)(hx:x∈(S i).log)(ho:x.org=i):yc i x:=by
 have hl:=h.log hS hi;obtain⟨h1,h2⟩:=(hS.one i hi).log.Bz hx ho;refine⟨ho,Rc.BH fun o=>?_,h1,h.read i hi x hx⟩;have:=h2 o;have:=fW (S i).log o;omega
structure bH(w0:World):Prop where
 verbs:ba w0
 pow:fu w0
 rem:eS w0
 g0:0<w0.heap.size
 g1:1<w0.heap.size
structure dr(w0:World)(n LB NB:Nat)(S:Nat→Sr)(d:cU)(W:World):Prop where
 m:gy W n S d
 ok:ay n S
 fit:Fit n LB NB S
 size:w0.heap.size≤W.heap.size
 old:∀b,b<w0.heap.size→W.heap[b]?=w0.heap[b]?∧d.far n b
section
variable {w0 W W':World} {n LB NB:Nat} {S S':Nat→Sr} {d d':cU} {i:Nat}
theorem dr.AG(h:dr w0 n LB NB S d W){LB':Nat}(m:gy W' n S' d')(st:fP n W d W' d')(ok:ay n S')(fit:Fit n LB' NB S'):dr w0 n LB' NB S' d' W':=⟨m,ok,fit,CC h.size st.size,fun b hb=>⟨(st.block b (CG hb h.size) (h.old b hb).2).trans (h.old b hb).1,st.far b (CG hb h.size) (h.old b hb).2⟩⟩
theorem dr.below(h:dr w0 n LB NB S d W)(hb:Below W.heap.size W W'):dr w0 n LB NB S d W':=h.AG (h.m.below hb) (fP.below hb d) h.ok h.fit
theorem dr.cell(h:dr w0 n LB NB S d W){a:Addr}{v:Value}(hc:w0.cell? a=some v):W.cell? a=some v:=(CE (h.old a.block (Cy w0 a hc)).1).trans hc
theorem dr.verbs(h:dr w0 n LB NB S d W)(hg:bH w0):ba W:=fun k=>h.cell (hg.verbs k)
theorem dr.rem(h:dr w0 n LB NB S d W)(hg:bH w0):eS W:=fun j hj=>h.cell (hg.rem j hj)
theorem dr.pow(h:dr w0 n LB NB S d W)(hg:bH w0):fu W:=by
 have hp:=hg.pow;have hc:=Lib.TabIs.cell hp Tryz.Bi 0 (by decide);have hb:=(h.old _ (Cy w0 _ hc)).1;unfold fu Lib.TabIs World.var? at hp ⊢;rw[Tryz.Bi]at hp ⊢
 simp only[Option.bind_some]at hp ⊢;rw[hb];exact hp
theorem dr.g1(h:dr w0 n LB NB S d W)(hg:bH w0):1<W.heap.size:=CG hg.g1 h.size
theorem dr.rbG(h:dr w0 n LB NB S d W)(hg:bH w0)(hi:i<n):d.rb i≠1:=fun e=>(h.old _ hg.g1).2 i hi (.inl e.symm)
theorem dr.wvG(h:dr w0 n LB NB S d W)(hg:bH w0)(hi:i<n):(d.wv i).ownBlock≠some 0∧(d.wv i).ownBlock≠some 1:=⟨fun e=>(h.old _ hg.g0).2 i hi (.inr (.inr e)),fun e=>(h.old _ hg.g1).2 i hi (.inr (.inr e))⟩
theorem dr.its(h:dr w0 n LB NB S d W)(hi:i<n):(d.its i).length≤40:=by rw[(h.m.perm i hi).length_eq];exact Fit.its h.ok hi
theorem dr.cnt(h:dr w0 n LB NB S d W)(hi:i<n)(t:Nat):aX (d.its i) t≤8:=by rw[ox (h.m.perm i hi)];exact(h.ok.one i hi).room t
theorem kN{n:Nat}{S S':Nat→Sr}(h:∀i,i<n→bT i (S' i).log=bT i (S i).log):bn n S'=bn n S:=fh fun i hi=>by rw[←bZ,←bZ,h i hi]
theorem Fit.same{n LB NB:Nat}{S S':Nat→Sr}(h:Fit n LB NB S)(ho:∀i,i<n→bT i (S' i).log=bT i (S i).log)(hn:∀i,i<n→(S' i).now≤NB)(hr:∀i,i<n→∀x∈(S' i).log,∃j,j<n∧x∈(S j).log):Fit n LB NB S':=⟨h.n5,by rw[kN ho];exact h.len,h.lb,hn,h.nb,fun i hi x hx=>by obtain⟨j,hj,hx'⟩:=hr i hi x hx;exact h.read j hj x hx'⟩
theorem jx(hl:s.log=(S i).log)(k:Nat):(bR S i s k).log=(S k).log:=by
 by_cases e:k=i
 ·subst e;rw[aD];exact hl
 rw[az _ _ e]
theorem jw{NB:Nat}(hs:s.now≤NB)(h:∀k,k<n→(S k).now≤NB):∀k,k<n→(bR S i s k).now≤NB:=fun k hk=>by
 by_cases e:k=i
 ·subst e;rw[aD];exact hs
 rw[az _ _ e];exact h k hk
theorem zj(h:dr w0 n LB NB S d W)(hi:i<n)(hnb:(S i).now<NB):Calls Tryz.prog 25 #[.pointer (some ⟨d.rb i,0,none⟩)] W fun e w'=>e=.returned (.tuple #[])∧∃d',dr w0 n LB NB (bR S i (eC (S i))) d' w'∧fP n W d w' d':=by
 have hnb':=h.fit.nb;refine(zi (h.m.rep i hi) (by omega)).mono ?_;rintro e w' ⟨rfl,hr,hu⟩
 obtain⟨hm,hst⟩:=h.m.step (s':=eC (S i)) (its':=d.its i) hi (hu.mono fun k hk=>by simp at hk;simp[hk]) hr (h.m.perm i hi) (fun b hb=>.inl hb) fun b hb=>.inl hb
 refine⟨rfl,_,h.AG hm hst (h.ok.BE i) (h.fit.same (fun k _=>by rw[jx (s:=eC (S i)) rfl]) (jw hnb h.fit.now) fun k hk x hx=>⟨k,hk,?_⟩),hst⟩;rwa[jx (s:=eC (S i)) rfl]at hx
theorem zh(h:dr w0 n LB NB S d W)(hg:bH w0)(hi:i<n):Calls Tryz.prog 23 #[.pointer (some ⟨d.rb i,0,none⟩)] W fun e w'=>∃s,e=.returned (.string s)∧dp (aK (S i).log (S i).log) s∧Below W.heap.size W w':=zg (h.verbs hg) (h.pow hg) (h.m.rep i hi) (by have:=h.fit.log h.ok hi;omega)
theorem rY(h:dr w0 n LB NB S d W)(hg:bH w0)(hi:i<n):Calls Tryz.prog 28 #[.pointer (some ⟨d.rb i,0,none⟩)] W fun e w'=>∃p cap,e=.returned (.slice p (S i).log.length cap)∧w'.ownsRow W.heap.size 68 3 (.slice p (S i).log.length cap) (S i).log.length (dO (S i).log)∧Below W.heap.size W w':=yF (h.verbs hg) (h.m.rep i hi) (by have:=h.fit.log h.ok hi;omega)
theorem xA(h:dr w0 n LB NB S d W)(hg:bH w0)(hi:i<n):Calls Tryz.prog 29 #[.pointer (some ⟨d.rb i,0,none⟩)] W fun e w'=>∃fv os Ls s' d',e=.returned fv∧cV W.heap.size fv os w'∧os.length≤65∧er (fun(o:Nat×Value×List UInt8) (L:Lt)=>o.1=L.dst∧Bears L o.2.2) os Ls∧dU n i (S i) s' Ls∧dr w0 n LB NB (bR S i s') d' w'∧fP n W d w' d'∧(∀b,fv.ownBlock=some b→d'.far n b)∧∀o∈os,∀b,o.2.1.ownBlock=some b→d'.far n b:=by
 have hn5:=h.fit.n5.2;have hll:=h.fit.log h.ok hi;have hnb:=h.fit.now i hi;have hnb':=h.fit.nb;have hpm:=h.m.perm i hi;refine(xz (h.verbs hg) (h.rem hg) (h.g1 hg) (h.rbG hg hi) (h.wvG hg hi) (h.m.rep i hi) (by omega) (by omega) (by have:=h.its hi;omega) (fun t=>CC (h.cnt hi t) (by omega)) (by omega)).mono ?_;rintro e w' ⟨fv,os,D,its,wv,rfl,hout,hmap,hrep,mw,hwv,hdue,hlen12,hupd⟩
 have hol:os.length≤65:=by
  have h1:=congrArg List.length hmap;rw[List.length_map]at h1
  have h2:=od i (S i).log D (ax D (S i).owed 5) fun t ht=>hlen12 t (by
   simp only[ax,Dc,DJ]at ht;exact ht.1)
  have h3:=iE D (S i).owed 5;omega
 have hD:∀t x,t<5→x∈D t→x∈bI (S i).its t:=fun t x ht hx=>by
  obtain⟨p,hp,-,h1,h2⟩:=(hdue t x ht).1 hx;exact dh.2 ⟨p,hpm.mem_iff.1 hp,h1,h2⟩
 have hts:∀t∈ax D (S i).owed 5,t<5∧(0<(D t).length∨(S i).owed t=true):=fun t ht=>by
  simp only[ax,Dc,DJ,Bool.or_eq_true,decide_eq_true_eq]at ht;exact ht
 have hin:∀t,t<5→(0<(D t).length∨(S i).owed t=true)→t∈ax D (S i).owed 5:=fun t ht h=>by
  simp only[ax,Dc,DJ,Bool.or_eq_true,decide_eq_true_eq];exact⟨ht,h⟩
 obtain⟨Ls,l1,l2,l3⟩:=ob i (by omega) (S i).log (by omega) D (ax D (S i).owed 5) fun t ht=>⟨(hts t ht).1,fun x hx=>by
  obtain⟨h1,h2⟩:=h.ok.AX hi (hD t x (hts t ht).1 hx);exact h.fit.en h.ok hi h1 h2⟩
 rw[←hmap]at l1;have hdst:∀t∈ax D (S i).owed 5,t<n∧t≠i:=fun t ht=>by
  rcases(hts t ht).2 with hp|hp
  ·obtain⟨x,hx⟩:=List.exists_mem_of_length_pos hp;obtain⟨p,hpi,h1,-⟩:=dh.1 (hD t x (hts t ht).1 hx);have:=(h.ok.one i hi).to p hpi;rw[h1]at this
   exact⟨this.1,this.2.1⟩
  exact(h.ok.one i hi).owe t hp
 have hF:dU n i (S i) ⟨(S i).log,(S i).now,(S i).its.map (bE (S i).now),fun _=>false⟩ Ls:=by
  refine⟨rfl,rfl,List.Perm.refl _,fun _=>rfl,fun L hL=>?_,fun p hp hd=>?_,fun j hj=>?_⟩
  ·obtain⟨q1,q2,q3,q4⟩:=l2 L hL;have hd:=hdst _ q2;exact⟨q1,hd.1,hd.2,q3,fun x hx=>hD _ x (hts _ q2).1 (q4 x hx)⟩
  ·have hx:p.en∈D p.to:=(hdue p.to p.en p.ht).2 ⟨p,hpm.mem_iff.2 hp,hd,rfl,rfl⟩;exact(l3 p.to (hin _ p.ht (.inl (List.length_pos_of_mem hx)))).2 p.en hx
  have:=(h.ok.one i hi).owe j hj;exact(l3 j (hin j (by omega) (.inr hj))).1
 obtain⟨hm,hst⟩:=h.m.step (s':=⟨(S i).log,(S i).now,(S i).its.map (bE (S i).now),fun _=>false⟩) hi (hupd.mono fun k hk=>by
  simp only[Co,Cq,or_false]at hk ⊢;rcases hk with e|e
  ·exact .inl e
  exact .inr (.inr e)) hrep (mw.trans (hpm.map _)) (fun b hb=>.inl hb) fun b hb=>(hwv b hb).1
 have hfar:∀b,W.heap.size≤b→(∀b',wv.ownBlock=some b'→b≠b')→(d.upd i (d.ev i) wv its).far n b:=fun b hb hne j hj hf=>by
  by_cases e:j=i
  ·subst e;simp only[cU.foot,cU.upd,if_pos]at hf;rcases hf with hf|hf|hf
   ·have:=(h.m.rep j hj).lt;omega
   ·have:=((h.m.rep j hj).erow.lt b hf).2;omega
   exact hne b hf rfl
  simp only[cU.foot,cU.upd,if_neg e]at hf;have:=h.m.lt hj hf;omega
 refine⟨fv,os,Ls,_,_,rfl,hout,hol,er.of_map (fun o:Nat×Value×List UInt8=>(o.1,o.2.2)) l1,hF,h.AG hm hst (h.ok.AV hi hF) (h.fit.same (fun k _=>by rw[jx (s:=⟨(S i).log,(S i).now,(S i).its.map (bE (S i).now),fun _=>false⟩) rfl]) (jw hnb h.fit.now) fun k hk x hx=>⟨k,hk,?_⟩),hst,fun b hb=>hfar b (aU hout.row hb) fun b' hb' e=>(hwv b' hb').2.1 (by rw[hb,e]),fun o ho b hb=>hfar b (aU (hout.each o ho) hb) fun b' hb' e=>(hwv b' hb').2.2 o ho (by rw[hb,e])⟩;rwa[jx (s:=⟨(S i).log,(S i).now,(S i).its.map (bE (S i).now),fun _=>false⟩) rfl]at hx
theorem vx(h:dr w0 n LB NB S d W)(hg:bH w0){L:Lt}(hL:fB n S L){z off c:Nat}{f:List UInt8}(hf:Bears L f)(hc:f.length≤c)(hc9:c≤9223372036854775807)(hz:z<W.heap.size)(hzf:d.far n z)(hb:aM W (.slice (some ⟨z,off,none⟩) f.length c) f):Calls Tryz.prog 30 #[.pointer (some ⟨d.rb L.dst,0,none⟩),.int .i64 (L.src:Int),.slice (some ⟨z,off,none⟩) f.length c] W fun e w'=>e=.returned (.tuple #[])∧∃d',dr w0 n LB NB (bR S L.dst (dY (S L.dst) L)) d' w'∧fP n W d w' d':=by
 have hn5:=h.fit.n5.2;have hi:=hL.dst;have hll:=h.fit.log h.ok hi;have hcnt:=h.ok.AW hi hL.src;have hmy:gS n L.dst (S L.dst).log L.src L.dst L.h (L.src:Int)=true:=by
  unfold gS;rw[decide_eq_true_eq];have h1:=hL.h;have h2:=hL.ne;have h3:=hL.src;exact⟨rfl,by omega,by omega,rfl,by omega⟩
 refine(qg (h.verbs hg) (h.rem hg) (h.g1 hg) (h.rbG hg hi) (h.m.rep _ hi) (by omega) (by omega) (by have:=h.its hi;omega) z off c f hc hc9 (fun e=>hzf _ hi (.inl e)) hz hb hf hmy).mono ?_;rintro e w' ⟨rfl,ev',wv',its',hr,hp,he,hw,hu⟩
 obtain⟨hm,hst⟩:=h.m.step (s':=dY (S L.dst) L) hi hu hr (hp.trans ((h.m.perm _ hi).filter _)) he fun b hb=>.inl (by rw[←hw];exact hb)
 have hgrow:∀k,∃l,(bR S L.dst (dY (S L.dst) L) k).log=(S k).log++l:=fun k=>fC S L k
 refine⟨rfl,_,h.AG hm hst (h.ok.take hL) (h.fit.same (fun k _=>pQ hL k) (jw (h.fit.now _ hi) h.fit.now) fun k hk x hx=>?_),hst⟩;by_cases e:k=L.dst
 ·rw[e,aD]at hx;rcases fx hx with q|q
  ·exact⟨_,hi,q⟩
  exact⟨L.src,hL.src,(hL.es x q).1⟩
 rw[az _ _ e]at hx;exact⟨k,hk,hx⟩
end
theorem zv(i:Nat)(hi:i<5)(log:List En)(hl:log.length≤4294967296)(c:Cm)(hc:nF c):∃x:En,x.org=i∧x.seq=aq log i+1∧x.ah=bC log∧x.c=c:=⟨⟨i,aq log i+1,bC log,c,hi,by have:=fW log i;omega,Rc.BH fun o=>by rw[bD];have:=fW log o;omega,hc⟩,rfl,rfl,rfl,rfl⟩
def uQ(n i:Nat)(s:Sr)(x:En):Sr:=⟨s.log++[x],s.now,s.its++de i s.now x n,s.owed⟩
theorem oH(a b:List It)(j:Nat):bI (a++b) j=bI a j++bI b j:=by simp[bI]
theorem qu{its:List It}(h:bj its<8)(t:Nat):aX its t<8:=by
 by_cases ht:t<5
 ·unfold bj at h;rcases(show t=0∨t=1∨t=2∨t=3∨t=4 by omega) with rfl|rfl|rfl|rfl|rfl <;> omega
 have:aX its t=0:=by
  unfold aX;rw[List.countP_eq_zero];intro p _ e;have:=p.ht;simp at e;omega
 omega
section
variable {w0 W W':World} {n LB NB:Nat} {S S':Nat→Sr} {d d':cU} {i:Nat}
theorem nI(hi:i<n)(hx:x.org=i):bn n (bR S i (uQ n i (S i) x))=bn n S+1:=by
 have e:bn n (bR S i (uQ n i (S i) x))=dJ n (fun k=>aq (S k).log k+if i=k then 1 else 0):=fh fun k hk=>by
  by_cases e:k=i
  ·subst e;rw[aD];show aq ((S k).log++[x]) k=_;rw[eF,if_pos hx,if_pos rfl]
  rw[az _ _ e,if_neg (Ne.symm e)];rfl
 rw[e,j6,nM n i hi]
 rfl
theorem sn(h:dr w0 n LB NB S d W)(hi:i<n)(hLB:bn n S<LB)(hxo:x.org=i)(hxs:x.seq=aq (S i).log i+1)(hxa:x.ah=bC (S i).log)(hr:aY (aQ x.c)=some x.c)(ho:bj (S i).its<8):ay n (bR S i (uQ n i (S i) x))∧Fit n LB NB (bR S i (uQ n i (S i) x)):=by
 have hn5:=h.fit.n5.2;have hnb:=h.fit.now i hi;have hnb':=h.fit.nb;have hnow:(S i).now<1152921504606846976:=by omega
 refine⟨h.ok.do hi hxo hxs hxa (fun j=>qu ho j) (fun p hp=>?_) fun j hj hji=>?_,h.fit.n5,by rw[nI hi hxo];omega,h.fit.lb,jw (s:=uQ n i (S i) x) hnb h.fit.now,h.fit.nb,fun k hk y hy=>?_⟩
 ·rcases CP.1 hp with hp|hp
  ·exact(h.ok.one i hi).to p hp
  have:=lZ hnow hn5 hp;exact⟨this.1,this.2.1,by omega⟩
 ·rw[oH,kS hnow hn5 hj hji]
 by_cases e:k=i
 ·subst e;rw[aD]at hy
  rcases CP.1 hy with q|q
  ·exact h.fit.read k hk y q
  simp at q;subst q;exact hr
 rw[az _ _ e]at hy;exact h.fit.read k hk y hy
theorem As(h:dr w0 n LB NB S d W)(hg:bH w0)(hi:i<n)(hLB:bn n S<LB)(s:ByteArray)(hs:s.size≤maxLen):Calls Tryz.prog 20 #[.pointer (some ⟨d.rb i,0,none⟩),.string s] W fun e w' =>
   (aY s=none∧e=.returned (.int .i64 2)∧Below W.heap.size W w')∨(∃c,aY s=some c∧dt (aK (S i).log (S i).log) c=false∧e=.returned (.int .i64 3)∧Below W.heap.size W w')∨(∃c,aY s=some c∧dt (aK (S i).log (S i).log) c=true∧8≤bj (S i).its∧e=.returned (.int .i64 4)∧Below W.heap.size W w')∨(∃x,aY s=some x.c∧dt (aK (S i).log (S i).log) x.c=true∧bj (S i).its<8∧x.org=i∧x.seq=aq (S i).log i+1∧x.ah=bC (S i).log∧e=.returned (.int .i64 0)∧∃d',dr w0 n LB NB (bR S i (uQ n i (S i) x)) d' w'∧fP n W d w' d'):=by
 have hn5:=h.fit.n5;have hll:=h.fit.log h.ok hi;have hnb:=h.fit.now i hi;have hnb':=h.fit.nb;have hop:bj (d.its i)=bj (S i).its:=rP (h.m.perm i hi);have hil:=h.its hi;cases hr:aY s with
 |none =>
  refine(xE (h.verbs hg) (h.m.rep i hi) s hs hr).mono ?_;rintro e w' ⟨rfl,hb⟩
  exact .inl ⟨rfl,rfl,hb⟩
 |some c =>
  cases hgo:dt (aK (S i).log (S i).log) c with
  |false =>
   refine(xD (h.verbs hg) (h.m.rep i hi) (by omega) s hs c hr hgo).mono ?_;rintro e w' ⟨rfl,hb⟩
   exact .inr (.inl ⟨c,rfl,hgo,rfl,hb⟩)
  |true =>
   by_cases ho:8≤bj (S i).its
   ·refine(wC (h.verbs hg) (h.m.rep i hi) (by omega) (by omega) s hs c hr hgo (by rw[hop];exact ho)).mono ?_;rintro e w' ⟨rfl,hb⟩
    exact .inr (.inr (.inl ⟨c,rfl,hgo,ho,rfl,hb⟩))
   obtain⟨x,hxo,hxs,hxa,hxc⟩:=zv i (by omega) (S i).log (by omega) c (eU hr).1;have ht:aY (aQ x.c)=some x.c:=by rw[hxc,(eU hr).2];exact hr
   refine(yP (h.verbs hg) (h.m.rep i hi) hn5 hi (by omega) (by omega) (by omega) s hs x hxo hxs hxa (by rw[hxc];exact hr) (by rw[hxc];exact hgo) (by rw[hop];omega)).mono ?_;rintro e w' ⟨rfl,hu,ev',wj,its',hq,hp,he,hw⟩
   obtain⟨hnet,hfit⟩:=sn h hi hLB hxo hxs hxa ht (by omega);obtain⟨hm,hst⟩:=h.m.step (s':=uQ n i (S i) x) hi hu hq (hp.trans ((h.m.perm i hi).append_right _)) he hw;exact .inr (.inr (.inr ⟨x,by rw[hxc],by rw[hxc];exact hgo,by omega,hxo,hxs,hxa,rfl,_,h.AG hm hst hnet hfit,hst⟩))
end
section
variable {w0 W W':World} {n LB LB' NB:Nat} {S S':Nat→Sr} {d d':cU} {gb pb pc:Nat}
end
theorem Ac(n:Nat)(hn:2≤n∧n≤5)(i:Nat)(hi:i<n)(W:World):Calls Tryz.prog 31 #[.int .i64 (i:Int),.int .i64 (n:Int)] W fun e w'=>e=.returned (.tuple #[.pointer (some ⟨W.heap.size,0,none⟩),.int .i64 0])∧w'.heap.size=W.heap.size+1∧Below W.heap.size W w'∧bp w' W.heap.size n i 0 [] 0 [] (fun _=>false) (.slice none 0 0) (.slice none 0 0):=by
 have hn5:=hn.2;have hn2:=hn.1;go_enter Tryz.func31,Tryz.ntmps31
 go_wp2
 go_ret2
 refine⟨rfl,by simp,(Ck _ W).alloc (Cl _) _,?_,CW ..,by simp[Cp],CW ..,by simp[Cp],fun b hb=>by simp[Cp]at hb,fun c _ hc=>by simp at hc⟩;rw[heap_alloc_new];simp[dL,bC,aq]
theorem vc{B':Nat}{e':TypeId}{s s' n n':Nat}{v':Value}{xs':List Value}(h:w.ownsRow B e s v n xs)(h':w.ownsRow B' e' s' v' n' xs')(hne:e≠e')(hb:v.ownBlock=some b):v'.ownBlock≠some b:=fun hb'=>by
 rcases h.2 with⟨h1,-⟩|⟨g,c,cur,h1,-,hg,-⟩
 ·rw[h1]at hb;simp[Cp]at hb
 rcases h'.2 with⟨k1,-⟩|⟨g',c',cur',k1,-,hg',-⟩
 ·rw[k1]at hb';simp[Cp]at hb'
 rw[h1]at hb;rw[k1]at hb'
 have e1:g=b:=by simpa[Cp] using hb
 have e2:g'=b:=by simpa[Cp] using hb'
 rw[e1]at hg;rw[e2,hg]at hg'
 simp at hg';exact hne hg'.2
theorem sL{t:TypeId}{s n:Nat}{C:Array Value}(h:w.ownsRow B e s v n xs)(hc:w.heap[b]?=some (.cells C t (0,0)))(hne:e≠t):v.ownBlock≠some b:=fun hb=>by
 rcases h.2 with⟨h1,-⟩|⟨g,c,cur,h1,-,hg,-⟩
 ·rw[h1]at hb;simp[Cp]at hb
 rw[h1]at hb;have e1:g=b:=by simpa[Cp] using hb
 rw[e1,hc]at hg;simp at hg;exact hne hg.2.symm
end
section
open Go.RowKit Go.Proofs
attribute [local go_sem ↓] Go.wp_at_zero Go.wp_at_succ
theorem jC(os:List (Nat×Value×List UInt8)){k:Nat}(hk:k<os.length):(cL os)[k*2]?=some (.int .i64 ((os[k].1:Nat):Int))∧(cL os)[k*2+1]?=some os[k].2.1:=by
 have h:=iJ (fun o:Nat×Value×List UInt8=>[Value.int .i64 ((o.1:Nat):Int),o.2.1]) 2 (fun _=>rfl) os k;exact⟨by have:=h 0 hk (by omega);simpa[cL] using this,by have:=h 1 hk (by omega);simpa[cL] using this⟩
end
section
open Go.RowKit Go.Proofs
variable {Ls:List Lt} {S S' T:Nat→Sr} {n:Nat}
theorem mC(S:Nat→Sr)(D E:List Lt):aL S (D++E)=aL (aL S D) E:=by simp[aL]
theorem iz.congr(h:iz n S S' Ls)(he:∀i,i<n→T i=S i):iz n T S' Ls:=by
 refine⟨fun i hi=>by rw[he i hi];exact h.log i hi,fun i hi=>by rw[he i hi];exact h.its i hi,h.due,h.none,fun L hL=>?_,fun i hi=>by rw[he i hi];exact h.all i hi,fun i hi=>by rw[he i hi];exact h.owed i hi⟩;obtain⟨h1,h2⟩:=h.ok L hL;have e:=he L.src h1.src;exact⟨⟨h1.src,h1.dst,h1.ne,by rw[e];exact h1.h,by rw[e];exact h1.es⟩,by rw[e];exact h2⟩
theorem ay.congr(h:ay n S)(he:∀i,i<n→T i=S i):ay n T:=by
 refine⟨fun i hi=>by rw[he i hi];exact h.one i hi,fun i hi x hx=>?_,fun i hi j hj hji=>by rw[he i hi,he j hj];exact h.wait i hi j hj hji⟩;rw[he i hi]at hx
 rw[he _ ((h.one i hi).org x hx)];exact h.src i hi x hx
theorem xh{S1:Nat→Sr}{D:List Lt}(hS:ay n S)(h0:∀i,i<n→S1 i=eC (S i))(h:cE n n S1 S' Ls)(h1:∀L∈D,L∈Ls)(h2:∀L∈Ls,L∈D):nD n S (aL S' D):=by
 have hn:ay n S1:=hS.tick.congr h0;have hd:∀i,i<n→∀p∈(S1 i).its,p.due≤(S1 i).now:=fun i hi=>by rw[h0 i hi];exact uY hS i hi
 exact⟨S',Ls,D,(h.told hn hd).congr fun i hi=>(h0 i hi).symm,h1,h2,rfl⟩
def cO(S:Nat→Sr)(j:Nat):Nat→Sr:=fun i=>if i<j then eC (S i) else S i
theorem pO(S:Nat→Sr)(j:Nat):cO S (j+1)=bR (cO S j) j (eC (cO S j j)):=by
 funext i
 unfold cO bR;by_cases e:i=j
 ·subst e;simp
 rw[if_neg e];dsimp only;by_cases h:i<j
 ·rw[if_pos h,if_pos (by omega)]
 rw[if_neg h,if_neg (by omega)]
theorem ir(i:Nat):∀(D:List Lt) (S:Nat→Sr),(aL S D i).now=(S i).now
 |[],_=>rfl
 |L::D,S=>by
  rw[dB,ir i D];by_cases e:i=L.dst
  ·subst e;rw[aD];rfl
  rw[az _ _ e]
theorem cE.now{n m:Nat}{S S':Nat→Sr}{Ls:List Lt}(h:cE n m S S' Ls)(i:Nat):(S' i).now=(S i).now:=by
 by_cases e:i<m
 ·obtain⟨Li,h1,-⟩:=h.did i e;exact h1.now
 rw[h.rest i (by omega)]
end
section
open Go.RowKit Go.Proofs
attribute [local go_sem ↓] Go.wp_at_zero Go.wp_at_succ
theorem iS{C:dG}{s t:ByteArray}(hs:dp C s)(ht:dp C t):s=t:=by
 obtain⟨a1,a2,a3,⟨p1,q1⟩,⟨p2,q2⟩,⟨p3,q3⟩,e⟩:=hs;obtain⟨b1,b2,b3,⟨r1,s1⟩,⟨r2,s2⟩,⟨r3,s3⟩,f⟩:=ht;have e1:=dH a1 b1 p1 r1 fun x=>(q1 x).trans (s1 x).symm
 have e2:=dH a2 b2 p2 r2 fun x=>(q2 x).trans (s2 x).symm
 have e3:=dH a3 b3 p3 r3 fun x=>(q3 x).trans (s3 x).symm
 subst e1 e2 e3;exact iL (e.trans f.symm)
theorem LogFrom.nodup{me:Nat}:∀{l pre:List En},LogFrom me pre l→(∀x∈l,aq pre x.org<x.seq)∧l.Nodup
 |[],_,_=>⟨by simp,List.nodup_nil⟩
 |x::l,pre,h=>by
  obtain⟨h1,h2⟩:=LogFrom.nodup (l:=l) h.2;have hx:=h.1.1;refine⟨fun y hy=>?_,List.nodup_cons.2 ⟨fun hm=>?_,h2⟩⟩
  ·rcases Co.1 hy with rfl|hy
   ·omega
   have:=h1 y hy;rw[bO]at this
   omega
  have:=h1 x hm;rw[eF,if_pos rfl]at this
  omega
theorem bX.perm{n:Nat}{S:Nat→Sr}(h:bX n S)(hS:ay n S){i j:Nat}(hi:i<n)(hj:j<n):(S i).log.Perm (S j).log:=by
 have key:∀{i j:Nat},i<n→j<n→∀x∈(S i).log,x∈(S j).log:=fun {i j} hi hj x hx=>by
  have ho:=(hS.one i hi).org x hx;have hp:=(hS.one i hi).log.place hx;have c1:=h.cnt hS ho hi;have c2:=h.cnt hS ho hj;obtain⟨y,hy,h1,h2⟩:=(hS.one j hj).log.the (o:=x.org) (s:=x.seq) hp.1 (by omega);have hx':=hS.src i hi x hx;have hy':=hS.src j hj y hy;rw[h1]at hy'
  rw[(hS.one _ ho).log.uniq hx' hy' h1.symm h2.symm];exact hy
 exact(List.perm_ext_iff_of_nodup (hS.one i hi).log.nodup.2 (hS.one j hj).log.nodup.2).2 fun x=>⟨key hi hj x,key hj hi x⟩
end
end Go.Proofs.YtckmppkdpnhodaaGreatDoor
