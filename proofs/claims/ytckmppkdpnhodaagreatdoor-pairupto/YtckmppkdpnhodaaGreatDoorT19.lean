import Derived.Test.YtckmppkdpnhodaaGreatDoorT18
import Derived.Test.YtckmppkdpnhodaaGreatDoorT16
import Derived.Test.YtckmppkdpnhodaaGreatDoorT00
set_option maxRecDepth 100000
set_option maxHeartbeats 8000000
set_option linter.unusedVariables false
set_option linter.unusedSimpArgs false
open Array renaming getElem?_eq_some_iff→Cn
open Nat renaming le_trans→CC,reduceAdd→DQ,le_refl→Cl,add_zero→DG
open List renaming length_append→Cz,length_cons→CR,length_nil→Dh,nil_append→DC,getElem_toArray→Ct,getElem_cons_zero→Cu,getElem_cons_succ→Cv,setIfInBounds_toArray→Cw,set_cons_zero→Cs,set_cons_succ→Cx,mem_append→CP,mem_singleton→CK
open Go.RowKit.Below renaming heap_setCell→CD,refl→Ck,heap_alloc→CF
open Go.World renaming size_alloc→Dg,block_lt_of_cell?→Cy,cell?_of_block→CE
open Bool renaming and_eq_true→C1,or_false→Ea
open Option renaming getD_some→D7
namespace Go.Proofs.YtckmppkdpnhodaaGreatDoor
section
open Go.RowKit Go.Proofs Go.Shelf
attribute [local go_sem] Oper.semAt_some
variable {W w w1 w2:World} {b0 b1 b2 b3:Nat} {pre:List En} {x:En}
def Rc.val(r:Rc):Value:=yZ r.a r.b r.c r.d r.e
def bV(k:Kd)(pre:List En)(s:List UInt8):Option Rc:=pre.foldl (fun acc x=>if x.c.k=k∧x.c.word.data.toList=s then some ((acc.getD Rc.zero).join x.ah) else acc) none
def bK(pre:List En):Rc:=pre.foldl (fun m x=>if x.c.k=.closeWait then m.join x.ah else m) Rc.zero
theorem kC(k:Kd)(pre:List En)(x:En)(s:List UInt8):bV k (pre++[x]) s=if x.c.k=k∧x.c.word.data.toList=s then some (((bV k pre s).getD Rc.zero).join x.ah) else bV k pre s:=by simp[bV]
theorem eV(pre:List En)(x:En):bK (pre++[x])=if x.c.k=.closeWait then(bK pre).join x.ah else bK pre:=by simp[bK]
def bx(k:Kd)(pre:List En):List UInt8→Option Value:=fun s=>(bV k pre s).map Rc.val
theorem dw(k:Kd)(pre:List En)(x:En)(h:x.c.k≠k):bx k (pre++[x])=bx k pre:=by
 funext s;simp[bx,kC,h]
theorem mB(k:Kd)(pre:List En)(x:En)(h:x.c.k=k):bx k (pre++[x])=iP (bx k pre) x.c.word.data.toList (((bV k pre x.c.word.data.toList).getD Rc.zero).join x.ah).val:=by
 funext s
 simp only[bx,kC,iP,h,true_and];by_cases e:s=x.c.word.data.toList
 ·subst e;simp
 rw[if_neg (fun e'=>e e'.symm),if_neg e]
theorem gG(k:Kd)(pre:List En)(s:List UInt8):((bx k pre s).getD (.agg #[.int .i64 0,.int .i64 0,.int .i64 0,.int .i64 0,.int .i64 0]))=((bV k pre s).getD Rc.zero).val:=by
 cases h:bV k pre s with
 |none=>simp[bx,h,Rc.val,yZ,Rc.zero]
 |some m=>simp[bx,h]
theorem vV(a b:Rc)(W:World):Calls Tryz.prog 129 #[.agg #[.int .i64 (a.a:Int),.int .i64 (a.b:Int),.int .i64 (a.c:Int),.int .i64 (a.d:Int),.int .i64 (a.e:Int)],.agg #[.int .i64 (b.a:Int),.int .i64 (b.b:Int),.int .i64 (b.c:Int),.int .i64 (b.d:Int),.int .i64 (b.e:Int)]] W fun e w' =>
  e=.returned (a.join b).val∧Below W.heap.size W w':=vU a.a a.b a.c a.d a.e b.a b.b b.c b.d b.e W
def cQ(b1 b2:Nat)(m:Rc):Array Value:=#[.map (some b1),.map (some b2),.int .i64 (m.a:Int),.int .i64 (m.b:Int),.int .i64 (m.c:Int),.int .i64 (m.d:Int),.int .i64 (m.e:Int)]
structure fl(b0 b1 b2 b3:Nat)(w:World)(pre:List En)(W:World):Prop where
 res:W.heap[b0]?=some (.cells #[.map none,.map none,.int .i64 0,.int .i64 0,.int .i64 0,.int .i64 0,.int .i64 0] 178 (0,0))
 own:W.heap[b3]?=some (.cells (cQ b1 b2 (bK pre)) 178 (0,0))
 m1:bh W b1 pre.length (bx .listen pre)
 m2:bh W b2 pre.length (bx .finWait pre)
 bel:Below w.heap.size w W
theorem fl.from{B:Nat}(h0:b0<B)(h1:b1<B)(h2:b2<B)(h3:b3<B)(hw:w.heap.size≤B):OwnFrom B (fl b0 b1 b2 b3 w):=fun s W W' row hs hg hr=>by
 have k:∀b,b<B→b<W.heap.size→W'.heap[b]?=W.heap[b]?:=fun b hb hl=>hg.block b hl (fun e=>by have:=(hr b e.symm).1;omega)
 refine⟨(k b0 h0 (Cn.1 hs.res).1).trans hs.res,(k b3 h3 (Cn.1 hs.own).1).trans hs.own,hs.m1.same (k b1 h1 hs.m1.lt),hs.m2.same (k b2 h2 hs.m2.lt),?_⟩;exact hs.bel.grown hg hs.bel.size (fun r e=>CC hw (hr r e).1)
theorem fl.below{b0 b1 b2 b3:Nat}{w:World}{pre:List En}{W W':World}(hs:fl b0 b1 b2 b3 w pre W)(hb:Below W.heap.size W W'):fl b0 b1 b2 b3 w pre W':=⟨(hb.block _ (Cn.1 hs.res).1).trans hs.res,(hb.block _ (Cn.1 hs.own).1).trans hs.own,hs.m1.below hb,hs.m2.below hb,hs.bel.trans (hb.mono hs.bel.size)⟩
theorem fl.BS(hs:fl b0 (b0+1) (b0+1+1) (b0+1+1+1) w pre W)(hw:w.heap.size=b0)(hb:Below W.heap.size W w1)(hg:w1.grownBy w2 (some (b0+1)))(hm:bh w2 (b0+1) (pre.length+1) (bx .listen (pre++[x])))(h2:bx .finWait (pre++[x])=bx .finWait pre)(h3:bK (pre++[x])=bK pre):fl b0 (b0+1) (b0+1+1) (b0+1+1+1) w (pre++[x]) w2:=by
 have h1:=hs.below hb;have k:∀b,b≠b0+1→b<w1.heap.size→w2.heap[b]?=w1.heap[b]?:=fun b hb hl=>hg.block b hl (fun e=>hb (by cases e;rfl))
 refine⟨(k _ (by omega) (Cn.1 h1.res).1).trans h1.res,?_,by rw[Cz];exact hm,?_,h1.bel.grown hg h1.bel.size (fun r e=>by cases e;omega)⟩
 ·rw[h3];exact(k _ (by omega) (Cn.1 h1.own).1).trans h1.own
 rw[h2,Cz];exact(h1.m2.same (k _ (by omega) h1.m2.lt)).mono (by simp)
theorem fl.BR(hs:fl b0 (b0+1) (b0+1+1) (b0+1+1+1) w pre W)(hw:w.heap.size=b0)(hb:Below W.heap.size W w1)(hg:w1.grownBy w2 (some (b0+1+1)))(hm:bh w2 (b0+1+1) (pre.length+1) (bx .finWait (pre++[x])))(h2:bx .listen (pre++[x])=bx .listen pre)(h3:bK (pre++[x])=bK pre):fl b0 (b0+1) (b0+1+1) (b0+1+1+1) w (pre++[x]) w2:=by
 have h1:=hs.below hb;have k:∀b,b≠b0+1+1→b<w1.heap.size→w2.heap[b]?=w1.heap[b]?:=fun b hb hl=>hg.block b hl (fun e=>hb (by cases e;rfl))
 refine⟨(k _ (by omega) (Cn.1 h1.res).1).trans h1.res,?_,?_,by rw[Cz];exact hm,h1.bel.grown hg h1.bel.size (fun r e=>by cases e;omega)⟩
 ·rw[h3];exact(k _ (by omega) (Cn.1 h1.own).1).trans h1.own
 rw[h2,Cz];exact(h1.m1.same (k _ (by omega) h1.m1.lt)).mono (by simp)
theorem fl.BW(hs:fl b0 (b0+1) (b0+1+1) (b0+1+1+1) w pre W)(hw:w.heap.size=b0)(hb:Below W.heap.size W w1)(h1:bx .listen (pre++[x])=bx .listen pre)(h2:bx .finWait (pre++[x])=bx .finWait pre){m:Rc}(h3:bK (pre++[x])=m):fl b0 (b0+1) (b0+1+1) (b0+1+1+1) w (pre++[x]) (((((w1.setCell ⟨b0+1+1+1,2,none⟩ (.int .i64 (m.a:Int))).setCell ⟨b0+1+1+1,3,none⟩ (.int .i64 (m.b:Int))).setCell ⟨b0+1+1+1,4,none⟩ (.int .i64 (m.c:Int))).setCell ⟨b0+1+1+1,5,none⟩ (.int .i64 (m.d:Int))).setCell ⟨b0+1+1+1,6,none⟩ (.int .i64 (m.e:Int))):=by
 have hw1:=hs.below hb;have k:∀b,b≠b0+1+1+1→(((((w1.setCell ⟨b0+1+1+1,2,none⟩ (.int .i64 (m.a:Int))).setCell ⟨b0+1+1+1,3,none⟩ (.int .i64 (m.b:Int))).setCell ⟨b0+1+1+1,4,none⟩ (.int .i64 (m.c:Int))).setCell ⟨b0+1+1+1,5,none⟩ (.int .i64 (m.d:Int))).setCell ⟨b0+1+1+1,6,none⟩ (.int .i64 (m.e:Int))).heap[b]?=w1.heap[b]?:=fun b hne=>by
  rw[CD _ _ _ _ hne,CD _ _ _ _ hne,CD _ _ _ _ hne,CD _ _ _ _ hne,CD _ _ _ _ hne]
 refine⟨(k _ (by omega)).trans hw1.res,?_,?_,?_,?_⟩
 ·rw[ae (ae (ae (ae (ae hw1.own _) _) _) _) _,h3];simp[cQ]
 ·rw[h1,Cz];exact(hw1.m1.same (k _ (by omega))).mono (by simp)
 ·rw[h2,Cz];exact(hw1.m2.same (k _ (by omega))).mono (by simp)
 exact((((hw1.bel.setCell (by show w.heap.size≤b0+1+1+1;omega) _).setCell (by show w.heap.size≤b0+1+1+1;omega) _).setCell (by show w.heap.size≤b0+1+1+1;omega) _).setCell (by show w.heap.size≤b0+1+1+1;omega) _).setCell (by show w.heap.size≤b0+1+1+1;omega) _
theorem fl.still(hs:fl b0 b1 b2 b3 w pre W)(h1:bx .listen (pre++[x])=bx .listen pre)(h2:bx .finWait (pre++[x])=bx .finWait pre)(h3:bK (pre++[x])=bK pre):fl b0 b1 b2 b3 w (pre++[x]) W:=⟨hs.res,by rw[h3];exact hs.own,by rw[h1,Cz];exact hs.m1.mono (by simp),by rw[h2,Cz];exact hs.m2.mono (by simp),hs.bel⟩
theorem xC(Bs:Nat)(ev:Value)(log:List En)(h8:log.length≤4294967296)(w:World)(hBs:w.cell? ⟨Bs,0,none⟩=some ev)(hev:∀b,ev.ownBlock=some b→b<w.heap.size)(hrow:w.ownsRow 0 122 10 ev log.length (aP log)):CallsIn Fence.wide 6 Tryz.prog 90 #[.func (.func 131) #[] #[.pointer (some ⟨Bs,0,none⟩)]] w fun e W' =>
   ∃b1 b2,e=.returned (.agg (cQ b1 b2 (bK log)))∧w.heap.size≤b1∧b1<b2∧b2<W'.heap.size∧bh W' b1 log.length (bx .listen log)∧bh W' b2 log.length (bx .finWait log)∧Below w.heap.size w W':=by
 have hro:Fence.wide.round=none:=rfl;have h1:1≤6:=by omega
 have hmm:=@run_makeMap Tryz.prog;refine callsIn_of_wp_marks Tryz.func90 rfl trivial ?_ hro;simp only[Tryz.ntmps90,List.size_toArray,CR,Dh,DQ,Nat.reduceSub,Array.replicate_succ,Array.replicate_zero,List.push_toArray,List.append_toArray,DC,List.cons_append]
 gi_wp2
 obtain⟨W0,hW0⟩:∃W0,(((w.alloc (.cells #[.map none,.map none,.int .i64 0,.int .i64 0,.int .i64 0,.int .i64 0,.int .i64 0] 178)).alloc (.map #[] 0)).alloc (.map #[] 0)).alloc (.cells #[.map (some (w.heap.size+1)),.map (some (w.heap.size+1+1)),.int .i64 0,.int .i64 0,.int .i64 0,.int .i64 0,.int .i64 0] 178)=W0:=⟨_,rfl⟩
 have hsz:W0.heap.size=w.heap.size+4:=by rw[←hW0];simp
 have hB0:Below w.heap.size w W0:=by rw[←hW0];exact((((Ck _ w).alloc (Cl _) _).alloc (by simp) _).alloc (by simp;omega) _).alloc (by simp;omega) _
 have hI0:fl w.heap.size (w.heap.size+1) (w.heap.size+1+1) (w.heap.size+1+1+1) w [] W0:=by
  refine⟨?_,?_,?_,?_,hB0⟩
  ·rw[←hW0];exact(CF _ _ _ (by simp;omega)).trans ((CF _ _ _ (by simp;omega)).trans ((CF _ _ _ (by simp)).trans (heap_alloc_new w _)))
  ·rw[←hW0];have:=heap_alloc_new (((w.alloc (.cells #[.map none,.map none,.int .i64 0,.int .i64 0,.int .i64 0,.int .i64 0,.int .i64 0] 178)).alloc (.map #[] 0)).alloc (.map #[] 0)) (.cells #[.map (some (w.heap.size+1)),.map (some (w.heap.size+1+1)),.int .i64 0,.int .i64 0,.int .i64 0,.int .i64 0,.int .i64 0] 178);simp only[Dg]at this;simpa[cQ,bK,Rc.zero] using this
  ·have:=bh.made (w.alloc (.cells #[.map none,.map none,.int .i64 0,.int .i64 0,.int .i64 0,.int .i64 0,.int .i64 0] 178));simp only[Dg]at this;rw[←hW0];exact this.same ((CF _ _ _ (by simp)).trans (CF _ _ _ (by simp)))
  have:=bh.made ((w.alloc (.cells #[.map none,.map none,.int .i64 0,.int .i64 0,.int .i64 0,.int .i64 0,.int .i64 0] 178)).alloc (.map #[] 0));simp only[Dg]at this;rw[←hW0];exact this.same (CF _ _ _ (by simp))
 have hBs0:W0.cell? ⟨Bs,0,none⟩=some ev:=aa hB0 hBs;have hrow0:W0.ownsRow 0 122 10 ev log.length (aP log):=(an.of_below (S:=[]) hB0).owns hrow (by simp);have hBl:Bs<w.heap.size:=Cy w _ hBs;rw[hW0];clear hW0;generalize hb0:w.heap.size=b0 at *
 refine wpIn_rangeFunc_ownH hro h1 (gf:=131) (lb:=#[.pointer (some ⟨Bs,0,none⟩)]) rfl trivial (enters_of Tryz.func131 (by kernel_rfl) rfl) (sI (6-1) (by omega) Bs b0 ev log h8 W0 (by omega) (by omega) hBs0 hev hrow0) belowK_t (belowK_b (by omega)) (Ck _ _) (fun _=>rfl) (fl b0 (b0+1) (b0+1+1) (b0+1+1+1) w) (fun _ _ _=>False) (fl.from (by omega) (by omega) (by omega) (by omega) (by omega)) (fun _ _ _ _ _ hs _ _=>hs) hI0 (fun x a' W=>∃Bx,W0.heap.size≤Bx∧W.heap[Bx]?=some (.cells #[.int .i64 (x.org:Int),.int .i64 (x.seq:Int),.int .i64 (x.ah.a:Int),.int .i64 (x.ah.b:Int),.int .i64 (x.ah.c:Int),.int .i64 (x.ah.d:Int),.int .i64 (x.ah.e:Int),.int .i64 (x.c.k.num:Int),.string x.c.word,.int .i64 (x.c.count:Int)] 122 (0,0))∧a'={tmps:=#[.func (.func 131) #[] #[.pointer (some ⟨Bs,0,none⟩)],undef,.pointer (some ⟨b0,0,none⟩),.pointer (some ⟨b0+1+1+1,0,none⟩),.pointer (some ⟨Bx,0,none⟩),undef,.map (some (b0+1)),.map (some (b0+1+1)),.agg #[.map (some (b0+1)),.map (some (b0+1+1)),.int .i64 0,.int .i64 0,.int .i64 0,.int .i64 0,.int .i64 0],.func (.func 131) #[] #[.pointer (some ⟨Bs,0,none⟩)],x.val,undef,undef,undef,undef,undef,undef,undef,undef,undef,undef,undef,undef,undef,undef,undef,undef,undef,undef,undef,undef,undef,undef,undef,undef,undef,undef,undef,undef,undef,undef,undef,undef,undef,undef,undef,undef,undef,undef,undef],defers:=[]})
  ?hAx ?assign ?body ?done ?stop
 case hAx =>
  rintro x a' _ W W' row ⟨Bx,q1,q2,q3⟩ hg hr
  refine⟨Bx,q1,(hg.block Bx (Cn.1 q2).1 fun e=>?_).trans q2,q3⟩;obtain⟨-,o,ho,hc⟩:=hr Bx e.symm;rw[q2]at ho
  cases ho;cases hc
 case assign =>
  intro l pre x W K hI hK;simp only[En.val]
  gi_wp2
  have h3l:=(Cn.1 hI.own).1;exact hK _ _ ((KeepsOthers.alloc _ _).from _) ((Ck _ W).alloc (by omega) _) (hI.below ((Ck _ W).alloc (Cl _) _)) ⟨W.heap.size,by omega,heap_alloc_new W _,rfl⟩
 case body =>
  rintro l pre x a' W hl ⟨r,hr⟩ hI ⟨Bx,q1,q2,rfl⟩ hlt
  have hd:1≤6-1-1:=by omega
  have hmx:Tryz.prog.follows .mixedOrders=true:=by kernel_rfl
  have c2:W.cell? ⟨Bx,2,none⟩=some (.int .i64 (x.ah.a:Int)):=cell_of_heap q2 _;have c3:W.cell? ⟨Bx,3,none⟩=some (.int .i64 (x.ah.b:Int)):=cell_of_heap q2 _;have c4:W.cell? ⟨Bx,4,none⟩=some (.int .i64 (x.ah.c:Int)):=cell_of_heap q2 _;have c5:W.cell? ⟨Bx,5,none⟩=some (.int .i64 (x.ah.d:Int)):=cell_of_heap q2 _;have c6:W.cell? ⟨Bx,6,none⟩=some (.int .i64 (x.ah.e:Int)):=cell_of_heap q2 _;have c7:W.cell? ⟨Bx,7,none⟩=some (.int .i64 (x.c.k.num:Int)):=cell_of_heap q2 _;have c8:W.cell? ⟨Bx,8,none⟩=some (.string x.c.word):=cell_of_heap q2 _;have d0:W.cell? ⟨b0+1+1+1,0,none⟩=some (.map (some (b0+1))):=cell_of_heap hI.own _;have d1:W.cell? ⟨b0+1+1+1,1,none⟩=some (.map (some (b0+1+1))):=cell_of_heap hI.own _;have hw8:x.c.word.size≤maxLen:=by
   have:=x.hc.word;simp only[bd,C1,decide_eq_true_eq]at this;unfold maxLen;omega
  cases hk:x.c.k with
  |closed =>
   rw[hk]at c7;simp only[Kd.num]at c7;have HI:Hid (fl b0 (b0+1) (b0+1+1) (b0+1+1+1) w (pre++[x]) W):=hI.still (dw .listen pre x (by rw[hk];decide)) (dw .finWait pre x (by rw[hk];decide)) (by rw[eV,if_neg (by rw[hk];decide)]);clear hI hrow hrow0 hBs hBs0 hw8 hmm hev
   gi_wp2
   exact⟨KeepsFrom.refl _ _,Ck _ _,HI.out⟩
  |established =>
   rw[hk]at c7;simp only[Kd.num]at c7;have HI:Hid (fl b0 (b0+1) (b0+1+1) (b0+1+1+1) w (pre++[x]) W):=hI.still (dw .listen pre x (by rw[hk];decide)) (dw .finWait pre x (by rw[hk];decide)) (by rw[eV,if_neg (by rw[hk];decide)]);clear hI hrow hrow0 hBs hBs0 hw8 hmm hev
   gi_wp2
   exact⟨KeepsFrom.refl _ _,Ck _ _,HI.out⟩
  |listen =>
   rw[hk]at c7;simp only[Kd.num]at c7;have hlk:(Instr.lookup 176 (.map (some (b0+1))) (.string x.c.word) false).run Tryz.prog W.drew=.ok (.agg #[.int .i64 (((bV .listen pre x.c.word.data.toList).getD Rc.zero).a:Int),.int .i64 (((bV .listen pre x.c.word.data.toList).getD Rc.zero).b:Int),.int .i64 (((bV .listen pre x.c.word.data.toList).getD Rc.zero).c:Int),.int .i64 (((bV .listen pre x.c.word.data.toList).getD Rc.zero).d:Int),.int .i64 (((bV .listen pre x.c.word.data.toList).getD Rc.zero).e:Int)]) W.drew:=by
    have:=(hI.m1.same (w':=W.drew) rfl).look Tryz.underlying176 (Tryz.zeroValue104 W.drew) x.c.word hw8;rw[this];have e:=gG .listen pre x.c.word.data.toList;simp only[Rc.val,yZ]at e;rw[←e]
   have HF:Hid (bx .listen (pre++[x])=iP (bx .listen pre) x.c.word.data.toList ((((bV .listen pre x.c.word.data.toList).getD Rc.zero).join x.ah).val)):=mB .listen pre x hk;have HF2:Hid (bx .finWait (pre++[x])=bx .finWait pre):=dw .finWait pre x (by rw[hk];decide);have HF3:Hid (bK (pre++[x])=bK pre):=by show _=_;rw[eV,if_neg (by rw[hk];decide)]
   have HI:Hid (fl b0 (b0+1) (b0+1+1) (b0+1+1+1) w pre W):=hI;have HW8:Hid (x.c.word.size≤maxLen):=hw8;have hlp:pre.length<maxLen:=by unfold maxLen;omega
   have HJ:Hid (∀W',Calls Tryz.prog 129 #[.agg #[.int .i64 (((bV .listen pre x.c.word.data.toList).getD Rc.zero).a:Int),.int .i64 (((bV .listen pre x.c.word.data.toList).getD Rc.zero).b:Int),.int .i64 (((bV .listen pre x.c.word.data.toList).getD Rc.zero).c:Int),.int .i64 (((bV .listen pre x.c.word.data.toList).getD Rc.zero).d:Int),.int .i64 (((bV .listen pre x.c.word.data.toList).getD Rc.zero).e:Int)],.agg #[.int .i64 (x.ah.a:Int),.int .i64 (x.ah.b:Int),.int .i64 (x.ah.c:Int),.int .i64 (x.ah.d:Int),.int .i64 (x.ah.e:Int)]] W' fun e w'=>e=.returned ((((bV .listen pre x.c.word.data.toList).getD Rc.zero).join x.ah).val)∧Below W'.heap.size W' w'):=fun W'=>vV _ _ W'
   have HL:Hid (∀w1,Below W.heap.size W w1→∃w2,(Instr.mapUpdate 176 (.map (some (b0+1))) (.string x.c.word) ((((bV .listen pre x.c.word.data.toList).getD Rc.zero).join x.ah).val)).run Tryz.prog w1=.ok () w2∧bh w2 (b0+1) (pre.length+1) (bx .listen (pre++[x]))∧w1.grownBy w2 (some (b0+1))):=fun w1 hb=>by
    rw[HF.out];exact(HI.out.m1.below hb).put Tryz.underlying176 hlp x.c.word HW8.out _
   clear hI hrow hrow0 hBs hBs0 hw8 hmm hev;generalize (bV .listen pre x.c.word.data.toList).getD Rc.zero=m0 at *
   gi_wp2
   have hS:(fun w':World=>w'.cell? ⟨b0+1+1+1,0,none⟩=some (.map (some (b0+1)))∧w'.cell? ⟨Bx,2,none⟩=some (.int .i64 (x.ah.a:Int))∧w'.cell? ⟨Bx,3,none⟩=some (.int .i64 (x.ah.b:Int))∧w'.cell? ⟨Bx,4,none⟩=some (.int .i64 (x.ah.c:Int))∧w'.cell? ⟨Bx,5,none⟩=some (.int .i64 (x.ah.d:Int))∧w'.cell? ⟨Bx,6,none⟩=some (.int .i64 (x.ah.e:Int))) W.drew:=⟨d0,c2,c3,c4,c5,c6⟩;refine iU (S:=fun w':World=>w'.cell? ⟨b0+1+1+1,0,none⟩=some (.map (some (b0+1)))∧w'.cell? ⟨Bx,2,none⟩=some (.int .i64 (x.ah.a:Int))∧w'.cell? ⟨Bx,3,none⟩=some (.int .i64 (x.ah.b:Int))∧w'.cell? ⟨Bx,4,none⟩=some (.int .i64 (x.ah.c:Int))∧w'.cell? ⟨Bx,5,none⟩=some (.int .i64 (x.ah.d:Int))∧w'.cell? ⟨Bx,6,none⟩=some (.int .i64 (x.ah.e:Int))) hmx (by rintro ⟨a,w,h⟩;exact h) (by kernel_rfl) ?_
   refine wpAnyH_take (i:=0) (v:=(.pointer (some ⟨b0+1+1+1,0,none⟩))) rfl (by kernel_rfl) (by kernel_rfl) (by kernel_rfl) (fun _ _ _ h=>h) (Or.inl ⟨by rfl,?_⟩) hS ?_
   ·intro w hSw;obtain⟨s0,s2,s3,s4,s5,s6⟩:=hSw;go_simp
   dsimp only[Ct,Cu,Cv];simp only[Act.put,Cw,Cs,Cx];refine wpAnyH_take (i:=1) (v:=(.map (some (b0+1)))) rfl (by kernel_rfl) (by kernel_rfl) (by kernel_rfl) (fun _ _ _ h=>h) (Or.inl ⟨by rfl,?_⟩) hS ?_
   ·intro w hSw;obtain⟨s0,s2,s3,s4,s5,s6⟩:=hSw;go_simp
   dsimp only[Ct,Cu,Cv];simp only[Act.put,Cw,Cs,Cx];refine wpAnyH_take (i:=2) (v:=(.string x.c.word)) rfl (by kernel_rfl) (by kernel_rfl) (by kernel_rfl) (fun _ _ _ h=>h) (Or.inl ⟨by rfl,?_⟩) hS ?_
   ·intro w hSw;obtain⟨s0,s2,s3,s4,s5,s6⟩:=hSw;go_simp
   dsimp only[Ct,Cu,Cv];simp only[Act.put,Cw,Cs,Cx];refine wpAnyH_take (i:=3) (v:=(.pointer (some ⟨b0+1+1+1,0,none⟩))) rfl (by kernel_rfl) (by kernel_rfl) (by kernel_rfl) (fun _ _ _ h=>h) (Or.inl ⟨by rfl,?_⟩) hS ?_
   ·intro w hSw;obtain⟨s0,s2,s3,s4,s5,s6⟩:=hSw;go_simp
   dsimp only[Ct,Cu,Cv];simp only[Act.put,Cw,Cs,Cx];refine wpAnyH_take (i:=4) (v:=(.map (some (b0+1)))) rfl (by kernel_rfl) (by kernel_rfl) (by kernel_rfl) (fun _ _ _ h=>h) (Or.inl ⟨by rfl,?_⟩) hS ?_
   ·intro w hSw;obtain⟨s0,s2,s3,s4,s5,s6⟩:=hSw;go_simp
   dsimp only[Ct,Cu,Cv];simp only[Act.put,Cw,Cs,Cx];refine wpAnyH_take (i:=5) (v:=(.string x.c.word)) rfl (by kernel_rfl) (by kernel_rfl) (by kernel_rfl) (fun _ _ _ h=>h) (Or.inl ⟨by rfl,?_⟩) hS ?_
   ·intro w hSw;obtain⟨s0,s2,s3,s4,s5,s6⟩:=hSw;go_simp
   dsimp only[Ct,Cu,Cv];simp only[Act.put,Cw,Cs,Cx];refine wpAnyH_take (i:=7) (v:=(.pointer (some ⟨Bx,2,none⟩))) rfl (by kernel_rfl) (by kernel_rfl) (by kernel_rfl) (fun _ _ _ h=>h) (Or.inl ⟨by rfl,?_⟩) hS ?_
   ·intro w hSw;obtain⟨s0,s2,s3,s4,s5,s6⟩:=hSw;go_simp
   dsimp only[Ct,Cu,Cv];simp only[Act.put,Cw,Cs,Cx];refine wpAnyH_take (i:=8) (v:=(.agg #[.int .i64 (x.ah.a:Int),.int .i64 (x.ah.b:Int),.int .i64 (x.ah.c:Int),.int .i64 (x.ah.d:Int),.int .i64 (x.ah.e:Int)])) rfl (by kernel_rfl) (by kernel_rfl) (by kernel_rfl) (fun _ _ _ h=>h) (Or.inl ⟨by rfl,?_⟩) hS ?_
   ·intro w hSw;obtain⟨s0,s2,s3,s4,s5,s6⟩:=hSw;go_simp
   dsimp only[Ct,Cu,Cv];simp only[Act.put,Cw,Cs,Cx];refine wpAnyH_ready (rs:=[6]) (by kernel_rfl) (by simp) ?_;refine AllReadyH.cons rfl (fun K hK=>?_) AllReadyH.nil;rw[if_pos (by rfl)];dsimp only[Ct,Cu,Cv];go_simp
   refine hK.out _ _ hS (fun _=>?_);clear hK K
   try simp only[Act.put,Cw,Cs,Cx]
   refine wpAnyH_ready (rs:=[9]) (by kernel_rfl) (by simp) ?_;refine AllReadyH.cons rfl (fun K hK=>?_) AllReadyH.nil;rw[if_pos (by rfl)];dsimp only[Ct,Cu,Cv];go_simp
   refine(HJ.out _).mono ?_;rintro e w1 ⟨rfl,hb1⟩
   have hbw:Below W.heap.size W w1:=((Ck _ W).drew).trans hb1;obtain⟨w2,hup,hmp,hgr⟩:=HL.out w1 hbw;refine hK.out _ _ ⟨aa hbw d0,aa hbw c2,aa hbw c3,aa hbw c4,aa hbw c5,aa hbw c6⟩ (fun _=>?_);clear hK K
   try simp only[Act.put,Cw,Cs,Cx]
   refine wpAnyH_ready (rs:=[10]) (by kernel_rfl) (by simp) ?_;refine AllReadyH.cons rfl (fun K hK=>?_) AllReadyH.nil;rw[if_pos (by rfl)];dsimp only[Ct,Cu,Cv];go_simp
   have k2:∀{a:Addr} {v:Value},w1.cell? a=some v→a.block≠b0+1→w2.cell? a=some v:=fun {a v} hc hne=>(CE (hgr.block a.block (Cy w1 a hc) (fun e=>hne (Option.some.inj e)))).trans hc
   have hBx:Bx≠b0+1:=by omega
   refine hK.out _ _ ⟨k2 (aa hbw d0) (by first|(simp;done)|(simp;omega)),k2 (aa hbw c2) hBx,k2 (aa hbw c3) hBx,k2 (aa hbw c4) hBx,k2 (aa hbw c5) hBx,k2 (aa hbw c6) hBx⟩ (fun _=>?_);clear hK K;refine wpAnyH_done (by kernel_rfl) ?_ _
   gi_wp2
   have hbl:=HI.out.bel.size;exact⟨((eD hbw).from _).trans (KeepsFrom.of_grownBy hgr (fun j e=>by cases e;omega)),((hbw.mono (by omega))).trans ((Ck _ w1).grown hgr (by have:=hbw.size;omega) (fun r e=>by cases e;omega)),HI.out.BS hb0 hbw hgr hmp HF2.out HF3.out⟩
  |finWait =>
   rw[hk]at c7;simp only[Kd.num]at c7;have hlk:(Instr.lookup 176 (.map (some (b0+1+1))) (.string x.c.word) false).run Tryz.prog W.drew=.ok (.agg #[.int .i64 (((bV .finWait pre x.c.word.data.toList).getD Rc.zero).a:Int),.int .i64 (((bV .finWait pre x.c.word.data.toList).getD Rc.zero).b:Int),.int .i64 (((bV .finWait pre x.c.word.data.toList).getD Rc.zero).c:Int),.int .i64 (((bV .finWait pre x.c.word.data.toList).getD Rc.zero).d:Int),.int .i64 (((bV .finWait pre x.c.word.data.toList).getD Rc.zero).e:Int)]) W.drew:=by
    have:=(hI.m2.same (w':=W.drew) rfl).look Tryz.underlying176 (Tryz.zeroValue104 W.drew) x.c.word hw8;rw[this];have e:=gG .finWait pre x.c.word.data.toList;simp only[Rc.val,yZ]at e;rw[←e]
   have HF:Hid (bx .finWait (pre++[x])=iP (bx .finWait pre) x.c.word.data.toList ((((bV .finWait pre x.c.word.data.toList).getD Rc.zero).join x.ah).val)):=mB .finWait pre x hk;have HF2:Hid (bx .listen (pre++[x])=bx .listen pre):=dw .listen pre x (by rw[hk];decide);have HF3:Hid (bK (pre++[x])=bK pre):=by show _=_;rw[eV,if_neg (by rw[hk];decide)]
   have HI:Hid (fl b0 (b0+1) (b0+1+1) (b0+1+1+1) w pre W):=hI;have HW8:Hid (x.c.word.size≤maxLen):=hw8;have hlp:pre.length<maxLen:=by unfold maxLen;omega
   have HJ:Hid (∀W',Calls Tryz.prog 129 #[.agg #[.int .i64 (((bV .finWait pre x.c.word.data.toList).getD Rc.zero).a:Int),.int .i64 (((bV .finWait pre x.c.word.data.toList).getD Rc.zero).b:Int),.int .i64 (((bV .finWait pre x.c.word.data.toList).getD Rc.zero).c:Int),.int .i64 (((bV .finWait pre x.c.word.data.toList).getD Rc.zero).d:Int),.int .i64 (((bV .finWait pre x.c.word.data.toList).getD Rc.zero).e:Int)],.agg #[.int .i64 (x.ah.a:Int),.int .i64 (x.ah.b:Int),.int .i64 (x.ah.c:Int),.int .i64 (x.ah.d:Int),.int .i64 (x.ah.e:Int)]] W' fun e w'=>e=.returned ((((bV .finWait pre x.c.word.data.toList).getD Rc.zero).join x.ah).val)∧Below W'.heap.size W' w'):=fun W'=>vV _ _ W'
   have HL:Hid (∀w1,Below W.heap.size W w1→∃w2,(Instr.mapUpdate 176 (.map (some (b0+1+1))) (.string x.c.word) ((((bV .finWait pre x.c.word.data.toList).getD Rc.zero).join x.ah).val)).run Tryz.prog w1=.ok () w2∧bh w2 (b0+1+1) (pre.length+1) (bx .finWait (pre++[x]))∧w1.grownBy w2 (some (b0+1+1))):=fun w1 hb=>by
    rw[HF.out];exact(HI.out.m2.below hb).put Tryz.underlying176 hlp x.c.word HW8.out _
   clear hI hrow hrow0 hBs hBs0 hw8 hmm hev;generalize (bV .finWait pre x.c.word.data.toList).getD Rc.zero=m0 at *
   gi_wp2
   have hS:(fun w':World=>w'.cell? ⟨b0+1+1+1,1,none⟩=some (.map (some (b0+1+1)))∧w'.cell? ⟨Bx,2,none⟩=some (.int .i64 (x.ah.a:Int))∧w'.cell? ⟨Bx,3,none⟩=some (.int .i64 (x.ah.b:Int))∧w'.cell? ⟨Bx,4,none⟩=some (.int .i64 (x.ah.c:Int))∧w'.cell? ⟨Bx,5,none⟩=some (.int .i64 (x.ah.d:Int))∧w'.cell? ⟨Bx,6,none⟩=some (.int .i64 (x.ah.e:Int))) W.drew:=⟨d1,c2,c3,c4,c5,c6⟩;refine iU (S:=fun w':World=>w'.cell? ⟨b0+1+1+1,1,none⟩=some (.map (some (b0+1+1)))∧w'.cell? ⟨Bx,2,none⟩=some (.int .i64 (x.ah.a:Int))∧w'.cell? ⟨Bx,3,none⟩=some (.int .i64 (x.ah.b:Int))∧w'.cell? ⟨Bx,4,none⟩=some (.int .i64 (x.ah.c:Int))∧w'.cell? ⟨Bx,5,none⟩=some (.int .i64 (x.ah.d:Int))∧w'.cell? ⟨Bx,6,none⟩=some (.int .i64 (x.ah.e:Int))) hmx (by rintro ⟨a,w,h⟩;exact h) (by kernel_rfl) ?_
   refine wpAnyH_take (i:=0) (v:=(.pointer (some ⟨b0+1+1+1,1,none⟩))) rfl (by kernel_rfl) (by kernel_rfl) (by kernel_rfl) (fun _ _ _ h=>h) (Or.inl ⟨by rfl,?_⟩) hS ?_
   ·intro w hSw;obtain⟨s0,s2,s3,s4,s5,s6⟩:=hSw;go_simp
   dsimp only[Ct,Cu,Cv];simp only[Act.put,Cw,Cs,Cx];refine wpAnyH_take (i:=1) (v:=(.map (some (b0+1+1)))) rfl (by kernel_rfl) (by kernel_rfl) (by kernel_rfl) (fun _ _ _ h=>h) (Or.inl ⟨by rfl,?_⟩) hS ?_
   ·intro w hSw;obtain⟨s0,s2,s3,s4,s5,s6⟩:=hSw;go_simp
   dsimp only[Ct,Cu,Cv];simp only[Act.put,Cw,Cs,Cx];refine wpAnyH_take (i:=2) (v:=(.string x.c.word)) rfl (by kernel_rfl) (by kernel_rfl) (by kernel_rfl) (fun _ _ _ h=>h) (Or.inl ⟨by rfl,?_⟩) hS ?_
   ·intro w hSw;obtain⟨s0,s2,s3,s4,s5,s6⟩:=hSw;go_simp
   dsimp only[Ct,Cu,Cv];simp only[Act.put,Cw,Cs,Cx];refine wpAnyH_take (i:=3) (v:=(.pointer (some ⟨b0+1+1+1,1,none⟩))) rfl (by kernel_rfl) (by kernel_rfl) (by kernel_rfl) (fun _ _ _ h=>h) (Or.inl ⟨by rfl,?_⟩) hS ?_
   ·intro w hSw;obtain⟨s0,s2,s3,s4,s5,s6⟩:=hSw;go_simp
   dsimp only[Ct,Cu,Cv];simp only[Act.put,Cw,Cs,Cx];refine wpAnyH_take (i:=4) (v:=(.map (some (b0+1+1)))) rfl (by kernel_rfl) (by kernel_rfl) (by kernel_rfl) (fun _ _ _ h=>h) (Or.inl ⟨by rfl,?_⟩) hS ?_
   ·intro w hSw;obtain⟨s0,s2,s3,s4,s5,s6⟩:=hSw;go_simp
   dsimp only[Ct,Cu,Cv];simp only[Act.put,Cw,Cs,Cx];refine wpAnyH_take (i:=5) (v:=(.string x.c.word)) rfl (by kernel_rfl) (by kernel_rfl) (by kernel_rfl) (fun _ _ _ h=>h) (Or.inl ⟨by rfl,?_⟩) hS ?_
   ·intro w hSw;obtain⟨s0,s2,s3,s4,s5,s6⟩:=hSw;go_simp
   dsimp only[Ct,Cu,Cv];simp only[Act.put,Cw,Cs,Cx];refine wpAnyH_take (i:=7) (v:=(.pointer (some ⟨Bx,2,none⟩))) rfl (by kernel_rfl) (by kernel_rfl) (by kernel_rfl) (fun _ _ _ h=>h) (Or.inl ⟨by rfl,?_⟩) hS ?_
   ·intro w hSw;obtain⟨s0,s2,s3,s4,s5,s6⟩:=hSw;go_simp
   dsimp only[Ct,Cu,Cv];simp only[Act.put,Cw,Cs,Cx];refine wpAnyH_take (i:=8) (v:=(.agg #[.int .i64 (x.ah.a:Int),.int .i64 (x.ah.b:Int),.int .i64 (x.ah.c:Int),.int .i64 (x.ah.d:Int),.int .i64 (x.ah.e:Int)])) rfl (by kernel_rfl) (by kernel_rfl) (by kernel_rfl) (fun _ _ _ h=>h) (Or.inl ⟨by rfl,?_⟩) hS ?_
   ·intro w hSw;obtain⟨s0,s2,s3,s4,s5,s6⟩:=hSw;go_simp
   dsimp only[Ct,Cu,Cv];simp only[Act.put,Cw,Cs,Cx];refine wpAnyH_ready (rs:=[6]) (by kernel_rfl) (by simp) ?_;refine AllReadyH.cons rfl (fun K hK=>?_) AllReadyH.nil;rw[if_pos (by rfl)];dsimp only[Ct,Cu,Cv];go_simp
   refine hK.out _ _ hS (fun _=>?_);clear hK K
   try simp only[Act.put,Cw,Cs,Cx]
   refine wpAnyH_ready (rs:=[9]) (by kernel_rfl) (by simp) ?_;refine AllReadyH.cons rfl (fun K hK=>?_) AllReadyH.nil;rw[if_pos (by rfl)];dsimp only[Ct,Cu,Cv];go_simp
   refine(HJ.out _).mono ?_;rintro e w1 ⟨rfl,hb1⟩
   have hbw:Below W.heap.size W w1:=((Ck _ W).drew).trans hb1;obtain⟨w2,hup,hmp,hgr⟩:=HL.out w1 hbw;refine hK.out _ _ ⟨aa hbw d1,aa hbw c2,aa hbw c3,aa hbw c4,aa hbw c5,aa hbw c6⟩ (fun _=>?_);clear hK K
   try simp only[Act.put,Cw,Cs,Cx]
   refine wpAnyH_ready (rs:=[10]) (by kernel_rfl) (by simp) ?_;refine AllReadyH.cons rfl (fun K hK=>?_) AllReadyH.nil;rw[if_pos (by rfl)];dsimp only[Ct,Cu,Cv];go_simp
   have k2:∀{a:Addr} {v:Value},w1.cell? a=some v→a.block≠b0+1+1→w2.cell? a=some v:=fun {a v} hc hne=>(CE (hgr.block a.block (Cy w1 a hc) (fun e=>hne (Option.some.inj e)))).trans hc
   have hBx:Bx≠b0+1+1:=by omega
   refine hK.out _ _ ⟨k2 (aa hbw d1) (by first|(simp;done)|(simp;omega)),k2 (aa hbw c2) hBx,k2 (aa hbw c3) hBx,k2 (aa hbw c4) hBx,k2 (aa hbw c5) hBx,k2 (aa hbw c6) hBx⟩ (fun _=>?_);clear hK K;refine wpAnyH_done (by kernel_rfl) ?_ _
   gi_wp2
   have hbl:=HI.out.bel.size;exact⟨((eD hbw).from _).trans (KeepsFrom.of_grownBy hgr (fun j e=>by cases e;omega)),((hbw.mono (by omega))).trans ((Ck _ w1).grown hgr (by have:=hbw.size;omega) (fun r e=>by cases e;omega)),HI.out.BR hb0 hbw hgr hmp HF2.out HF3.out⟩
  |closeWait =>
   rw[hk]at c7;simp only[Kd.num]at c7;have HI:Hid (fl b0 (b0+1) (b0+1+1) (b0+1+1+1) w pre W):=hI;have d2:W.cell? ⟨b0+1+1+1,2,none⟩=some (.int .i64 ((bK pre).a:Int)):=cell_of_heap hI.own _;have d3:W.cell? ⟨b0+1+1+1,3,none⟩=some (.int .i64 ((bK pre).b:Int)):=cell_of_heap hI.own _;have d4:W.cell? ⟨b0+1+1+1,4,none⟩=some (.int .i64 ((bK pre).c:Int)):=cell_of_heap hI.own _;have d5:W.cell? ⟨b0+1+1+1,5,none⟩=some (.int .i64 ((bK pre).d:Int)):=cell_of_heap hI.own _;have d6:W.cell? ⟨b0+1+1+1,6,none⟩=some (.int .i64 ((bK pre).e:Int)):=cell_of_heap hI.own _;have HF1:Hid (bx .listen (pre++[x])=bx .listen pre):=dw .listen pre x (by rw[hk];decide);have HF2:Hid (bx .finWait (pre++[x])=bx .finWait pre):=dw .finWait pre x (by rw[hk];decide);have HF3:Hid (bK (pre++[x])=(bK pre).join x.ah):=by show _=_;rw[eV,if_pos hk]
   clear hI hrow hrow0 hBs hBs0 hw8 hmm hev;have HM:Hid (∃m0,bK pre=m0):=⟨_,rfl⟩;generalize hm0:bK pre=m0 at *;have HJ:Hid (∀W',Calls Tryz.prog 129 #[.agg #[.int .i64 (m0.a:Int),.int .i64 (m0.b:Int),.int .i64 (m0.c:Int),.int .i64 (m0.d:Int),.int .i64 (m0.e:Int)],.agg #[.int .i64 (x.ah.a:Int),.int .i64 (x.ah.b:Int),.int .i64 (x.ah.c:Int),.int .i64 (x.ah.d:Int),.int .i64 (x.ah.e:Int)]] W' fun e w'=>e=.returned (.agg #[.int .i64 ((m0.join x.ah).a:Int),.int .i64 ((m0.join x.ah).b:Int),.int .i64 ((m0.join x.ah).c:Int),.int .i64 ((m0.join x.ah).d:Int),.int .i64 ((m0.join x.ah).e:Int)])∧Below W'.heap.size W' w'):=fun W'=>vV _ _ W'
   have HW1:Hid (∀w1,Below W.heap.size W w1→∀o v,(cQ (b0+1) (b0+1+1) m0)[o]?=some v→w1.cell? ⟨b0+1+1+1,o,none⟩=some v∧w1.frozen? ⟨b0+1+1+1,o,none⟩=false):=fun w1 hb o v hv=>by
    have h:=(HI.out.below hb).own;rw[hm0]at h
    exact⟨by rw[cell_of_heap h];exact hv,frozen_of_heap h o⟩
   clear hm0
   gi_wp2_with (refine⟨trivial,?_⟩;gi_at_call 129;refine(CallsIn.inRound l (callsIn_wide.2 (HJ.out _))).mono ?_;rintro e w1 ⟨rfl,hbw⟩;obtain⟨p2,g2⟩:=HW1.out w1 hbw 2 _ rfl;obtain⟨p3,g3⟩:=HW1.out w1 hbw 3 _ rfl;obtain⟨p4,g4⟩:=HW1.out w1 hbw 4 _ rfl;obtain⟨p5,g5⟩:=HW1.out w1 hbw 5 _ rfl;obtain⟨p6,g6⟩:=HW1.out w1 hbw 6 _ rfl)
   have hbl:=HI.out.bel.size;exact⟨(((((((eD hbw).trans (KeepsOthers.setCell _ _ _)).trans (KeepsOthers.setCell _ _ _)).trans (KeepsOthers.setCell _ _ _)).trans (KeepsOthers.setCell _ _ _)).trans (KeepsOthers.setCell _ _ _)).from _),(((((hbw.mono (by omega)).setCell (by show b0≤b0+1+1+1;omega) _).setCell (by show b0≤b0+1+1+1;omega) _).setCell (by show b0≤b0+1+1+1;omega) _).setCell (by show b0≤b0+1+1+1;omega) _).setCell (by show b0≤b0+1+1+1;omega) _,HI.out.BW hb0 hbw HF1.out HF2.out HF3.out⟩
 case done =>
  rintro D ys W hD hys hI hK
  rw[hys]at hI;clear hys;have e0:W.cell? ⟨b0+1+1+1,0,none⟩=some (.map (some (b0+1))):=cell_of_heap hI.own _;have e1:W.cell? ⟨b0+1+1+1,1,none⟩=some (.map (some (b0+1+1))):=cell_of_heap hI.own _;generalize hm0:bK log=m0 at *;have ho:=hI.own;rw[hm0]at ho
  have e2:W.cell? ⟨b0+1+1+1,2,none⟩=some (.int .i64 (m0.a:Int)):=cell_of_heap ho _;have e3:W.cell? ⟨b0+1+1+1,3,none⟩=some (.int .i64 (m0.b:Int)):=cell_of_heap ho _;have e4:W.cell? ⟨b0+1+1+1,4,none⟩=some (.int .i64 (m0.c:Int)):=cell_of_heap ho _;have e5:W.cell? ⟨b0+1+1+1,5,none⟩=some (.int .i64 (m0.d:Int)):=cell_of_heap ho _;have e6:W.cell? ⟨b0+1+1+1,6,none⟩=some (.int .i64 (m0.e:Int)):=cell_of_heap ho _;have r0:W.cell? ⟨b0,0,none⟩=some (.map none):=cell_of_heap hI.res _;have r1:W.cell? ⟨b0,1,none⟩=some (.map none):=cell_of_heap hI.res _;have r2:W.cell? ⟨b0,2,none⟩=some (.int .i64 0):=cell_of_heap hI.res _;have r3:W.cell? ⟨b0,3,none⟩=some (.int .i64 0):=cell_of_heap hI.res _;have r4:W.cell? ⟨b0,4,none⟩=some (.int .i64 0):=cell_of_heap hI.res _;have r5:W.cell? ⟨b0,5,none⟩=some (.int .i64 0):=cell_of_heap hI.res _;have r6:W.cell? ⟨b0,6,none⟩=some (.int .i64 0):=cell_of_heap hI.res _
  have fz:∀o,W.frozen? ⟨b0,o,none⟩=false:=frozen_of_heap hI.res
  have HI:Hid (fl b0 (b0+1) (b0+1+1) (b0+1+1+1) w log W):=hI;clear hI ho hrow hrow0 hBs hBs0 hmm hev
  gi_wp2
  obtain⟨W7,hW7⟩:∃W7,((((((W.setCell ⟨b0,0,none⟩ (.map (some (b0+1)))).setCell ⟨b0,1,none⟩ (.map (some (b0+1+1)))).setCell ⟨b0,2,none⟩ (.int .i64 (m0.a:Int))).setCell ⟨b0,3,none⟩ (.int .i64 (m0.b:Int))).setCell ⟨b0,4,none⟩ (.int .i64 (m0.c:Int))).setCell ⟨b0,5,none⟩ (.int .i64 (m0.d:Int))).setCell ⟨b0,6,none⟩ (.int .i64 (m0.e:Int))=W7:=⟨_,rfl⟩
  have k7:∀b,b≠b0→W7.heap[b]?=W.heap[b]?:=fun b hne=>by
   rw[←hW7,CD _ _ _ _ hne,CD _ _ _ _ hne,CD _ _ _ _ hne,CD _ _ _ _ hne,CD _ _ _ _ hne,CD _ _ _ _ hne,CD _ _ _ _ hne]
  have h7:W7.heap[b0]?=some (.cells (cQ (b0+1) (b0+1+1) m0) 178 (0,0)):=by
   rw[←hW7,ae (ae (ae (ae (ae (ae (ae HI.out.res _) _) _) _) _) _) _];simp[cQ]
  have b7:Below w.heap.size w W7:=by
   rw[←hW7];exact((((((HI.out.bel.setCell (by show w.heap.size≤b0;omega) _).setCell (by show w.heap.size≤b0;omega) _).setCell (by show w.heap.size≤b0;omega) _).setCell (by show w.heap.size≤b0;omega) _).setCell (by show w.heap.size≤b0;omega) _).setCell (by show w.heap.size≤b0;omega) _).setCell (by show w.heap.size≤b0;omega) _
  have hD7:W7.heap[D]?=some (.deferred (some [])):=(k7 D (by omega)).trans hK;have hl7:(b0+1+1)<W7.heap.size:=by have:=(HI.out.m2.same (k7 _ (by omega))).lt;exact this
  rw[hW7];clear hW7 r0 r1 r2 r3 r4 r5 r6 e0 e1 e2 e3 e4 e5 e6 fz;refine⟨by simp,.inl ⟨_,_,rfl,run_takeDeferred hD7,?_⟩⟩;have k8:∀b,b≠D→(W7.putObj D (.deferred none)).heap[b]?=W7.heap[b]?:=fun b hne=>World.putObj_heap_other hne
  have b8:Below w.heap.size w (W7.putObj D (.deferred none)):=⟨b7.os,b7.tape,b7.output,by rw[World.putObj_size];exact b7.size,fun b hb=>(k8 b (by omega)).trans (b7.block b hb)⟩;have h8':=(k8 b0 (by omega)).trans h7;have l8:b0+1+1<(W7.putObj D (.deferred none)).heap.size:=by rw[World.putObj_size];exact hl7
  have m81:bh (W7.putObj D (.deferred none)) (b0+1) log.length (bx .listen log):=HI.out.m1.same ((k8 _ (by omega)).trans (k7 _ (by omega)));have m82:bh (W7.putObj D (.deferred none)) (b0+1+1) log.length (bx .finWait log):=HI.out.m2.same ((k8 _ (by omega)).trans (k7 _ (by omega)));generalize W7.putObj D (.deferred none)=W8 at *;have q0:W8.cell? ⟨b0,0,none⟩=some (.map (some (b0+1))):=cell_of_heap h8' _;have q1:W8.cell? ⟨b0,1,none⟩=some (.map (some (b0+1+1))):=cell_of_heap h8' _;have q2:W8.cell? ⟨b0,2,none⟩=some (.int .i64 (m0.a:Int)):=cell_of_heap h8' _;have q3:W8.cell? ⟨b0,3,none⟩=some (.int .i64 (m0.b:Int)):=cell_of_heap h8' _;have q4:W8.cell? ⟨b0,4,none⟩=some (.int .i64 (m0.c:Int)):=cell_of_heap h8' _;have q5:W8.cell? ⟨b0,5,none⟩=some (.int .i64 (m0.d:Int)):=cell_of_heap h8' _;have q6:W8.cell? ⟨b0,6,none⟩=some (.int .i64 (m0.e:Int)):=cell_of_heap h8' _;rw[hm0]
  refine⟨.agg (cQ (b0+1) (b0+1+1) m0),?_,b0+1,b0+1+1,rfl,by omega,by omega,l8,m81,m82,b8⟩;simp[results,Tryz.results90,go_sem,q0,q1,q2,q3,q4,q5,q6,cQ]
 case stop =>
  rintro D c pre W _ _ h _
  exact h.elim
end
section
open Go.RowKit Go.Proofs
attribute [local go_sem ↓] Go.wp_at_zero Go.wp_at_succ
def goneR(E:List En)(x:En):Rc:=match x.c.k with
 |.closed=>(bV .listen E x.c.word.data.toList).getD Rc.zero
 |.established=>(bV .finWait E x.c.word.data.toList).getD Rc.zero
 |.closeWait=>bK E
 |_=>Rc.zero
theorem kg(g:Rc)(o s:Nat)(ho:o<5)(w:World):Calls Tryz.prog 130 #[.agg #[.int .i64 (g.a:Int),.int .i64 (g.b:Int),.int .i64 (g.c:Int),.int .i64 (g.d:Int),.int .i64 (g.e:Int)],.int .i64 (o:Int),.int .i64 (s:Int)] w fun e w'=>e=.returned (.bool (decide (s≤g.get o)))∧Below w.heap.size w w':=oU g.a g.b g.c g.d g.e o s ho (g.get o) (by
  rcases(show o=0∨o=1∨o=2∨o=3∨o=4 by omega) with rfl|rfl|rfl|rfl|rfl <;> simp[Rc.get]) w
theorem ue(b1 b2 n1 n2:Nat)(E:List En)(x:En)(w:World)(h1:bh w b1 n1 (bx .listen E))(h2:bh w b2 n2 (bx .finWait E)):Calls Tryz.prog 91 #[.agg (cQ b1 b2 (bK E)),x.val] w fun e w'=>e=.returned (.bool (decide (x.seq≤(goneR E x).get x.org)))∧Below w.heap.size w w':=by
 have hw8:x.c.word.size≤maxLen:=by
  have:=x.hc.word;simp only[bd,C1,decide_eq_true_eq]at this;unfold maxLen;omega
 have L1:∀W,Below w.heap.size w W→(Instr.lookup 176 (.map (some b1)) (.string x.c.word) false).run Tryz.prog W=.ok (.agg #[.int .i64 (((bV .listen E x.c.word.data.toList).getD Rc.zero).a:Int),.int .i64 (((bV .listen E x.c.word.data.toList).getD Rc.zero).b:Int),.int .i64 (((bV .listen E x.c.word.data.toList).getD Rc.zero).c:Int),.int .i64 (((bV .listen E x.c.word.data.toList).getD Rc.zero).d:Int),.int .i64 (((bV .listen E x.c.word.data.toList).getD Rc.zero).e:Int)]) W:=fun W hW=>by
  rw[(h1.below hW).look Tryz.underlying176 (Tryz.zeroValue104 W) x.c.word hw8];have e:=gG .listen E x.c.word.data.toList;simp only[Rc.val,yZ]at e;rw[←e]
 have L2:∀W,Below w.heap.size w W→(Instr.lookup 176 (.map (some b2)) (.string x.c.word) false).run Tryz.prog W=.ok (.agg #[.int .i64 (((bV .finWait E x.c.word.data.toList).getD Rc.zero).a:Int),.int .i64 (((bV .finWait E x.c.word.data.toList).getD Rc.zero).b:Int),.int .i64 (((bV .finWait E x.c.word.data.toList).getD Rc.zero).c:Int),.int .i64 (((bV .finWait E x.c.word.data.toList).getD Rc.zero).d:Int),.int .i64 (((bV .finWait E x.c.word.data.toList).getD Rc.zero).e:Int)]) W:=fun W hW=>by
  rw[(h2.below hW).look Tryz.underlying176 (Tryz.zeroValue104 W) x.c.word hw8];have e:=gG .finWait E x.c.word.data.toList;simp only[Rc.val,yZ]at e;rw[←e]
 have HH:Hid (∀(g:Rc) W,Calls Tryz.prog 130 #[.agg #[.int .i64 (g.a:Int),.int .i64 (g.b:Int),.int .i64 (g.c:Int),.int .i64 (g.d:Int),.int .i64 (g.e:Int)],.int .i64 (x.org:Int),.int .i64 (x.seq:Int)] W fun e w'=>e=.returned (.bool (decide (x.seq≤g.get x.org)))∧Below W.heap.size W w'):=fun g W=>kg g x.org x.seq x.ho W
 have HZ:Hid (∀W,Calls Tryz.prog 130 #[.agg #[.int .i64 0,.int .i64 0,.int .i64 0,.int .i64 0,.int .i64 0],.int .i64 (x.org:Int),.int .i64 (x.seq:Int)] W fun e w'=>e=.returned (.bool (decide (x.seq≤Rc.zero.get x.org)))∧Below W.heap.size W w'):=fun W=>kg Rc.zero x.org x.seq x.ho W
 have hG:∀g,goneR E x=g→goneR E x=g:=fun _ h=>h
 have B3:∀o1 o2 o3,Below w.heap.size w (((w.alloc o1).alloc o2).alloc o3):=fun o1 o2 o3=>(((Ck _ w).alloc (Cl _) _).alloc (by simp) _).alloc (by simp;omega) _
 have HB3:Hid (∀o1 o2 o3,Below w.heap.size w (((w.alloc o1).alloc o2).alloc o3)):=B3;clear B3 h1 h2 hw8;simp only[En.val,cQ];cases hk:x.c.k with
 |closed =>
  have hg:goneR E x=(bV .listen E x.c.word.data.toList).getD Rc.zero:=by simp[goneR,hk]
  rw[hg];have l3:=fun o1 o2 o3=>L1 _ (HB3.out o1 o2 o3)
  clear L1 L2 hG hg;generalize (bV .listen E x.c.word.data.toList).getD Rc.zero=g at *;simp only[Kd.num];go_enter Tryz.func91,Tryz.ntmps91
  go_wp2_with (go_at_call 130;refine(HH.out g _).mono ?_;rintro e w1 ⟨rfl,hb1⟩)
  have HB:=(HB3.out _ _ _).trans (hb1.mono (HB3.out _ _ _).size);clear HB3;go_ret
  exact⟨rfl,HB⟩
 |established =>
  have hg:goneR E x=(bV .finWait E x.c.word.data.toList).getD Rc.zero:=by simp[goneR,hk]
  rw[hg];have l3:=fun o1 o2 o3=>L2 _ (HB3.out o1 o2 o3)
  clear L1 L2 hG hg;generalize (bV .finWait E x.c.word.data.toList).getD Rc.zero=g at *;simp only[Kd.num];go_enter Tryz.func91,Tryz.ntmps91
  go_wp2_with (go_at_call 130;refine(HH.out g _).mono ?_;rintro e w1 ⟨rfl,hb1⟩)
  have HB:=(HB3.out _ _ _).trans (hb1.mono (HB3.out _ _ _).size);clear HB3;go_ret
  exact⟨rfl,HB⟩
 |closeWait =>
  have hg:goneR E x=bK E:=by simp[goneR,hk]
  rw[hg];clear L1 L2 hG hg;generalize bK E=g at *;simp only[Kd.num];go_enter Tryz.func91,Tryz.ntmps91
  go_wp2_with (go_at_call 130;refine(HH.out g _).mono ?_;rintro e w1 ⟨rfl,hb1⟩)
  have HB:=(HB3.out _ _ _).trans (hb1.mono (HB3.out _ _ _).size);clear HB3;go_ret
  exact⟨rfl,HB⟩
 |listen =>
  have hg:goneR E x=Rc.zero:=by simp[goneR,hk]
  rw[hg];clear L1 L2 hG hg;generalize decide (x.seq≤Rc.zero.get x.org)=res at *;simp only[Kd.num];go_enter Tryz.func91,Tryz.ntmps91
  go_wp2_with (go_at_call 130;refine(HZ.out _).mono ?_;rintro e w1 ⟨rfl,hb1⟩)
  have HB:=(HB3.out _ _ _).trans (hb1.mono (HB3.out _ _ _).size);clear HB3;go_ret
  exact⟨rfl,HB⟩
 |finWait =>
  have hg:goneR E x=Rc.zero:=by simp[goneR,hk]
  rw[hg];clear L1 L2 hG hg;generalize decide (x.seq≤Rc.zero.get x.org)=res at *;simp only[Kd.num];go_enter Tryz.func91,Tryz.ntmps91
  go_wp2_with (go_at_call 130;refine(HZ.out _).mono ?_;rintro e w1 ⟨rfl,hb1⟩)
  have HB:=(HB3.out _ _ _).trans (hb1.mono (HB3.out _ _ _).size);clear HB3;go_ret
  exact⟨rfl,HB⟩
end
section
open Go.RowKit Go.Proofs Go.Shelf
attribute [local go_sem] Oper.semAt_some
variable {E pre:List En} {W w:World} {b0 b3 c e1 e2:Nat} {x:En}
def aK(E pre:List En):dG:=pre.foldl (fun S x=>if x.seq≤(goneR E x).get x.org then S else putC S x.c) .empty
theorem fO(E pre:List En)(x:En):aK E (pre++[x])=if x.seq≤(goneR E x).get x.org then aK E pre else putC (aK E pre) x.c:=by simp[aK]
structure rz(b0 e1 e2 b3 c:Nat)(w:World)(E pre:List En)(W:World):Prop where
 res:W.heap[b0]?=some (.cells #[.map none,.map none,.map none] 128 (0,0))
 own:W.heap[b3]?=some (.cells (cQ e1 e2 (bK E)) 178 (0,0))
 cc:W.heap[c+1+1+1]?=some (.cells #[.map (some c),.map (some (c+1)),.map (some (c+1+1))] 128 (0,0))
 k1:bh W e1 E.length (bx .listen E)
 k2:bh W e2 E.length (bx .finWait E)
 cart:cW W c (c+1) (c+1+1) pre.length (aK E pre)
 bel:Below w.heap.size w W
theorem rz.from{B:Nat}(h0:b0<B)(h1:e1<B)(h2:e2<B)(h3:b3<B)(h4:c+1+1+1<B)(hw:w.heap.size≤B):OwnFrom B (rz b0 e1 e2 b3 c w E):=fun s W W' row hs hg hr=>by
 have k:∀b,b<B→b<W.heap.size→W'.heap[b]?=W.heap[b]?:=fun b hb hl=>hg.block b hl (fun e=>by have:=(hr b e.symm).1;omega)
 refine⟨(k b0 h0 (Cn.1 hs.res).1).trans hs.res,(k b3 h3 (Cn.1 hs.own).1).trans hs.own,(k _ h4 (Cn.1 hs.cc).1).trans hs.cc,hs.k1.same (k e1 h1 hs.k1.lt),hs.k2.same (k e2 h2 hs.k2.lt),⟨hs.cart.m1.same (k _ (by omega) hs.cart.m1.lt),hs.cart.m2.same (k _ (by omega) hs.cart.m2.lt),hs.cart.m3.same (k _ (by omega) hs.cart.m3.lt),hs.cart.le⟩,?_⟩;exact hs.bel.grown hg hs.bel.size (fun r e=>CC hw (hr r e).1)
theorem rz.below{b0 e1 e2 b3 c:Nat}{w:World}{E pre:List En}{W W':World}(hs:rz b0 e1 e2 b3 c w E pre W)(hb:Below W.heap.size W W'):rz b0 e1 e2 b3 c w E pre W':=⟨(hb.block _ (Cn.1 hs.res).1).trans hs.res,(hb.block _ (Cn.1 hs.own).1).trans hs.own,(hb.block _ (Cn.1 hs.cc).1).trans hs.cc,hs.k1.below hb,hs.k2.below hb,hs.cart.below hb,hs.bel.trans (hb.mono hs.bel.size)⟩
theorem rz.skip(hs:rz b0 e1 e2 b3 c w E pre W)(hg:x.seq≤(goneR E x).get x.org):rz b0 e1 e2 b3 c w E (pre++[x]) W:=by
 refine⟨hs.res,hs.own,hs.cc,hs.k1,hs.k2,?_,hs.bel⟩;rw[fO,if_pos hg,Cz];exact⟨hs.cart.m1.mono (by simp),hs.cart.m2.mono (by simp),hs.cart.m3.mono (by simp),hs.cart.le⟩
theorem rz.put{W':World}(hs:rz b0 e1 e2 b3 c w E pre W)(h0:b0<c)(h1:e1<c)(h2:e2<c)(h3:b3<c)(hw:w.heap.size≤c)(hg:¬ x.seq≤(goneR E x).get x.org)(hp:jd W c (c+1) (c+1+1) (pre.length+1) (putC (aK E pre) x.c) W'):rz b0 e1 e2 b3 c w E (pre++[x]) W'∧Below c W W'∧∀B,c+1+1+1≤B→KeepsFrom B W W':=by
 obtain⟨hc,w1,row,hb,hgr,hrow⟩:=hp;have hs1:=hs.below hb;have hcl:c<W.heap.size:=hs.cart.m1.lt;have k:∀b,b≠c→b≠c+1→b≠c+1+1→b<w1.heap.size→W'.heap[b]?=w1.heap[b]?:=fun b n1 n2 n3 hl=>hgr.block b hl (fun e=>by rcases hrow b e.symm with h|h|h <;> contradiction)
 have hbc:Below c W W':=(hb.mono (by omega)).trans ((Ck _ w1).grown hgr (by have:=hb.size;omega) (fun r e=>by rcases hrow r e with h|h|h <;> omega));refine⟨⟨(k b0 (by omega) (by omega) (by omega) (Cn.1 hs1.res).1).trans hs1.res,(k b3 (by omega) (by omega) (by omega) (Cn.1 hs1.own).1).trans hs1.own,(k _ (by omega) (by omega) (by omega) (Cn.1 hs1.cc).1).trans hs1.cc,hs1.k1.same (k e1 (by omega) (by omega) (by omega) hs1.k1.lt),hs1.k2.same (k e2 (by omega) (by omega) (by omega) hs1.k2.lt),?_,hs.bel.trans (hbc.mono hw)⟩,hbc,fun B hB=>((eD hb).from _).trans (KeepsFrom.of_grownBy hgr (fun j e=>by rcases hrow j e with h|h|h <;> omega))⟩;rw[fO,if_neg hg,Cz];exact hc
theorem Aq(Bs:Nat)(ev:Value)(log:List En)(h8:log.length≤4294967296)(w:World)(hBs:w.cell? ⟨Bs,0,none⟩=some ev)(hev:∀b,ev.ownBlock=some b→b<w.heap.size)(hrow:w.ownsRow 0 122 10 ev log.length (aP log)):CallsIn Fence.wide 7 Tryz.prog 51 #[.func (.func 131) #[] #[.pointer (some ⟨Bs,0,none⟩)]] w fun e W' =>
   ∃c,e=.returned (.agg #[.map (some c),.map (some (c+1)),.map (some (c+1+1))])∧w.heap.size≤c∧c+1+1<W'.heap.size∧cW W' c (c+1) (c+1+1) log.length (aK log log)∧Below w.heap.size w W':=by
 have hro:Fence.wide.round=none:=rfl;have h1:1≤7:=by omega
 have hmm:=@run_makeMap Tryz.prog;have HE:Hid (∀o,CallsIn Fence.wide 6 Tryz.prog 90 #[.func (.func 131) #[] #[.pointer (some ⟨Bs,0,none⟩)]] (w.alloc o) fun e W' =>
   ∃b1 b2,e=.returned (.agg #[.map (some b1),.map (some b2),.int .i64 ((bK log).a:Int),.int .i64 ((bK log).b:Int),.int .i64 ((bK log).c:Int),.int .i64 ((bK log).d:Int),.int .i64 ((bK log).e:Int)])∧(w.alloc o).heap.size≤b1∧b1<b2∧b2<W'.heap.size∧bh W' b1 log.length (bx .listen log)∧bh W' b2 log.length (bx .finWait log)∧Below (w.alloc o).heap.size (w.alloc o) W'):=fun o =>
  xC Bs ev log h8 (w.alloc o) (aa ((Ck _ w).alloc (Cl _) o) hBs) (fun b hb=>by have:=hev b hb;simp;omega) ((an.of_below (S:=[]) ((Ck _ w).alloc (Cl _) o)).owns hrow (by simp))
 have HBs:=hid hBs;have Hrow:=hid hrow;have Hev:=hid hev;clear hBs hrow hev;generalize hm0:bK log=m0 at *;refine callsIn_of_wp_marks Tryz.func51 rfl trivial ?_ hro;simp only[Tryz.ntmps51,List.size_toArray,CR,Dh,DQ,Nat.reduceSub,Array.replicate_succ,Array.replicate_zero,List.push_toArray,List.append_toArray,DC,List.cons_append]
 gi_wp2_with (refine⟨trivial,?_⟩;gi_at_call 90;refine(HE.out _).mono ?_;rintro e W1 ⟨e1,e2,rfl,q1,q2,q3,q4,q5,q6⟩)
 obtain⟨W0,hW0⟩:∃W0,((((W1.alloc (.cells #[.map (some e1),.map (some e2),.int .i64 (m0.a:Int),.int .i64 (m0.b:Int),.int .i64 (m0.c:Int),.int .i64 (m0.d:Int),.int .i64 (m0.e:Int)] 178)).alloc (.map #[] 0)).alloc (.map #[] 0)).alloc (.map #[] 0)).alloc (.cells #[.map (some (W1.heap.size+1)),.map (some (W1.heap.size+1+1)),.map (some (W1.heap.size+1+1+1))] 128)=W0:=⟨_,rfl⟩
 have hsz:W0.heap.size=W1.heap.size+5:=by rw[←hW0];simp
 have hB10:Below W1.heap.size W1 W0:=by rw[←hW0];exact(((((Ck _ W1).alloc (Cl _) _).alloc (by simp) _).alloc (by simp;omega) _).alloc (by simp;omega) _).alloc (by simp;omega) _
 have hB1:Below w.heap.size w W1:=((Ck _ w).alloc (Cl _) _).trans (q6.mono (by simp));have hB0:Below w.heap.size w W0:=hB1.trans (hB10.mono hB1.size);have hl0:w.heap.size<e1:=by simp at q1;omega
 have hI0:rz w.heap.size e1 e2 W1.heap.size (W1.heap.size+1) w log [] W0:=by
  refine⟨?_,?_,?_,q4.below hB10,q5.below hB10,⟨?_,?_,?_,fun s m h=>by simp[aK,dG.empty]at h⟩,hB0⟩
  ·exact(hB10.block _ (by omega)).trans ((q6.block _ (by simp)).trans (heap_alloc_new w _))
  ·rw[←hW0,hm0];exact(CF _ _ _ (by simp;omega)).trans ((CF _ _ _ (by simp;omega)).trans ((CF _ _ _ (by simp;omega)).trans ((CF _ _ _ (by simp)).trans (heap_alloc_new W1 _))))
  ·rw[←hW0];have:=heap_alloc_new ((((W1.alloc (.cells #[.map (some e1),.map (some e2),.int .i64 (m0.a:Int),.int .i64 (m0.b:Int),.int .i64 (m0.c:Int),.int .i64 (m0.d:Int),.int .i64 (m0.e:Int)] 178)).alloc (.map #[] 0)).alloc (.map #[] 0)).alloc (.map #[] 0)) (.cells #[.map (some (W1.heap.size+1)),.map (some (W1.heap.size+1+1)),.map (some (W1.heap.size+1+1+1))] 128);simp only[Dg]at this;exact this
  ·have:=bh.made (W1.alloc (.cells #[.map (some e1),.map (some e2),.int .i64 (m0.a:Int),.int .i64 (m0.b:Int),.int .i64 (m0.c:Int),.int .i64 (m0.d:Int),.int .i64 (m0.e:Int)] 178));simp only[Dg]at this;rw[←hW0];exact this.same ((CF _ _ _ (by first|(simp;done)|(simp;omega))).trans ((CF _ _ _ (by simp)).trans (CF _ _ _ (by simp))))
  ·have:=bh.made ((W1.alloc (.cells #[.map (some e1),.map (some e2),.int .i64 (m0.a:Int),.int .i64 (m0.b:Int),.int .i64 (m0.c:Int),.int .i64 (m0.d:Int),.int .i64 (m0.e:Int)] 178)).alloc (.map #[] 0));simp only[Dg]at this;rw[←hW0];exact this.same ((CF _ _ _ (by simp)).trans (CF _ _ _ (by simp)))
  have:=bh.made (((W1.alloc (.cells #[.map (some e1),.map (some e2),.int .i64 (m0.a:Int),.int .i64 (m0.b:Int),.int .i64 (m0.c:Int),.int .i64 (m0.d:Int),.int .i64 (m0.e:Int)] 178)).alloc (.map #[] 0)).alloc (.map #[] 0));simp only[Dg]at this;rw[←hW0];exact this.same (CF _ _ _ (by simp))
 have hBs0:W0.cell? ⟨Bs,0,none⟩=some ev:=aa hB0 HBs.out;have hrow0:W0.ownsRow 0 122 10 ev log.length (aP log):=(an.of_below (S:=[]) hB0).owns Hrow.out (by simp);have hBl:Bs<w.heap.size:=Cy w _ HBs.out;have hev0:∀b,ev.ownBlock=some b→b<w.heap.size:=Hev.out
 rw[hW0];have hw1:=hB1.size;clear hW0 q1 q4 q5 q6 HE HBs Hrow Hev hB10 hB1;generalize hb3:W1.heap.size=b3 at *;generalize hb0:w.heap.size=b0 at *
 refine wpIn_rangeFunc_ownH hro h1 (gf:=131) (lb:=#[.pointer (some ⟨Bs,0,none⟩)]) rfl trivial (enters_of Tryz.func131 (by kernel_rfl) rfl) (sI (7-1) (by omega) Bs b0 ev log h8 W0 (by omega) (by omega) hBs0 hev0 hrow0) belowK_t (belowK_b (by omega)) (Ck _ _) (fun _=>rfl) (rz b0 e1 e2 b3 (b3+1) w log) (fun _ _ _=>False) (rz.from (by omega) (by omega) (by omega) (by omega) (by omega) (by omega)) (fun _ _ _ _ _ hs _ _=>hs) hI0 (fun x a' W=>∃Bx,W0.heap.size≤Bx∧W.heap[Bx]?=some (.cells #[.int .i64 (x.org:Int),.int .i64 (x.seq:Int),.int .i64 (x.ah.a:Int),.int .i64 (x.ah.b:Int),.int .i64 (x.ah.c:Int),.int .i64 (x.ah.d:Int),.int .i64 (x.ah.e:Int),.int .i64 (x.c.k.num:Int),.string x.c.word,.int .i64 (x.c.count:Int)] 122 (0,0))∧a'={tmps:=#[.func (.func 131) #[] #[.pointer (some ⟨Bs,0,none⟩)],undef,.pointer (some ⟨b0,0,none⟩),.pointer (some ⟨b3,0,none⟩),.pointer (some ⟨b3+1+1+1+1,0,none⟩),.pointer (some ⟨Bx,0,none⟩),.func (.func 131) #[] #[.pointer (some ⟨Bs,0,none⟩)],.agg #[.map (some e1),.map (some e2),.int .i64 (m0.a:Int),.int .i64 (m0.b:Int),.int .i64 (m0.c:Int),.int .i64 (m0.d:Int),.int .i64 (m0.e:Int)],.map (some (b3+1)),.map (some (b3+1+1)),.map (some (b3+1+1+1)),.agg #[.map (some (b3+1)),.map (some (b3+1+1)),.map (some (b3+1+1+1))],.func (.func 131) #[] #[.pointer (some ⟨Bs,0,none⟩)],.agg #[.int .i64 (x.org:Int),.int .i64 (x.seq:Int),.int .i64 (x.ah.a:Int),.int .i64 (x.ah.b:Int),.int .i64 (x.ah.c:Int),.int .i64 (x.ah.d:Int),.int .i64 (x.ah.e:Int),.int .i64 (x.c.k.num:Int),.string x.c.word,.int .i64 (x.c.count:Int)],undef,undef,undef,undef,undef,undef,undef,undef,undef],defers:=[]})
  ?hAx ?assign ?body ?done ?stop
 case hAx =>
  rintro x a' _ W W' row ⟨Bx,q1,q2,q3⟩ hg hr
  refine⟨Bx,q1,(hg.block Bx (Cn.1 q2).1 fun e=>?_).trans q2,q3⟩;obtain⟨-,o,ho,hc⟩:=hr Bx e.symm;rw[q2]at ho
  cases ho;cases hc
 case assign =>
  intro l pre x W K hI hK;simp only[En.val]
  gi_wp2
  have h3l:=(Cn.1 hI.cc).1;exact hK _ _ ((KeepsOthers.alloc _ _).from _) ((Ck _ W).alloc (by omega) _) (hI.below ((Ck _ W).alloc (Cl _) _)) ⟨W.heap.size,by omega,heap_alloc_new W _,rfl⟩
 case body =>
  rintro l pre x a' W hl ⟨r,hr⟩ hI ⟨Bx,q1,q2,rfl⟩ hlt
  have hpl:pre.length<log.length:=by omega
  have hd:1≤7-1-1:=by omega
  have hmx:Tryz.prog.follows .mixedOrders=true:=by kernel_rfl
  have c0:W.cell? ⟨Bx,0,none⟩=some (.int .i64 (x.org:Int)):=cell_of_heap q2 _;have c1:W.cell? ⟨Bx,1,none⟩=some (.int .i64 (x.seq:Int)):=cell_of_heap q2 _;have c2:W.cell? ⟨Bx,2,none⟩=some (.int .i64 (x.ah.a:Int)):=cell_of_heap q2 _;have c3:W.cell? ⟨Bx,3,none⟩=some (.int .i64 (x.ah.b:Int)):=cell_of_heap q2 _;have c4:W.cell? ⟨Bx,4,none⟩=some (.int .i64 (x.ah.c:Int)):=cell_of_heap q2 _;have c5:W.cell? ⟨Bx,5,none⟩=some (.int .i64 (x.ah.d:Int)):=cell_of_heap q2 _;have c6:W.cell? ⟨Bx,6,none⟩=some (.int .i64 (x.ah.e:Int)):=cell_of_heap q2 _;have c7:W.cell? ⟨Bx,7,none⟩=some (.int .i64 (x.c.k.num:Int)):=cell_of_heap q2 _;have c8:W.cell? ⟨Bx,8,none⟩=some (.string x.c.word):=cell_of_heap q2 _;have c9:W.cell? ⟨Bx,9,none⟩=some (.int .i64 (x.c.count:Int)):=cell_of_heap q2 _;have ho:=hI.own;rw[hm0]at ho
  have d0:W.cell? ⟨b3,0,none⟩=some (.map (some e1)):=cell_of_heap ho _;have d1:W.cell? ⟨b3,1,none⟩=some (.map (some e2)):=cell_of_heap ho _;have d2:W.cell? ⟨b3,2,none⟩=some (.int .i64 (m0.a:Int)):=cell_of_heap ho _;have d3:W.cell? ⟨b3,3,none⟩=some (.int .i64 (m0.b:Int)):=cell_of_heap ho _;have d4:W.cell? ⟨b3,4,none⟩=some (.int .i64 (m0.c:Int)):=cell_of_heap ho _;have d5:W.cell? ⟨b3,5,none⟩=some (.int .i64 (m0.d:Int)):=cell_of_heap ho _;have d6:W.cell? ⟨b3,6,none⟩=some (.int .i64 (m0.e:Int)):=cell_of_heap ho _
  have HA:Hid (Calls Tryz.prog 91 #[.agg #[.map (some e1),.map (some e2),.int .i64 (m0.a:Int),.int .i64 (m0.b:Int),.int .i64 (m0.c:Int),.int .i64 (m0.d:Int),.int .i64 (m0.e:Int)],.agg #[.int .i64 (x.org:Int),.int .i64 (x.seq:Int),.int .i64 (x.ah.a:Int),.int .i64 (x.ah.b:Int),.int .i64 (x.ah.c:Int),.int .i64 (x.ah.d:Int),.int .i64 (x.ah.e:Int),.int .i64 (x.c.k.num:Int),.string x.c.word,.int .i64 (x.c.count:Int)]] W fun e w'=>e=.returned (.bool (decide (x.seq≤(goneR log x).get x.org)))∧Below W.heap.size W w'):=by
   have:=ue e1 e2 log.length log.length log x W hI.k1 hI.k2;rw[hm0]at this
   exact this
  have HI:Hid (rz b0 e1 e2 b3 (b3+1) w log pre W):=hI;clear ho hI hrow0 hBs0 hmm hev0 hI0;by_cases hg:x.seq≤(goneR log x).get x.org
  ·rw[decide_eq_true hg]at HA;have HN:Hid (rz b0 e1 e2 b3 (b3+1) w log (pre++[x]) W):=HI.out.skip hg;clear hg
   gi_wp2_with (refine⟨trivial,?_⟩;gi_at_call 91;refine(CallsIn.inRound l (callsIn_wide.2 HA.out)).mono ?_;rintro e w1 ⟨rfl,hbw⟩)
   have hbl:=HI.out.bel.size;exact⟨((eD hbw).from _),hbw.mono (by omega),HN.out.below hbw⟩
  rw[decide_eq_false hg]at HA;have HW1:Hid (∀w1,Below W.heap.size W w1→w1.cell? ⟨b3+1+1+1+1,0,none⟩=some (.map (some (b3+1)))∧w1.cell? ⟨b3+1+1+1+1,1,none⟩=some (.map (some (b3+1+1)))∧w1.cell? ⟨b3+1+1+1+1,2,none⟩=some (.map (some (b3+1+1+1)))∧w1.cell? ⟨Bx,7,none⟩=some (.int .i64 (x.c.k.num:Int))∧w1.cell? ⟨Bx,8,none⟩=some (.string x.c.word)∧w1.cell? ⟨Bx,9,none⟩=some (.int .i64 (x.c.count:Int))):=fun w1 hb=>by
   have h:=(HI.out.below hb).cc;exact⟨by rw[cell_of_heap h];rfl,by rw[cell_of_heap h];rfl,by rw[cell_of_heap h];rfl,aa hb c7,aa hb c8,aa hb c9⟩
  have HP:Hid (∀w1,Below W.heap.size W w1→Calls Tryz.prog 92 #[.agg #[.map (some (b3+1)),.map (some (b3+1+1)),.map (some (b3+1+1+1))],.agg #[.int .i64 (x.c.k.num:Int),.string x.c.word,.int .i64 (x.c.count:Int)]] w1 fun e w'=>e=.returned (.tuple #[])∧jd w1 (b3+1) (b3+1+1) (b3+1+1+1) (pre.length+1) (putC (aK log pre) x.c) w'):=fun w1 hb=>xm _ _ _ _ (by omega) (by omega) (by omega) (by omega) _ _ x.hc w1 (HI.out.below hb).cart
  gi_wp2_with (refine⟨trivial,?_⟩;first|(gi_at_call 91;refine(CallsIn.inRound l (callsIn_wide.2 HA.out)).mono ?_;rintro e w1 ⟨rfl,hbw⟩;obtain⟨p0,p1,p2,p7,p8,p9⟩:=HW1.out w1 hbw)|(gi_at_call 92;refine(CallsIn.inRound l (callsIn_wide.2 (HP.out _ hbw))).mono ?_;rintro e w2 ⟨rfl,hpt⟩))
  have hbl:=HI.out.bel.size;obtain⟨n1,n2,n3⟩:=(HI.out.below hbw).put (by omega) (by omega) (by omega) (by omega) (by omega) hg hpt;exact⟨((eD hbw).from _).trans (n3 _ (by omega)),(hbw.mono (by omega)).trans (n2.mono (by omega)),n1⟩
 case done =>
  rintro D ys W hD hys hI hK
  rw[hys]at hI;clear hys;have hlen:log.length≤log.length:=Cl _;have g0:W.cell? ⟨b3+1+1+1+1,0,none⟩=some (.map (some (b3+1))):=cell_of_heap hI.cc _;have g1:W.cell? ⟨b3+1+1+1+1,1,none⟩=some (.map (some (b3+1+1))):=cell_of_heap hI.cc _;have g2:W.cell? ⟨b3+1+1+1+1,2,none⟩=some (.map (some (b3+1+1+1))):=cell_of_heap hI.cc _;have r0:W.cell? ⟨b0,0,none⟩=some (.map none):=cell_of_heap hI.res _;have r1:W.cell? ⟨b0,1,none⟩=some (.map none):=cell_of_heap hI.res _;have r2:W.cell? ⟨b0,2,none⟩=some (.map none):=cell_of_heap hI.res _;have fz:∀o,W.frozen? ⟨b0,o,none⟩=false:=frozen_of_heap hI.res
  have HI:Hid (rz b0 e1 e2 b3 (b3+1) w log log W):=hI;clear hI hrow0 hBs0 hmm hev0 hI0
  gi_wp2
  obtain⟨W7,hW7⟩:∃W7,((W.setCell ⟨b0,0,none⟩ (.map (some (b3+1)))).setCell ⟨b0,1,none⟩ (.map (some (b3+1+1)))).setCell ⟨b0,2,none⟩ (.map (some (b3+1+1+1)))=W7:=⟨_,rfl⟩
  have k7:∀b,b≠b0→W7.heap[b]?=W.heap[b]?:=fun b hne=>by
   rw[←hW7,CD _ _ _ _ hne,CD _ _ _ _ hne,CD _ _ _ _ hne]
  have h7:W7.heap[b0]?=some (.cells #[.map (some (b3+1)),.map (some (b3+1+1)),.map (some (b3+1+1+1))] 128 (0,0)):=by
   rw[←hW7,ae (ae (ae HI.out.res _) _) _];simp
  have b7:Below w.heap.size w W7:=by
   rw[←hW7];exact((HI.out.bel.setCell (by show w.heap.size≤b0;omega) _).setCell (by show w.heap.size≤b0;omega) _).setCell (by show w.heap.size≤b0;omega) _
  have hD7:W7.heap[D]?=some (.deferred (some [])):=(k7 D (by omega)).trans hK;have hl7:(b3+1+1+1)<W7.heap.size:=(HI.out.cart.m3.same (k7 _ (by omega))).lt;rw[hW7];clear hW7 r0 r1 r2 g0 g1 g2 fz;refine⟨by simp,.inl ⟨_,_,rfl,run_takeDeferred hD7,?_⟩⟩;have k8:∀b,b≠D→(W7.putObj D (.deferred none)).heap[b]?=W7.heap[b]?:=fun b hne=>World.putObj_heap_other hne
  have b8:Below w.heap.size w (W7.putObj D (.deferred none)):=⟨b7.os,b7.tape,b7.output,by rw[World.putObj_size];exact b7.size,fun b hb=>(k8 b (by omega)).trans (b7.block b hb)⟩;have h8':=(k8 b0 (by omega)).trans h7;have l8:b3+1+1+1<(W7.putObj D (.deferred none)).heap.size:=by rw[World.putObj_size];exact hl7
  have hC:=HI.out.cart;have m8:cW (W7.putObj D (.deferred none)) (b3+1) (b3+1+1) (b3+1+1+1) log.length (aK log log):=⟨(hC.m1.same ((k8 _ (by omega)).trans (k7 _ (by omega)))).mono hlen,(hC.m2.same ((k8 _ (by omega)).trans (k7 _ (by omega)))).mono hlen,(hC.m3.same ((k8 _ (by omega)).trans (k7 _ (by omega)))).mono hlen,hC.le⟩;generalize W7.putObj D (.deferred none)=W8 at *;have q0:W8.cell? ⟨b0,0,none⟩=some (.map (some (b3+1))):=cell_of_heap h8' _;have q1:W8.cell? ⟨b0,1,none⟩=some (.map (some (b3+1+1))):=cell_of_heap h8' _;have q2:W8.cell? ⟨b0,2,none⟩=some (.map (some (b3+1+1+1))):=cell_of_heap h8' _;refine⟨.agg #[.map (some (b3+1)),.map (some (b3+1+1)),.map (some (b3+1+1+1))],?_,b3+1,rfl,by omega,l8,m8,b8⟩;simp[results,Tryz.results51,go_sem,q0,q1,q2]
 case stop =>
  rintro D c pre W _ _ h _
  exact h.elim
end
section
open Go.RowKit Go.Proofs
variable {E E':List En}
theorem lH(o:Nat):Rc.zero.get o=0:=by
 unfold Rc.get Rc.zero
 repeat (split;· rfl)
 rfl
theorem sZ(k:Kd)(s:List UInt8)(o m:Nat):∀pre:List En,m+1≤((bV k pre s).getD Rc.zero).get o↔∃x∈pre,x.c.k=k∧x.c.word.data.toList=s∧m+1≤x.ah.get o:=by
 refine gY (by simp[bV,lH]) fun l a ih=>?_
 rw[kC];simp only[CP,CK,or_and_right,exists_or,exists_eq_left];split
 ·rename_i h;simp only[D7,Rc.A1,←ih]
  constructor
  ·intro hm;by_cases e:m+1≤((bV k l s).getD Rc.zero).get o
   ·exact .inl e
   exact .inr ⟨h.1,h.2,by omega⟩
  rintro (e|e) <;> omega
 rename_i h;rw[ih]
 constructor
 ·exact .inl
 rintro (e|e)
 ·exact e
 exact absurd ⟨e.1,e.2.1⟩ h
theorem vP(o m:Nat):∀pre:List En,m+1≤(bK pre).get o↔∃x∈pre,x.c.k=.closeWait∧m+1≤x.ah.get o:=by
 refine gY (by simp[bK,lH]) fun l a ih=>?_
 rw[eV];simp only[CP,CK,or_and_right,exists_or,exists_eq_left];split
 ·rename_i h;rw[Rc.A1,←ih]
  constructor
  ·intro hm;by_cases e:m+1≤(bK l).get o
   ·exact .inl e
   exact .inr ⟨h,by omega⟩
  rintro (e|e) <;> omega
 rename_i h;rw[ih]
 constructor
 ·exact .inl
 rintro (e|e)
 ·exact e
 exact absurd e.1 h
def wT(x y:Cm):Prop:=(x.k=.closed∧y.k=.listen∧y.word.data.toList=x.word.data.toList)∨(x.k=.established∧y.k=.finWait∧y.word.data.toList=x.word.data.toList)∨(x.k=.closeWait∧y.k=.closeWait)
theorem mz(E:List En)(x:En)(o m:Nat):m+1≤(goneR E x).get o↔∃y∈E,wT x.c y.c∧m+1≤y.ah.get o:=by
 unfold goneR wT;split
 ·rename_i h;rw[sZ];simp[h,and_assoc]
 ·rename_i h;rw[sZ];simp[h,and_assoc]
 ·rename_i h;rw[vP];simp[h]
 rename_i h1 h2 h3;rw[lH]
 constructor
 ·intro h;omega
 rintro ⟨y,-,(⟨h,-⟩|⟨h,-⟩|⟨h,-⟩),-⟩
 ·exact absurd h h1
 ·exact absurd h h2
 exact absurd h h3
theorem sg(h:∀y,y∈E↔y∈E')(x:En)(o:Nat):(goneR E x).get o=(goneR E' x).get o:=by
 have key:∀m,m+1≤(goneR E x).get o↔m+1≤(goneR E' x).get o:=fun m=>by
  rw[mz,mz]
  constructor
  ·rintro ⟨y,hy,k⟩;exact⟨y,(h y).1 hy,k⟩
  rintro ⟨y,hy,k⟩;exact⟨y,(h y).2 hy,k⟩
 have a:=key ((goneR E x).get o);have b:=key ((goneR E' x).get o);have c:=key ((goneR E x).get o-1);have d:=key ((goneR E' x).get o-1);omega
def oP(E:List En)(x:En):Bool:=decide (¬ x.seq≤(goneR E x).get x.org)
theorem xe{x:En}(h:1≤x.seq):oP E x=true↔∀y∈E,wT x.c y.c→y.ah.get x.org<x.seq:=by
 unfold oP;have:=mz E x x.org (x.seq-1);rw[show x.seq-1+1=x.seq by omega]at this
 rw[decide_eq_true_eq,this]
 constructor
 ·intro hn y hy hu;exact Nat.lt_of_not_le fun hl=>hn ⟨y,hy,hu,hl⟩
 rintro hn ⟨y,hy,hu,hl⟩
 have:=hn y hy hu;omega
def ju(E:List En)(s:List UInt8)(x:En):Nat:=if x.c.k=.closed∧x.c.word.data.toList=s∧oP E x=true then x.c.count else 0
def np(E:List En)(k:Kd)(s:List UInt8)(x:En):Bool:=decide (x.c.k=k) && decide (x.c.word.data.toList=s) && oP E x
theorem jV(E:List En)(s:List UInt8):∀pre:List En,(aK E pre).it s=if(pre.map (ju E s)).sum=0 then none else some (min 999 (pre.map (ju E s)).sum):=by
 refine gY (by simp[aK,dG.empty]) fun l a ih=>?_
 rw[fO,List.map_append,List.sum_append];simp only[List.map_cons,List.map_nil,List.sum_cons,List.sum_nil,DG];by_cases hg:a.seq≤(goneR E a).get a.org
 ·rw[if_pos hg,ih];have:ju E s a=0:=if_neg (fun h=>by have:=h.2.2;simp[oP,hg]at this);rw[this,DG]
 rw[if_neg hg];have hst:oP E a=true:=by simp only[oP,hg,not_false_eq_true,decide_true]
 by_cases hk:a.c.k=.closed
 ·by_cases hs:s=a.c.word.data.toList
  ·have hc:ju E s a=a.c.count:=if_pos ⟨hk,hs.symm,hst⟩;have h1:=(a.hc.add hk).1;simp only[putC,hk];rw[if_pos hs,hc,if_neg (by omega),←hs,ih];split
   ·rename_i h0;rw[h0];simp;omega
   simp only[D7];congr 1;omega
  have hc:ju E s a=0:=if_neg (fun h=>hs h.2.1.symm);simp only[putC,hk];rw[if_neg hs,hc,DG,ih]
 have hc:ju E s a=0:=if_neg (fun h=>hk h.1);rw[hc,DG,←ih];unfold putC;split <;> first|rfl|(exfalso;exact hk ‹_›)
theorem jW(E:List En)(s:List UInt8):∀pre:List En,(aK E pre).cp s=pre.any (np E .established s):=by
 refine gY (by simp[aK,dG.empty]) fun l a ih=>?_
 rw[fO,List.any_append];simp only[List.any_cons,List.any_nil,Ea];by_cases hg:a.seq≤(goneR E a).get a.org
 ·rw[if_pos hg,ih];have:np E .established s a=false:=by simp[np,oP];intros;omega
  rw[this,Ea]
 rw[if_neg hg];have hst:oP E a=true:=by simp only[oP,hg,not_false_eq_true,decide_true]
 by_cases hk:a.c.k=.established
 ·simp only[putC,hk,np,hst];by_cases hs:s=a.c.word.data.toList
  ·rw[if_pos hs];simp[hs]
  rw[if_neg hs,ih];simp[Ne.symm hs]
 have:np E .established s a=false:=by simp[np,hk]
 rw[this,Ea,←ih];unfold putC;split <;> first|rfl|(exfalso;exact hk ‹_›)
theorem jU(E:List En)(s:List UInt8):∀pre:List En,(aK E pre).no s=pre.any (np E .closeWait s):=by
 refine gY (by simp[aK,dG.empty]) fun l a ih=>?_
 rw[fO,List.any_append];simp only[List.any_cons,List.any_nil,Ea];by_cases hg:a.seq≤(goneR E a).get a.org
 ·rw[if_pos hg,ih];have:np E .closeWait s a=false:=by simp[np,oP];intros;omega
  rw[this,Ea]
 rw[if_neg hg];have hst:oP E a=true:=by simp only[oP,hg,not_false_eq_true,decide_true]
 by_cases hk:a.c.k=.closeWait
 ·simp only[putC,hk,np,hst];by_cases hs:s=a.c.word.data.toList
  ·rw[if_pos hs];simp[hs]
  rw[if_neg hs,ih];simp[Ne.symm hs]
 have:np E .closeWait s a=false:=by simp[np,hk]
 rw[this,Ea,←ih];unfold putC;split <;> first|rfl|(exfalso;exact hk ‹_›)
theorem vo(h:∀y,y∈E↔y∈E')(x:En):oP E x=oP E' x:=by
 unfold oP;rw[sg h]
theorem sx(h:E.Perm E'):aK E E=aK E' E':=by
 have hs:oP E=oP E':=funext fun x=>vo (fun y=>h.mem_iff) x
 have hc:ju E=ju E':=funext fun s=>funext fun x=>by unfold ju;rw[hs]
 have hi:np E=np E':=funext fun k=>funext fun s=>funext fun x=>by unfold np;rw[hs]
 have e1:(aK E E).it=(aK E' E').it:=funext fun s=>by rw[jV,jV,hc,(h.map (ju E' s)).sum_nat]
 have e2:(aK E E).cp=(aK E' E').cp:=funext fun s=>by rw[jW,jW,hi,h.any_eq]
 have e3:(aK E E).no=(aK E' E').no:=funext fun s=>by rw[jU,jU,hi,h.any_eq]
 calc aK E E=⟨(aK E E).it,(aK E E).cp,(aK E E).no⟩:=rfl
  _=⟨(aK E' E').it,(aK E' E').cp,(aK E' E').no⟩:=by rw[e1,e2,e3]
  _=aK E' E':=rfl
theorem Aa(rb:Nat)(log:List En)(ev:Value)(w:World)(hv:ba w)(h4:w.cell? ⟨rb,4,none⟩=some ev)(hrow:w.ownsRow 0 122 10 ev log.length (aP log))(h8:log.length≤4294967296):Calls Tryz.prog 55 #[.pointer (some ⟨rb,4,none⟩)] w fun e w'=>∃p cap,e=.returned (.slice p log.length cap)∧w'.ownsRow w.heap.size 68 3 (.slice p log.length cap) log.length (dO log)∧Below w.heap.size w w':=by
 obtain⟨pe,cape,hev⟩:∃p c,ev=.slice p log.length c:=by
  rcases hrow.2 with⟨h1,h0⟩|⟨g,cap',_,h1,_⟩
  ·rw[h0];exact⟨_,_,h1⟩
  exact⟨_,_,h1⟩
 have HR:=hid hrow;have HV:=hid hv;have HE:Hid (ev=.slice pe log.length cape):=hev;clear hrow hv;rw[hev]at h4
 clear hev;obtain⟨i0,hi0,hz0,hz1,hz2⟩:=info_parts Tryz.A8;go_enter Tryz.func55,Tryz.ntmps55
 go_wp2_with (at_make;refine wpList_make_own _ rfl _ _ 62 rfl w.heap.size 68 i0 _ 3 Tryz.underlying62 hi0 hz0 hz1 .i64 .i64 (log.length:Int) log.length rfl rfl rfl (by rw[hz2];omega) (by unfold maxLen;omega) (Cl _) ?_;intro w1 hown1 hgr1;have hb1:Below w.heap.size w w1:=⟨hgr1.os,hgr1.tape,hgr1.output,hgr1.size,fun b hb=>hgr1.block b hb (by simp)⟩;have q4:=aa hb1 h4)
 go_loopw [3,17] (fun v i wr=>∃j:Nat,j≤log.length∧i=.int .i64 j∧Hid (wr.ownsRow w.heap.size 68 3 v j (dO (log.take j)))∧Hid (Below w.heap.size w wr)) (fun _ i _=>log.length-(intOf i).toNat)
 case atStart=>exact⟨0,Nat.zero_le _,rfl,(by simpa[dO] using hown1:w1.ownsRow w.heap.size 68 3 _ 0 (dO (log.take 0))),hb1⟩
 case round =>
  obtain⟨j,hj,rfl,hO,hB⟩:=hrel;by_cases hlt:j<log.length
  ·have hrw:wr.ownsRow 0 122 10 ev log.length (aP log):=(an.of_below (S:=[]) hB.out).owns HR.out (by simp);obtain⟨g,cap,hge,hgl,e0,e1,e2,e3,e4,e5,e6,e7,e8,e9⟩:=jN hrw hlt;rw[HE.out]at hge
   obtain⟨rfl,-,rfl⟩:pe=some ⟨g,0,none⟩∧True∧cape=cap:=by simpa using hge
   clear hge hrw;have hcm:=log[j].hc;have HT:Hid (∀W,Below wr.heap.size wr W→Calls Tryz.prog 100 #[.agg #[.int .i64 (log[j].c.k.num:Int),.string log[j].c.word,.int .i64 (log[j].c.count:Int)]] W fun e w'=>e=.returned (.string (aQ log[j].c))∧Below W.heap.size W w'):=fun W hW=>pP log[j].c hcm W ((HV.out.below hB.out).below hW)
   have HS:Hid (dO (log.take (j+1))=dO (log.take j)++[.int .i64 (log[j].org:Int),.int .i64 (log[j].seq:Int),.string (aQ log[j].c)]):=by
    show _=_
    rw[cF log j hlt,qt]
   have hk5:=log[j].c.k.Bk;generalize aQ log[j].c=tx at *;generalize log[j].org=og at *;generalize log[j].seq=sq at *;generalize log[j].c.k.num=kn at *;generalize log[j].c.word=wd at *;generalize log[j].c.count=cn at *;clear hcm h4;have j0:(0:Int)≤(j:Int):=by omega
   have j1:(j:Int)<(log.length:Int):=by omega
   generalize ((log[j].ah.a:Nat):Int)=r0 at *;generalize ((log[j].ah.b:Nat):Int)=r1 at *;generalize ((log[j].ah.c:Nat):Int)=r2 at *;generalize ((log[j].ah.d:Nat):Int)=r3 at *;generalize ((log[j].ah.e:Nat):Int)=r4 at *;go_wp2_with fail
   obtain⟨wa,hwa⟩:∃x,x=wr.alloc (.cells #[.int .i64 (og:Int),.int .i64 (sq:Int),.int .i64 r0,.int .i64 r1,.int .i64 r2,.int .i64 r3,.int .i64 r4,.int .i64 (kn:Int),.string wd,.int .i64 (cn:Int)] 122):=⟨_,rfl⟩
   have hba:Below wr.heap.size wr wa:=by rw[hwa];exact(Ck _ wr).alloc (Cl _) _
   have hhe:wa.heap[wr.heap.size]?=some (.cells #[.int .i64 (og:Int),.int .i64 (sq:Int),.int .i64 r0,.int .i64 r1,.int .i64 r2,.int .i64 r3,.int .i64 r4,.int .i64 (kn:Int),.string wd,.int .i64 (cn:Int)] 122 (0,0)):=by rw[hwa];exact heap_alloc_new wr _
   have a0:wa.cell? ⟨wr.heap.size,0,none⟩=some (.int .i64 (og:Int)):=cell_of_heap hhe _;have a1:wa.cell? ⟨wr.heap.size,1,none⟩=some (.int .i64 (sq:Int)):=cell_of_heap hhe _;have a7:wa.cell? ⟨wr.heap.size,7,none⟩=some (.int .i64 (kn:Int)):=cell_of_heap hhe _;have a8:wa.cell? ⟨wr.heap.size,8,none⟩=some (.string wd):=cell_of_heap hhe _;have a9:wa.cell? ⟨wr.heap.size,9,none⟩=some (.int .i64 (cn:Int)):=cell_of_heap hhe _;have nu:u3.ownBlock≠some wr.heap.size:=fun e=>by have:=(hO.out.lt _ e).2;omega
   have HTA:Hid (Calls Tryz.prog 100 #[.agg #[.int .i64 (kn:Int),.string wd,.int .i64 (cn:Int)]] wa.drew fun e w'=>e=.returned (.string tx)∧Below wa.drew.heap.size wa.drew w'):=HT.out _ hba.drew;have HBA:Hid (Below w.heap.size w wa):=hB.out.trans (hba.mono hB.out.size);have hOa:wa.ownsRow w.heap.size 68 3 u3 j (dO (log.take j)):=(an.of_below (S:=[]) hba).owns hO.out (by simp);have HOA:Hid (wa.ownsRow w.heap.size 68 3 u3 j (dO (log.take j))):=hOa;have hwl:w.heap.size≤wa.heap.size:=HBA.out.size;have hel:wr.heap.size<wa.heap.size:=by rw[hwa];simp
   clear hhe hba hOa e0 e1 e2 e3 e4 e5 e6 e7 e8 e9 HT q4;rw[←hwa];clear hwa;generalize wr.heap.size=eb at *;go_region_held3 (fun w'=>w'.cell? ⟨eb,0,none⟩=some (.int .i64 (og:Int))∧w'.cell? ⟨eb,1,none⟩=some (.int .i64 (sq:Int))∧w'.cell? ⟨eb,7,none⟩=some (.int .i64 (kn:Int))∧w'.cell? ⟨eb,8,none⟩=some (.string wd)∧w'.cell? ⟨eb,9,none⟩=some (.int .i64 (cn:Int))) (first
     |exact⟨a0,a1,a7,a8,a9⟩
     |exact⟨aa hb5 a0,aa hb5 a1,aa hb5 a7,aa hb5 a8,aa hb5 a9⟩
     |go_keep
     |(refine⟨?_,?_,?_,?_,?_⟩ <;> (rw[hgrow.cell_far _ (by first|(simp;done)|(simp;omega)) (Ne.symm nu),World.cell?_alloc_past _ _ _ (by omega)];first|exact aa hb5 a0|exact aa hb5 a1|exact aa hb5 a7|exact aa hb5 a8|exact aa hb5 a9))) (first
     |(go_at_call 100;refine HTA.out.mono ?_;rintro e w5 ⟨rfl,hb5⟩;have l5:wa.heap.size≤w5.heap.size:=hb5.size)
     |(refine step_append_lies _ (by rfl) _ _ _ (by rfl) w.heap.size 68 i0 _ 3 32 Tryz.underlying62 hi0 hz0 hz1 hz2 rfl (by omega) u3 j (dO (log.take j)) (by rfl) ((an.alloc (an.of_below (S:=[]) (((Ck _ wa).drew).trans hb5)) _).owns HOA.out (by simp)) ⟨w5.heap.size,0,none⟩ 1 1 [.int .i64 (og:Int),.int .i64 (sq:Int),.string tx] (by rfl) (by rfl) (World.news_of_block (cs:=#[.int .i64 (og:Int),.int .i64 (sq:Int),.string tx]) (t:=68) (fr:=(0,0)) (heap_alloc_new w5 _)) (by simp[Value.oneCell']) (by omega) (by unfold maxLen;omega) (by omega) (by simp;omega) (w5.heap.size+1) (by simp) ?_;intro g6 cap6 w6 hown6 hgrow hat6 hlt6))
   go_wp2
   go_roundw
   case rel =>
    have hub:an [u3.ownBlock] wa w6:=(((an.of_below (S:=[u3.ownBlock]) (((Ck _ wa).drew).trans hb5)).alloc _).grown hgrow fun b hb=>.inl (by simp[hb]));refine⟨j+1,by omega,by go_num,?_,?_⟩
    ·show w6.ownsRow _ _ _ _ _ _
     rw[HS.out];exact hown6
    refine⟨hub.os.trans HBA.out.os,hub.tape.trans HBA.out.tape,hub.output.trans HBA.out.output,CC HBA.out.size hub.size,fun b hb=>(hub.block b (Nat.lt_of_lt_of_le hb HBA.out.size) ?_).trans (HBA.out.block b hb)⟩;intro hm;have:=(HOA.out.lt b (CK.1 hm).symm).1;omega
   case measure=>simp[intOf];omega
  obtain rfl:j=log.length:=by omega
  rw[List.take_length]at hO;obtain⟨pv,cv,hvv⟩:∃p c,u3=.slice p log.length c:=by
   rcases hO.out.2 with⟨h1,h0⟩|⟨g,cap',_,h1,_⟩
   ·rw[h0];exact⟨_,_,h1⟩
   exact⟨_,_,h1⟩
  subst hvv;go_wp2_with fail
  go_ret
  exact⟨pv,cv,rfl,hO.out,hB.out⟩
end
end Go.Proofs.YtckmppkdpnhodaaGreatDoor
