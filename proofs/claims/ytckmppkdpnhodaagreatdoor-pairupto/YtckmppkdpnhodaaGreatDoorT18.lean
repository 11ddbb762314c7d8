import Derived.Test.YtckmppkdpnhodaaGreatDoorT15
import Derived.Test.YtckmppkdpnhodaaGreatDoorT00
set_option maxRecDepth 100000
set_option maxHeartbeats 8000000
set_option linter.unusedVariables false
set_option linter.unusedSimpArgs false
open Array renaming getElem?_eq_some_iff→Cn,getElem?_setIfInBounds_self_of_lt→Dq,getElem?_toList→DI
open Go.World renaming cell?_of_block→CE,block_lt_of_cell?→Cy
open Go.RowKit.Below renaming heap_alloc→CF,refl→Ck
open List renaming mem_cons_of_mem→CQ,mem_singleton→CK,getElem?_eq_getElem→Cr,take_of_length_le→CX,length_take→CI,getElem?_take_of_lt→DA,mem_iff_getElem→DD,getElem?_eq_none→DP,length_filter_le→DE,take_append_drop→DB,mem_append_left→C8,mem_append→CP
open Nat renaming zero_le→CB,min_eq_left→DY,le_refl→Cl,le_trans→CC,mul_le_mul_right→D4,reduceAdd→DQ
namespace Go.Proofs.YtckmppkdpnhodaaGreatDoor
section
open Go.RowKit Go.Proofs
attribute [local go_sem ↓] Go.wp_at_zero Go.wp_at_succ
variable {B cap cnt g i j n rb to:Nat} {C cur cur':Array Value} {T:TypeId} {W w:World} {wv:Value}
theorem yr(rb:Nat)(its:List It)(hl:its.length≤1000)(x:It)(wv:Value)(C:Array Value)(T:TypeId)(w:World)(hrb:w.heap[rb]?=some (.cells C T (0,0)))(h11:C[11]?=some wv)(hrow:w.ownsRow 0 171 12 wv its.length (cA its))(hne:wv.ownBlock≠some rb):Calls Tryz.prog 235 #[.pointer (some ⟨rb,11,none⟩),.iface 171 (.agg #[.int .i64 (x.due:Int),.int .i64 (x.to:Int),.int .i64 (x.en.org:Int),.int .i64 (x.en.seq:Int),.int .i64 (x.en.ah.a:Int),.int .i64 (x.en.ah.b:Int),.int .i64 (x.en.ah.c:Int),.int .i64 (x.en.ah.d:Int),.int .i64 (x.en.ah.e:Int),.int .i64 (x.en.c.k.num:Int),.string x.en.c.word,.int .i64 (x.en.c.count:Int)])] w fun e w' =>
   e=.returned (.tuple #[])∧∃g cap,w'.ownsRow 0 171 12 (.slice (some ⟨g,0,none⟩) (its.length+1) cap) (its.length+1) (cA (its++[x]))∧(wv.ownBlock=some g∨w.heap.size≤g)∧g≠rb∧w'.heap[rb]?=some (.cells (C.setIfInBounds 11 (.slice (some ⟨g,0,none⟩) (its.length+1) cap)) T (0,0))∧an [some rb,wv.ownBlock] w w':=by
 obtain⟨pe,cape,hev⟩:∃p c,wv=.slice p its.length c:=by
  rcases hrow.2 with⟨h1,h0⟩|⟨g,cap',_,h1,_⟩
  ·rw[h0];exact⟨_,_,h1⟩
  exact⟨_,_,h1⟩
 obtain⟨i3,hi3,hy0,hy1,hy2⟩:=info_parts Tryz.Bb;have hrl:rb<w.heap.size:=(Cn.1 hrb).1;have c4:w.cell? ⟨rb,11,none⟩=some (.slice pe its.length cape):=by rw[cell_of_heap hrb,h11,hev]
 have fz:w.frozen? ⟨rb,11,none⟩=false:=frozen_of_heap hrb _;have HE:Hid (wv=.slice pe its.length cape):=hev;have HRB:=hid hrb;have HL:Hid (cA (its++[x])=cA its++[.int .i64 (x.due:Int),.int .i64 (x.to:Int),.int .i64 (x.en.org:Int),.int .i64 (x.en.seq:Int),.int .i64 (x.en.ah.a:Int),.int .i64 (x.en.ah.b:Int),.int .i64 (x.en.ah.c:Int),.int .i64 (x.en.ah.d:Int),.int .i64 (x.en.ah.e:Int),.int .i64 (x.en.c.k.num:Int),.string x.en.c.word,.int .i64 (x.en.c.count:Int)]):=by
  exact mr its x
 rw[hev]at hrow hne;have HR:Hid (w.ownsRow 0 171 12 (.slice pe its.length cape) its.length (cA its)):=hrow;clear hrow hev hrb h11;generalize hL:its.length=L at *;generalize (x.due:Int)=p0 at *;generalize (x.to:Int)=p1 at *;generalize (x.en.org:Int)=p2 at *;generalize (x.en.seq:Int)=p3 at *;generalize (x.en.ah.a:Int)=p4 at *;generalize (x.en.ah.b:Int)=p5 at *;generalize (x.en.ah.c:Int)=p6 at *;generalize (x.en.ah.d:Int)=p7 at *;generalize (x.en.ah.e:Int)=p8 at *;generalize (x.en.c.k.num:Int)=p9 at *;generalize x.en.c.word=ps at *;generalize (x.en.c.count:Int)=p11 at *;have hta:∀v W,(Instr.typeAssert (.iface 171 v) 20 171 false).run Tryz.prog W=.ok v W:=fun v W=>by kernel_rfl
 go_enter Tryz.func235,Tryz.ntmps235
 generalize hb0:w.heap.size=b0 at *;have k4:∀o,(w.alloc o).cell? ⟨rb,11,none⟩=some (.slice pe L cape):=fun o=>(CE (a:=⟨rb,11,none⟩) (CF w o rb (by omega))).trans c4
 have kf:∀o,(w.alloc o).frozen? ⟨rb,11,none⟩=false:=fun o=>(World.frozen?_of_block (a:=⟨rb,11,none⟩) (CF w o rb (by omega))).trans fz
 go_upto_region 0 with fail
 go_region_law ((refine step_append_lies _ (by rfl) _ _ _ (by rfl) 0 171 i3 _ 12 104 Tryz.underlying108 hi3 hy0 hy1 hy2 rfl (by omega) (.slice pe L cape) L (cA its) (by rfl) (an.owns (S:=[]) (an.drew (an.alloc (an.refl _ _) _)) HR.out (by simp)) ⟨b0,0,none⟩ 1 1 [.int .i64 p0,.int .i64 p1,.int .i64 p2,.int .i64 p3,.int .i64 p4,.int .i64 p5,.int .i64 p6,.int .i64 p7,.int .i64 p8,.int .i64 p9,.string ps,.int .i64 p11] (by rfl) (by rfl) (World.news_of_block (cs:=#[.int .i64 p0,.int .i64 p1,.int .i64 p2,.int .i64 p3,.int .i64 p4,.int .i64 p5,.int .i64 p6,.int .i64 p7,.int .i64 p8,.int .i64 p9,.string ps,.int .i64 p11]) (t:=171) (fr:=(0,0)) (by rw[←hb0];exact heap_alloc_new w _)) (by simp[Value.oneCell']) (by omega) (by unfold maxLen;omega) (by omega) (by first|(simp;done)|(simp;omega)) (b0+1) (by simp[hb0]) ?_;intro g5 cap5 w5 hown5 hgrow hat5 hlt5;have s2:w5.cell? ⟨rb,11,none⟩=some (.slice pe L cape):=(hgrow.cell_far ⟨rb,11,none⟩ (by first|(simp;done)|(simp;omega)) (Ne.symm hne)).trans (k4 _);have sf:w5.frozen? ⟨rb,11,none⟩=false:=(hgrow.frozen_far ⟨rb,11,none⟩ (by first|(simp;done)|(simp;omega)) (Ne.symm hne)).trans (kf _)))
 all_goals
  have u5:an [(Value.slice pe L cape).ownBlock] w w5:=(((an.refl _ w).alloc _).drew).grown hgrow fun b hb=>.inl (by simp[hb])
  have hg5:g5≠rb:=by
   rcases hat5 with h|h
   ·intro e;exact hne (e ▸ h)
   omega
  have hr5:w5.heap[rb]?=some (.cells C T (0,0)):=(u5.block rb (by omega) (by simpa using Ne.symm hne)).trans HRB.out;go_end0
  refine⟨rfl,g5,cap5,?_,?_,hg5,ae hr5 _,?_⟩
  ·rw[HL.out];exact ai hown5 (fun b hb=>by cases hb;exact hg5) _
  ·rw[HE.out];rcases hat5 with h|h
   ·exact .inl h
   exact .inr (by omega)
  rw[HE.out];exact(u5.mono fun i hi=>CQ _ hi).setCell (.inl (by simp)) _
def It.val(x:It):Value:=.agg #[.int .i64 (x.due:Int),.int .i64 (x.to:Int),.int .i64 (x.en.org:Int),.int .i64 (x.en.seq:Int),.int .i64 (x.en.ah.a:Int),.int .i64 (x.en.ah.b:Int),.int .i64 (x.en.ah.c:Int),.int .i64 (x.en.ah.d:Int),.int .i64 (x.en.ah.e:Int),.int .i64 (x.en.c.k.num:Int),.string x.en.c.word,.int .i64 (x.en.c.count:Int)]
theorem tX(its:List It)(x:It){t:Nat}(h:t<its.length):kF (its++[x]) t=kF its t:=by
 unfold kF;rw[List.getElem?_append_left h]
theorem aH.congr{lo:Nat}{k k':Nat→Nat}(h:aH lo n k)(he:∀t,t<n→k' t=k t):aH lo n k':=fun c h0 hc hp=>by
 rw[he c hc,he _ (by omega)];exact h c h0 hc hp
structure gQ(w:World)(rb:Nat)(C:Array Value)(T:TypeId)(wv:Value)(its:List It):Prop where
 rbk:w.heap[rb]?=some (.cells C T (0,0))
 c11:C[11]?=some wv
 row:w.ownsRow 0 171 12 wv its.length (cA its)
 ne:wv.ownBlock≠some rb
theorem gQ.below{w':World}{its:List It}(h:gQ w rb C T wv its)(hb:Below w.heap.size w w'):gQ w' rb C T wv its:=⟨(hb.block rb (Cn.1 h.rbk).1).trans h.rbk,h.c11,(an.of_below (S:=[]) hb).owns h.row (by simp),h.ne⟩
theorem ie{its:List It}(hn:n=its.length)(h:w.ownsRow B 171 12 (.slice (some ⟨g,0,none⟩) n cap) n (cA its)):∃cur,fj w g cap its cur∧cur.size=cap*12∧cap≤maxLen∧B≤g:=by
 subst hn;rcases h.2 with⟨h1,-⟩|⟨g',cap',cur,h1,hb,hg,hl,hm,hs,ht⟩
 ·cases h1
 cases h1;exact⟨cur,⟨hg,hl,by omega,ht⟩,hs,hm,hb⟩
theorem fT{its:List It}(h:fj w g cap its cur)(hs:cur.size=cap*12)(hm:cap≤maxLen)(hB:B≤g):w.ownsRow B 171 12 (.slice (some ⟨g,0,none⟩) its.length cap) its.length (cA its):=⟨fy its,.inr ⟨g,cap,cur,rfl,hB,h.blk,h.le,hm,hs,h.row⟩⟩
structure nE(w:World)(rb:Nat)(C:Array Value)(T:TypeId)(wv:Value)(its':List It)(g cap:Nat)(W:World):Prop where
 row:W.ownsRow 0 171 12 (.slice (some ⟨g,0,none⟩) its'.length cap) its'.length (cA its')
 own:wv.ownBlock=some g∨w.heap.size≤g
 ne:g≠rb
 rbk:W.heap[rb]?=some (.cells (C.setIfInBounds 11 (.slice (some ⟨g,0,none⟩) its'.length cap)) T (0,0))
 upd:an [some rb,wv.ownBlock] w W
theorem nE.at{its':List It}(h:nE w rb C T wv its' g cap W)(hC:11<C.size):gQ W rb (C.setIfInBounds 11 (.slice (some ⟨g,0,none⟩) its'.length cap)) T (.slice (some ⟨g,0,none⟩) its'.length cap) its':=⟨h.rbk,Dq hC,h.row,fun e=>h.ne (by cases e;rfl)⟩
theorem nE.Bv{its its':List It}{W':World}(h:nE w rb C T wv its g cap W)(hr:fj W g cap its cur)(hs:cur.size=cap*12)(hm:cap≤maxLen)(ht:dD W g cap its cur its' cur' W'):nE w rb C T wv its' g cap W':=by
 have hrl:=(Cn.1 h.rbk).1;refine⟨fT ht.row (ht.csz.trans hs) hm (CB _),h.own,h.ne,?_,h.upd.trans ht.upd (fun i hi=>?_)⟩
 ·rw[ht.len];exact(ht.upd.block rb hrl (by simp;exact fun e=>h.ne e.symm)).trans h.rbk
 simp only[CK,Option.some.injEq]at hi;subst hi;rcases h.own with e|e
 ·exact .inl (by simp[e])
 exact .inr e
theorem vD(rb:Nat)(its:List It)(hl:its.length<1000)(x:It)(wv:Value)(C:Array Value)(T:TypeId)(w:World)(hq:gQ w rb C T wv its)(hh:aH 0 its.length (kF its)):Calls Tryz.prog 89 #[.iface 175 (.pointer (some ⟨rb,11,none⟩)),.iface 171 x.val] w fun e w' =>
   e=.returned (.tuple #[])∧∃its' g cap,nE w rb C T wv its' g cap w'∧its'.Perm (its++[x])∧aH 0 its'.length (kF its'):=by
 have hC:11<C.size:=(Cn.1 hq.c11).1;have hlen:(its++[x]).length=its.length+1:=by simp
 have HP:Hid (Calls Tryz.prog 235 #[.pointer (some ⟨rb,11,none⟩),.iface 171 (.agg #[.int .i64 (x.due:Int),.int .i64 (x.to:Int),.int .i64 (x.en.org:Int),.int .i64 (x.en.seq:Int),.int .i64 (x.en.ah.a:Int),.int .i64 (x.en.ah.b:Int),.int .i64 (x.en.ah.c:Int),.int .i64 (x.en.ah.d:Int),.int .i64 (x.en.ah.e:Int),.int .i64 (x.en.c.k.num:Int),.string x.en.c.word,.int .i64 (x.en.c.count:Int)])] w fun e w' =>
   e=.returned (.tuple #[])∧∃g cap,w'.cell? ⟨rb,11,none⟩=some (.slice (some ⟨g,0,none⟩) (its.length+1) cap)∧Hid (nE w rb C T wv (its++[x]) g cap w')):=by
  refine(yr rb its (by omega) x wv C T w hq.rbk hq.c11 hq.row hq.ne).mono ?_;rintro e w' ⟨he,g,cap,o1,o2,o3,o4,o5⟩
  refine⟨he,g,cap,by rw[cell_of_heap o4,Dq hC],?_⟩;exact⟨by rw[hlen];exact o1,o2,o3,by rw[hlen];exact o4,o5⟩
 have HU:Hid (∀g cap W,Hid (nE w rb C T wv (its++[x]) g cap W)→Calls Tryz.prog 128 #[.iface 175 (.pointer (some ⟨rb,11,none⟩)),.int .i64 (its.length:Int)] W fun e w'=>e=.returned (.tuple #[])∧∃its' g cap,nE w rb C T wv its' g cap w'∧its'.Perm (its++[x])∧aH 0 its'.length (kF its')):=fun g cap W hW=>by
  obtain⟨cur,hr,hs,hm,-⟩:=ie rfl hW.out.row;have hc:=(hW.out.at hC);refine(Ap rb g cap its.length (its++[x]) (by simp) (by simp;omega) cur W (by rw[cell_of_heap hc.rbk];exact hc.c11) hr hW.out.ne ?_).mono ?_
  ·rw[hlen];exact iy.start (hh.congr fun t ht=>tX its x ht)
  rintro e w' ⟨he,its',cur',ht,hp⟩
  refine⟨he,its',g,cap,hW.out.Bv hr hs hm ht,ht.perm,?_⟩;rw[ht.len];exact hp
 have hmP:=fun W=>tQ rb W
 have HML : Hid (∀ W a n c, W.cell? ⟨rb, 11, none⟩ = some (.slice a n c) → (method 409 175 (.pointer (some ⟨rb, 11, none⟩)) "Len").run Tryz.prog W = .ok (231, .slice a n c) W) := fun W a n c h => jF rb W a n c h
 clear hq hh hlen;simp only[It.val];generalize hL:its.length=L at *;go_enter Tryz.func89,Tryz.ntmps89
 go_wp2_with (first
  |(go_at_call 235;refine HP.out.mono ?_;rintro e w1 ⟨rfl,g,cap,p1,p2⟩;have p3:=HML.out w1 _ _ _ p1)
  |(go_at_call 231;refine(lD _ _ _ _).mono ?_;rintro e w' ⟨rfl,rfl⟩)
  |(go_at_call 128;refine Calls.mono (HU.out g cap _ p2) ?_;rintro e w2 ⟨rfl,its',g',cap',o⟩))
 go_end0
 exact⟨rfl,its',g',cap',o⟩
theorem sd(its:List It)(x:It)(h:cur.toList.take ((its.length+1)*12)=cA (its++[x])):cur.toList.take (its.length*12)=cA its:=by
 have:(cur.toList.take ((its.length+1)*12)).take (its.length*12)=(cA (its++[x])).take (its.length*12):=by rw[h]
 rw[List.take_take,DY (by omega),mr]at this;rw[this];exact List.take_left' (fy its)
theorem zt(rb g cap:Nat)(its:List It)(x:It)(hl:its.length<1000)(C:Array Value)(T:TypeId)(w:World)(hq:gQ w rb C T (.slice (some ⟨g,0,none⟩) (its.length+1) cap) (its++[x])):Calls Tryz.prog 234 #[.pointer (some ⟨rb,11,none⟩)] w fun e w'=>e=.returned (.iface 171 x.val)∧nE w rb C T (.slice (some ⟨g,0,none⟩) (its.length+1) cap) its g cap w':=by
 have hlen:(its++[x]).length=its.length+1:=by simp
 have hrow:=hq.row;rw[hlen]at hrow
 obtain⟨cur,hr,hs,hm,-⟩:=ie hlen.symm hrow;have hC:11<C.size:=(Cn.1 hq.c11).1;have hgl:=(Cn.1 hr.blk).1;have hrl:=(Cn.1 hq.rbk).1;have hgr:g≠rb:=fun e=>hq.ne (by rw[e];rfl)
 have hxx:(its++[x])[its.length]'(by simp)=x:=by simp
 have hcell:∀o v,o<12→x.cells[o]?=some v→w.cell? ⟨g,its.length*12+o,none⟩=some v:=fun o v ho hv=>hr.cell (i:=its.length) (o:=o) (by simp) ho (by rw[hxx];exact hv)
 have c11:w.cell? ⟨rb,11,none⟩=some (.slice (some ⟨g,0,none⟩) (its.length+1) cap):=by rw[cell_of_heap hq.rbk];exact hq.c11
 have f11:w.frozen? ⟨rb,11,none⟩=false:=frozen_of_heap hq.rbk _;have hle:=hr.le;rw[hlen]at hle
 have hmx:cap≤maxLen:=hm;have HQ:=hid hq;have HR:Hid (fj w g cap (its++[x]) cur∧cur.size=cap*12∧cap≤maxLen):=⟨hr,hs,hm⟩;clear hq hr hrow hs hxx hm;generalize hk:its.length=k at *
 obtain⟨p0,p1,p2,p3,p4,p5,p6,p7,p8,p9,p11,ps,hx,hxv,c0,c1,c2,c3,c4,c5,c6,c7,c8,c9,c10,c11⟩:∃(p0 p1 p2 p3 p4 p5 p6 p7 p8 p9 p11:Int) (ps:ByteArray),x.cells=[.int .i64 p0,.int .i64 p1,.int .i64 p2,.int .i64 p3,.int .i64 p4,.int .i64 p5,.int .i64 p6,.int .i64 p7,.int .i64 p8,.int .i64 p9,.string ps,.int .i64 p11]∧x.val=.agg #[.int .i64 p0,.int .i64 p1,.int .i64 p2,.int .i64 p3,.int .i64 p4,.int .i64 p5,.int .i64 p6,.int .i64 p7,.int .i64 p8,.int .i64 p9,.string ps,.int .i64 p11]∧w.cell? ⟨g,k*12,none⟩=some (.int .i64 p0)∧w.cell? ⟨g,k*12+1,none⟩=some (.int .i64 p1)∧w.cell? ⟨g,k*12+2,none⟩=some (.int .i64 p2)∧w.cell? ⟨g,k*12+3,none⟩=some (.int .i64 p3)∧w.cell? ⟨g,k*12+4,none⟩=some (.int .i64 p4)∧w.cell? ⟨g,k*12+5,none⟩=some (.int .i64 p5)∧w.cell? ⟨g,k*12+6,none⟩=some (.int .i64 p6)∧w.cell? ⟨g,k*12+7,none⟩=some (.int .i64 p7)∧w.cell? ⟨g,k*12+8,none⟩=some (.int .i64 p8)∧w.cell? ⟨g,k*12+9,none⟩=some (.int .i64 p9)∧w.cell? ⟨g,k*12+10,none⟩=some (.string ps)∧w.cell? ⟨g,k*12+11,none⟩=some (.int .i64 p11):=⟨_,_,_,_,_,_,_,_,_,_,_,_,rfl,rfl,hcell 0 _ (by omega) rfl,hcell 1 _ (by omega) rfl,hcell 2 _ (by omega) rfl,hcell 3 _ (by omega) rfl,hcell 4 _ (by omega) rfl,hcell 5 _ (by omega) rfl,hcell 6 _ (by omega) rfl,hcell 7 _ (by omega) rfl,hcell 8 _ (by omega) rfl,hcell 9 _ (by omega) rfl,hcell 10 _ (by omega) rfl,hcell 11 _ (by omega) rfl⟩
 have HXV:Hid (x.val=.agg #[.int .i64 p0,.int .i64 p1,.int .i64 p2,.int .i64 p3,.int .i64 p4,.int .i64 p5,.int .i64 p6,.int .i64 p7,.int .i64 p8,.int .i64 p9,.string ps,.int .i64 p11]):=hxv;clear hx hxv hcell;unfold maxLen at hmx;have k0:(0:Int)≤(k:Int):=by omega
 have k1:(k:Int)<(k:Int)+1:=by omega
 have hkc:(k:Int)≤(cap:Int):=by omega
 go_enter Tryz.func234,Tryz.ntmps234
 go_wp2
 go_ret
 refine⟨by rw[HXV.out];rfl,?_⟩;subst hk;obtain⟨hr,hs,hm⟩:=HR.out;have e1:∀(W:World) o b,W.heap.size=w.heap.size→b<w.heap.size→(W.alloc o).heap[b]?=W.heap[b]?:=fun W o b h hb=>CF W o b (by omega)
 have sz:(w.setCell ⟨rb,11,none⟩ (.slice (some ⟨g,0,none⟩) its.length cap)).heap.size=w.heap.size:=bJ _ _ _;refine⟨fT (cur:=cur) ⟨?_,by omega,by omega,sd its x (by have:=hr.row;rwa[hlen]at this)⟩ hs hm (CB _),.inl rfl,hgr,?_,?_⟩
 ·rw[e1 _ _ g sz hgl,Below.heap_setCell _ _ _ _ hgr];exact hr.blk
 ·rw[e1 _ _ rb sz hrl];exact ae HQ.out.rbk _
 exact((an.refl _ w).setCell (.inl (by simp)) _).alloc _
theorem vR (rb : Nat) (W : World) : (method 409 175 (.pointer (some ⟨rb, 11, none⟩)) "Pop").run Tryz.prog W = .ok (234, .pointer (some ⟨rb, 11, none⟩)) W := by kernel_rfl
theorem gQ.Bv{its its':List It}(h:gQ w rb C T (.slice (some ⟨g,0,none⟩) n cap) its)(hn:n=its.length)(ht:dD w g cap its cur its' cur' W)(hs:cur.size=cap*12)(hm:cap≤maxLen):gQ W rb C T (.slice (some ⟨g,0,none⟩) n cap) its':=by
 subst hn;have hrl:=(Cn.1 h.rbk).1;have hgr:g≠rb:=fun e=>h.ne (by rw[e];rfl)
 refine⟨(ht.upd.block rb hrl (by simp;exact fun e=>hgr e.symm)).trans h.rbk,h.c11,?_,h.ne⟩;rw[←ht.len];exact fT ht.row (ht.csz.trans hs) hm (CB _)
theorem dD.trans{w:World}{g cap:Nat}{a b c:List It}{ca cb cc:Array Value}{W W':World}(h1:dD w g cap a ca b cb W)(h2:dD W g cap b cb c cc W'):dD w g cap a ca c cc W':=⟨h2.row,h2.csz.trans h1.csz,h2.perm.trans h1.perm,h2.len.trans h1.len,h1.upd.trans h2.upd (fun i hi=>.inl hi)⟩
theorem zX(rb:Nat)(its:List It)(hne:0<its.length)(hl:its.length≤1000)(wv:Value)(C:Array Value)(T:TypeId)(w:World)(hq:gQ w rb C T wv its)(hh:aH 0 its.length (kF its)):Calls Tryz.prog 138 #[.iface 175 (.pointer (some ⟨rb,11,none⟩))] w fun e w'=>∃x its' g cap,e=.returned (.iface 171 x.val)∧nE w rb C T wv its' g cap w'∧(x::its').Perm its∧aH 0 its'.length (kF its')∧∀y∈its,x.due≤y.due:=by
 obtain⟨g,cap,rfl,-,hgl⟩:=hq.row.form hne;obtain⟨cur,hr,hs,hm,-⟩:=ie rfl hq.row;have hgr:g≠rb:=fun e=>hq.ne (by rw[e];rfl)
 obtain⟨k,hk⟩:∃k,its.length=k+1:=⟨its.length-1,by omega⟩
 have c11:w.cell? ⟨rb,11,none⟩=some (.slice (some ⟨g,0,none⟩) its.length cap):=by rw[cell_of_heap hq.rbk];exact hq.c11
 have HS:Hid (Calls Tryz.prog 233 #[.slice (some ⟨g,0,none⟩) (k+1) cap,.int .i64 0,.int .i64 (k:Int)] w fun e w'=>e=.returned (.tuple #[])∧∃cur1,dD w g cap its cur (swapL its 0 k) cur1 w'):=by
  have:Calls Tryz.prog 233 #[.slice (some ⟨g,0,none⟩) its.length cap,.int .i64 ((0:Nat):Int),.int .i64 (k:Int)] w fun e w'=>e=.returned (.tuple #[])∧∃cur1,dD w g cap its cur (swapL its 0 k) cur1 w':=by
   refine(ve g cap 0 k its (by omega) (by omega) hl cur w hr).mono ?_;rintro e w' ⟨he,n,rfl⟩
   obtain⟨c,hc⟩:=(dD.refl hr).swap (i:=0) (j:=k) (by omega) (by omega) n;exact⟨he,c,hc⟩
  rw[hk]at this;exact this
 have HD:Hid (∀W cur1,dD w g cap its cur (swapL its 0 k) cur1 W→Calls Tryz.prog 149 #[.iface 175 (.pointer (some ⟨rb,11,none⟩)),.int .i64 0,.int .i64 (k:Int)] W fun e w'=>(∃b,e=.returned (.bool b))∧∃its3 x cur2,Hid (dD w g cap its cur (its3++[x]) cur2 w'∧aH 0 its3.length (kF its3)∧(∀y∈its,x.due≤y.due)∧its3.length=k)):=fun W cur1 ht=>by
  have hlen1:=fw its 0 k;have hc:=ht.AF c11 hgr;rw[←hlen1]at hc
  refine(xV rb g cap 0 k (swapL its 0 k) (by omega) (CB _) (by omega) cur1 W hc ht.row hgr (gR.start ?_)).mono ?_
  ·rw[px (by omega) (by omega)];intro c h0 hc hp;rw[eJ _ (by omega) (by omega),eJ _ (by omega) (by omega)];exact hh c h0 (by omega) (CB _)
  rintro e w' ⟨hb,its2,cur2,ht2,hp2,hf2⟩
  have hl2:its2.length=k+1:=by rw[ht2.len,hlen1,hk]
  have hx:its2[k]?=its[0]?:=by rw[hf2 k (Cl _),j5 (by omega) (by omega),if_pos rfl]
  have hx':its2[k]'(by omega)=its[0]'(by omega):=by
   rw[Cr (by omega),Cr (by omega)]at hx;exact Option.some.inj hx
  have hsp:its2=its2.take k++[its[0]'(by omega)]:=by
   rw[←hx',←fG its2 k (by omega),CX (by omega)]
  refine⟨hb,its2.take k,its[0]'(by omega),cur2,?_,?_,?_,by rw[CI];omega⟩
  ·rw[←hsp];exact ht.trans ht2
  ·rw[CI,DY (by omega)];refine hp2.congr fun t htk=>?_
   unfold kF;rw[DA htk]
  intro y hy;obtain⟨c,hc,rfl⟩:=DD.1 hy;have:=hh.root c hc;rwa[fY (by omega),fY hc]at this
 have HP:Hid (∀W its3 x cur2,Hid (dD w g cap its cur (its3++[x]) cur2 W∧aH 0 its3.length (kF its3)∧(∀y∈its,x.due≤y.due)∧its3.length=k)→Calls Tryz.prog 234 #[.pointer (some ⟨rb,11,none⟩)] W fun e w'=>e=.returned (.iface 171 x.val)∧nE w rb C T (.slice (some ⟨g,0,none⟩) its.length cap) its3 g cap w'):=fun W its3 x cur2 hW=>by
  obtain⟨ht,-,-,hl3⟩:=hW.out;have hqa:=hq.Bv rfl ht hs hm;rw[show its.length=its3.length+1 by omega]at hqa ⊢
  refine(zt rb g cap its3 x (by omega) C T W hqa).mono ?_;rintro e w' ⟨he,ho⟩
  refine⟨he,ho.row,.inl rfl,ho.ne,ho.rbk,(ht.upd.mono (fun i hi=>?_)).trans ho.upd (fun i hi=>.inl hi)⟩;simp only[CK]at hi;rw[hi];simp[Value.ownBlock]
 have HE:Hid (∀W its3 x cur2 w',Hid (dD w g cap its cur (its3++[x]) cur2 W∧aH 0 its3.length (kF its3)∧(∀y∈its,x.due≤y.due)∧its3.length=k)→nE w rb C T (.slice (some ⟨g,0,none⟩) its.length cap) its3 g cap w'→∃x' its' g' cap',(Value.iface 171 x.val=Value.iface 171 x'.val)∧nE w rb C T (.slice (some ⟨g,0,none⟩) its.length cap) its' g' cap' w'∧(x'::its').Perm its∧aH 0 its'.length (kF its')∧∀y∈its,x'.due≤y.due):=fun W its3 x cur2 w' hW ho =>
  ⟨x,its3,g,cap,rfl,ho,(List.perm_append_comm (l₁:=[x]) (l₂:=its3)).trans hW.out.1.perm,hW.out.2.1,hW.out.2.2.1⟩
 have hmP:=fun W=>vR rb W
 have hmL:=jF rb w _ _ _ c11;have hmS:=gx rb w _ _ _ c11;rw[hk]at hmL hmS
 clear hq hh hr hs hm c11;go_enter Tryz.func138,Tryz.ntmps138
 go_wp2_with (first
  |(go_at_call 231;refine(lD _ _ _ _).mono ?_;rintro e w' ⟨rfl,rfl⟩)
  |(go_at_call 233;refine Calls.mono HS.out ?_;rintro e w1 ⟨rfl,cur1,ht1⟩)
  |(go_at_call 149;refine Calls.mono (HD.out _ cur1 ht1) ?_;rintro e w2 ⟨⟨bb,rfl⟩,its3,x,cur2,hW2⟩)
  |(go_at_call 234;refine Calls.mono (HP.out _ its3 x cur2 hW2) ?_;rintro e w3 ⟨rfl,ho⟩))
 go_ret
 obtain⟨x',its',g',cap',h1,h2⟩:=HE.out _ _ _ _ _ hW2 ho;exact⟨x',its',g',cap',by rw[←h1];rfl,h2⟩
theorem vZ(rb g cap:Nat)(its:List It)(hl:its.length≤1000)(cur:Array Value)(w:World)(h11:w.cell? ⟨rb,11,none⟩=some (.slice (some ⟨g,0,none⟩) its.length cap))(hq:fj w g cap its cur)(hne:g≠rb):Calls Tryz.prog 110 #[.iface 175 (.pointer (some ⟨rb,11,none⟩))] w fun e w'=>e=.returned (.tuple #[])∧∃its' cur',dD w g cap its cur its' cur' w'∧aH 0 its.length (kF its'):=by
 have H11:=hid h11;have HT0:Hid (dD w g cap its cur its cur w):=dD.refl hq;have hmL:=jF rb w _ _ _ h11;clear h11 hq;generalize hn:its.length=n at *;go_enter Tryz.func110,Tryz.ntmps110
 go_wp2_with (go_at_call 231;refine(lD _ _ _ _).mono ?_;rintro e w' ⟨rfl,hw⟩;have hw':=hw.symm;clear hw;subst hw')
 go_loopw [3] (fun v wr=>∃(m:Nat) (z:Int),v=.int .i64 z∧z+1=(m:Int)∧m≤n∧∃its' cur',Hid (dD w g cap its cur its' cur' wr∧aH m n (kF its'))) (fun v _=>(intOf v+1).toNat)
 case atStart=>exact⟨n / 2,(n:Int) / 2-1,rfl,by omega,by omega,its,cur,HT0.out,fun c h0 hc hp=>by omega⟩
 case round =>
  obtain⟨m,z,rfl,hz,hm,its',cur',HT⟩:=hrel;rcases m with _|k
  ·obtain rfl:z = -1:=by omega
   go_wp2
   go_end0
   exact⟨rfl,its',cur',HT.out.1,HT.out.2⟩
  obtain rfl:z=(k:Int):=by omega
  have hlen:=HT.out.1.len;have hc11:=HT.out.1.AF H11.out hne;have HD:Hid (Calls Tryz.prog 149 #[.iface 175 (.pointer (some ⟨rb,11,none⟩)),.int .i64 (k:Int),.int .i64 (n:Int)] wr fun e w'=>(∃b,e=.returned (.bool b))∧∃its2 cur2,dD w g cap its cur its2 cur2 w'∧aH k n (kF its2)):=by
   refine(xV rb g cap k n its' (by omega) (by omega) (by omega) cur' wr (by rw[hlen,hn];exact hc11) HT.out.1.row hne (gR.start HT.out.2)).mono ?_;rintro e w' ⟨hb,its2,cur2,ht2,hp2,-⟩
   exact⟨hb,its2,cur2,HT.out.1.trans ht2,hp2⟩
  go_wp2_with (go_at_call 149;refine Calls.mono HD.out ?_;rintro e w2 ⟨⟨bb,rfl⟩,its2,cur2,ht2,hp2⟩)
  go_roundw
  case rel=>exact⟨k,(k:Int)-1,rfl,by omega,by omega,its2,cur2,ht2,hp2⟩
  case measure=>simp[intOf]
theorem we(rb:Nat)(w:World)(h11:w.cell? ⟨rb,11,none⟩=some (.slice none 0 0)):Calls Tryz.prog 110 #[.iface 175 (.pointer (some ⟨rb,11,none⟩))] w fun e w'=>e=.returned (.tuple #[])∧w'=w:=by
 have hmL:=jF rb w _ _ _ h11;go_enter Tryz.func110,Tryz.ntmps110
 go_wp2_with (go_at_call 231;refine(lD _ _ _ _).mono ?_;rintro e w' ⟨rfl,hw⟩;have hw':=hw.symm;clear hw;subst hw')
 go_loopw [3] (fun v wr=>v=.int .i64 (-1)∧wr=w) (fun _ _=>0)
 case atStart=>exact⟨by first|rfl|(congr 1),rfl⟩
 case round =>
  obtain⟨rfl,rfl⟩:=hrel;go_wp2
  go_end0
  exact⟨rfl,rfl⟩
theorem zA(rb:Nat)(its:List It)(hl:its.length≤1000)(wv:Value)(C:Array Value)(T:TypeId)(w:World)(hq:gQ w rb C T wv its):Calls Tryz.prog 110 #[.iface 175 (.pointer (some ⟨rb,11,none⟩))] w fun e w'=>e=.returned (.tuple #[])∧∃its',gQ w' rb C T wv its'∧its'.Perm its∧aH 0 its'.length (kF its')∧an [wv.ownBlock] w w':=by
 have c11:w.cell? ⟨rb,11,none⟩=some wv:=by rw[cell_of_heap hq.rbk];exact hq.c11
 rcases id hq.row.2 with⟨h1,h0⟩|⟨g,cap,cur,h1,-,hg,hle,hm,hs,ht⟩
 ·rw[h1]at c11;refine(we rb w c11).mono ?_;rintro e w' ⟨he,rfl⟩
  exact⟨he,its,hq,List.Perm.refl _,fun c _ hc=>by omega,an.refl _ _⟩
 subst h1;have hgr:g≠rb:=fun e=>hq.ne (by rw[e];rfl)
 refine(vZ rb g cap its hl cur w c11 ⟨hg,hle,by omega,ht⟩ hgr).mono ?_;rintro e w' ⟨he,its',cur',ht',hp⟩
 exact⟨he,its',hq.Bv rfl ht' hs hm,ht'.perm,by rw[ht'.len];exact hp,ht'.upd⟩
theorem xJ(rb:Nat)(its:List It)(hl:its.length<1000)(now:Nat)(t:Nat)(en:En)(hd:now<1152921504606846976)(ht:t<5)(wv:Value)(C:Array Value)(T:TypeId)(w:World)(hq:gQ w rb C T wv its)(hh:aH 0 its.length (kF its))(h10:C[10]?=some (.int .i64 (now:Int))):Calls Tryz.prog 50 #[.pointer (some ⟨rb,10,none⟩),.int .i64 (t:Int),en.val] w fun e w' =>
   e=.returned (.tuple #[])∧∃its' g cap,nE w rb C T wv its' g cap w'∧its'.Perm (its++[⟨now,t,en,hd,ht⟩])∧aH 0 its'.length (kF its'):=by
 have hrb:=hq.rbk;have hrl:rb<w.heap.size:=(Cn.1 hrb).1;have HP:Hid (∀W,Below w.heap.size w W→Calls Tryz.prog 89 #[.iface 175 (.pointer (some ⟨rb,11,none⟩)),.iface 171 (.agg #[.int .i64 (now:Int),.int .i64 (t:Int),.int .i64 (en.org:Int),.int .i64 (en.seq:Int),.int .i64 (en.ah.a:Int),.int .i64 (en.ah.b:Int),.int .i64 (en.ah.c:Int),.int .i64 (en.ah.d:Int),.int .i64 (en.ah.e:Int),.int .i64 (en.c.k.num:Int),.string en.c.word,.int .i64 (en.c.count:Int)])] W fun e w' =>
   e=.returned (.tuple #[])∧∃its' g cap,nE W rb C T wv its' g cap w'∧its'.Perm (its++[⟨now,t,en,hd,ht⟩])∧aH 0 its'.length (kF its')):=fun W hW=>vD rb its hl ⟨now,t,en,hd,ht⟩ wv C T W (hq.below hW) hh
 have hrow:=hq.row;have c10:w.cell? ⟨rb,10,none⟩=some (.int .i64 (now:Int)):=by rw[cell_of_heap hrb,h10]
 have H10:=hid h10;have hwl:∀b,wv.ownBlock=some b→b<w.heap.size:=fun b hb=>(hrow.lt b hb).2
 clear hrow hrb h10 hq hh;simp only[En.val];go_enter Tryz.func50,Tryz.ntmps50
 go_upto_region 1 with fail
 obtain⟨wa,hwa⟩:∃wa,w.alloc (.cells #[.int .i64 (en.org:Int),.int .i64 (en.seq:Int),.int .i64 (en.ah.a:Int),.int .i64 (en.ah.b:Int),.int .i64 (en.ah.c:Int),.int .i64 (en.ah.d:Int),.int .i64 (en.ah.e:Int),.int .i64 (en.c.k.num:Int),.string en.c.word,.int .i64 (en.c.count:Int)] 122)=wa:=⟨_,rfl⟩
 have hba:Below w.heap.size w wa:=by rw[←hwa];exact(Ck _ w).alloc (Cl _) _
 have hea:wa.heap[w.heap.size]?=some (.cells #[.int .i64 (en.org:Int),.int .i64 (en.seq:Int),.int .i64 (en.ah.a:Int),.int .i64 (en.ah.b:Int),.int .i64 (en.ah.c:Int),.int .i64 (en.ah.d:Int),.int .i64 (en.ah.e:Int),.int .i64 (en.c.k.num:Int),.string en.c.word,.int .i64 (en.c.count:Int)] 122 (0,0)):=by rw[←hwa];exact heap_alloc_new w _
 have hsa:wa.heap.size=w.heap.size+1:=by rw[←hwa];simp
 rw[hwa];clear hwa;have a10:=aa hba c10;have a0:wa.cell? ⟨w.heap.size,0,none⟩=some (.int .i64 (en.org:Int)):=cell_of_heap hea _;have a1:wa.cell? ⟨w.heap.size,1,none⟩=some (.int .i64 (en.seq:Int)):=cell_of_heap hea _;have a2:wa.cell? ⟨w.heap.size,2,none⟩=some (.int .i64 (en.ah.a:Int)):=cell_of_heap hea _;have a3:wa.cell? ⟨w.heap.size,3,none⟩=some (.int .i64 (en.ah.b:Int)):=cell_of_heap hea _;have a4:wa.cell? ⟨w.heap.size,4,none⟩=some (.int .i64 (en.ah.c:Int)):=cell_of_heap hea _;have a5:wa.cell? ⟨w.heap.size,5,none⟩=some (.int .i64 (en.ah.d:Int)):=cell_of_heap hea _;have a6:wa.cell? ⟨w.heap.size,6,none⟩=some (.int .i64 (en.ah.e:Int)):=cell_of_heap hea _;have a7:wa.cell? ⟨w.heap.size,7,none⟩=some (.int .i64 (en.c.k.num:Int)):=cell_of_heap hea _;have a8:wa.cell? ⟨w.heap.size,8,none⟩=some (.string en.c.word):=cell_of_heap hea _
 have a9:wa.cell? ⟨w.heap.size,9,none⟩=some (.int .i64 (en.c.count:Int)):=cell_of_heap hea _;have HBA:Hid (Below w.heap.size w wa):=hba;have HPA:=HP.out wa.drew hba.drew;have HPH:Hid _:=HPA;have HEA:Hid (wa.heap[w.heap.size]?=some (.cells #[.int .i64 (en.org:Int),.int .i64 (en.seq:Int),.int .i64 (en.ah.a:Int),.int .i64 (en.ah.b:Int),.int .i64 (en.ah.c:Int),.int .i64 (en.ah.d:Int),.int .i64 (en.ah.e:Int),.int .i64 (en.c.k.num:Int),.string en.c.word,.int .i64 (en.c.count:Int)] 122 (0,0))):=hea
 have HK:Hid (∀w2 g cap L,w2.heap[rb]?=some (.cells (C.setIfInBounds 11 (.slice (some ⟨g,0,none⟩) L cap)) T (0,0))→an [some rb,wv.ownBlock] wa.drew w2→w2.cell? ⟨rb,10,none⟩=some (.int .i64 (now:Int))∧w2.heap[w.heap.size]?=some (.cells #[.int .i64 (en.org:Int),.int .i64 (en.seq:Int),.int .i64 (en.ah.a:Int),.int .i64 (en.ah.b:Int),.int .i64 (en.ah.c:Int),.int .i64 (en.ah.d:Int),.int .i64 (en.ah.e:Int),.int .i64 (en.c.k.num:Int),.string en.c.word,.int .i64 (en.c.count:Int)] 122 (0,0))):=fun w2 g cap L h1 h2=>by
  refine⟨by rw[cell_of_heap h1,Array.getElem?_setIfInBounds_ne (by omega)];exact H10.out,(h2.block w.heap.size (by show w.heap.size<wa.heap.size;omega) fun hm=>?_).trans HEA.out⟩;simp only[List.mem_cons,List.not_mem_nil,or_false,Option.some.injEq]at hm;rcases hm with h|h
  ·omega
  have:=hwl _ h.symm;omega
 clear c10 hba hea HPA HP;generalize hb0:w.heap.size=b0 at *;generalize hr0:(en.ah.a:Int)=r0 at *;generalize hr1:(en.ah.b:Int)=r1 at *;generalize hr2:(en.ah.c:Int)=r2 at *;generalize hr3:(en.ah.d:Int)=r3 at *;generalize hr4:(en.ah.e:Int)=r4 at *;go_region_held3 (fun w'=>w'.cell? ⟨rb,10,none⟩=some (.int .i64 (now:Int))∧w'.cell? ⟨b0,0,none⟩=some (.int .i64 (en.org:Int))∧w'.cell? ⟨b0,1,none⟩=some (.int .i64 (en.seq:Int))∧w'.cell? ⟨b0,2,none⟩=some (.int .i64 r0)∧w'.cell? ⟨b0,3,none⟩=some (.int .i64 r1)∧w'.cell? ⟨b0,4,none⟩=some (.int .i64 r2)∧w'.cell? ⟨b0,5,none⟩=some (.int .i64 r3)∧w'.cell? ⟨b0,6,none⟩=some (.int .i64 r4)∧w'.cell? ⟨b0,7,none⟩=some (.int .i64 (en.c.k.num:Int))∧w'.cell? ⟨b0,8,none⟩=some (.string en.c.word)∧w'.cell? ⟨b0,9,none⟩=some (.int .i64 (en.c.count:Int))) (first
   |exact⟨a10,a0,a1,a2,a3,a4,a5,a6,a7,a8,a9⟩
   |exact⟨k10,by rw[cell_of_heap kh];rfl,by rw[cell_of_heap kh];rfl,by rw[cell_of_heap kh];rfl,by rw[cell_of_heap kh];rfl,by rw[cell_of_heap kh];rfl,by rw[cell_of_heap kh];rfl,by rw[cell_of_heap kh];rfl,by rw[cell_of_heap kh];rfl,by rw[cell_of_heap kh];rfl,by rw[cell_of_heap kh];rfl⟩
   |go_keep) (first
   |(go_at_call 89;refine Calls.mono HPH.out ?_;rintro e w2 ⟨rfl,its',g,cap,o1,o2,o3⟩;obtain⟨k10,kh⟩:=HK.out w2 g cap _ o1.rbk o1.upd))
 go_end0
 refine⟨rfl,its',g,cap,⟨o1.row,?_,o1.ne,o1.rbk,(an.of_below (S:=[some rb,wv.ownBlock]) (by rw[hb0];exact HBA.out.drew)).trans o1.upd (fun i hi=>.inl hi)⟩,o2,o3⟩;rcases o1.own with h|h
 ·exact .inl h
 exact .inr (by have:wa.drew.heap.size=wa.heap.size:=rfl;omega)
theorem zl(rb now:Nat)(hn:now<1152921504606846976)(w:World)(h10:w.cell? ⟨rb,10,none⟩=some (.int .i64 (now:Int)))(f10:w.frozen? ⟨rb,10,none⟩=false):Calls Tryz.prog 54 #[.pointer (some ⟨rb,10,none⟩)] w fun e w'=>e=.returned (.tuple #[])∧w'=w.setCell ⟨rb,10,none⟩ (.int .i64 ((now+1:Nat):Int)):=by
 go_enter Tryz.func54,Tryz.ntmps54
 go_wp2
 go_end0
 exact⟨rfl,rfl⟩
theorem zZ(rb to:Nat)(ht:to<5)(w:World)(b:Bool)(h12:w.cell? ⟨rb,12+to,none⟩=some (.bool b))(f12:w.frozen? ⟨rb,12+to,none⟩=false):Calls Tryz.prog 63 #[.pointer (some ⟨rb,10,none⟩),.int .i64 (to:Int)] w fun e w'=>e=.returned (.tuple #[])∧w'=w.setCell ⟨rb,12+to,none⟩ (.bool true):=by
 have h0:(0:Int)≤(to:Int):=by omega
 have h5:(to:Int)<5:=by omega
 have h6:(to:Int)≤5:=by omega
 go_enter Tryz.func63,Tryz.ntmps63
 go_wp2
 go_end0
 exact⟨rfl,rfl⟩
def fK(to cnt:Nat)(x:It):Bool:=decide (x.to=to) && decide (x.en.seq≤cnt)
theorem sU(tb cb to cnt:Nat)(x:It)(w:World)(ht:w.cell? ⟨tb,0,none⟩=some (.int .i64 (to:Int)))(hc:w.cell? ⟨cb,0,none⟩=some (.int .i64 (cnt:Int))):Calls Tryz.prog 109 #[.agg #[.int .i64 (x.due:Int),.int .i64 (x.to:Int),.int .i64 (x.en.org:Int),.int .i64 (x.en.seq:Int),.int .i64 (x.en.ah.a:Int),.int .i64 (x.en.ah.b:Int),.int .i64 (x.en.ah.c:Int),.int .i64 (x.en.ah.d:Int),.int .i64 (x.en.ah.e:Int),.int .i64 (x.en.c.k.num:Int),.string x.en.c.word,.int .i64 (x.en.c.count:Int)],.pointer (some ⟨tb,0,none⟩),.pointer (some ⟨cb,0,none⟩)] w fun e w'=>e=.returned (.bool (fK to cnt x))∧Below w.heap.size w w':=by
 have htl:tb<w.heap.size:=Cy w _ ht;have hcl:cb<w.heap.size:=Cy w _ hc;have HB:Hid (∀o,Below w.heap.size w (w.alloc o)):=fun o=>(Ck _ w).alloc (Cl _) _
 by_cases h1:x.to=to
 ·have e1:((x.to:Int) == (to:Int))=true:=beq_iff_eq.2 (by omega);have HD:Hid (fK to cnt x=decide (x.en.seq≤cnt)):=by
   show _=_
   unfold fK;rw[decide_eq_true h1,Bool.true_and]
  clear h1;go_enter Tryz.func109,Tryz.ntmps109
  go_wp2
  go_ret
  exact⟨aF HD.out.symm,HB.out _⟩
 have e1:((x.to:Int) == (to:Int))=false:=beq_eq_false_iff_ne.2 (by omega);have HD:Hid (fK to cnt x=false):=by
  show _=_
  unfold fK;rw[decide_eq_false h1,Bool.false_and]
 clear h1;go_enter Tryz.func109,Tryz.ntmps109
 go_wp2
 go_ret
 exact⟨aF HD.out.symm,HB.out _⟩
theorem yI(g cap tb cb to cnt:Nat)(its:List It)(hl:its.length≤1000)(cur:Array Value)(w:World)(hq:fj w g cap its cur)(ht:w.cell? ⟨tb,0,none⟩=some (.int .i64 (to:Int)))(hc:w.cell? ⟨cb,0,none⟩=some (.int .i64 (cnt:Int))):Calls Tryz.prog 148 #[.slice (some ⟨g,0,none⟩) its.length cap,.func (.func 109) #[] #[.pointer (some ⟨tb,0,none⟩),.pointer (some ⟨cb,0,none⟩)]] w fun e w' =>
   Below w.heap.size w w'∧((e=.returned (.int .i64 (-1))∧∀x∈its,fK to cnt x=false)∨∃k,∃h:k<its.length,e=.returned (.int .i64 (k:Int))∧fK to cnt its[k]=true∧∀t,∀h:t<its.length,t<k→fK to cnt its[t]=false):=by
 have HQ:=hid hq;have HT:Hid (w.cell? ⟨tb,0,none⟩=some (.int .i64 (to:Int))∧w.cell? ⟨cb,0,none⟩=some (.int .i64 (cnt:Int))):=⟨ht,hc⟩;clear hq ht hc;go_enter Tryz.func148,Tryz.ntmps148
 go_wp2
 go_loopw [8] (fun v wr=>∃j:Nat,j≤its.length∧v=.int .i64 j∧Hid (Below w.heap.size w wr∧∀t,∀h:t<its.length,t<j→fK to cnt its[t]=false)) (fun v _=>its.length-(intOf v).toNat)
 case atStart=>exact⟨0,CB _,rfl,Ck _ _,fun t _ h=>by omega⟩
 case round =>
  obtain⟨j,hj,rfl,HI⟩:=hrel;by_cases hlt:j<its.length
  ·have hr:=HQ.out.below HI.out.1;have j0:(0:Int)≤(j:Int):=by omega
   have j1:(j:Int)<(its.length:Int):=by omega
   have HK:=sU tb cb to cnt its[j] wr (aa HI.out.1 HT.out.1) (aa HI.out.1 HT.out.2)
   obtain⟨p0,p1,p2,p3,p4,p5,p6,p7,p8,p9,p11,ps,hv,c0,c1,c2,c3,c4,c5,c6,c7,c8,c9,c10,c11⟩:∃(p0 p1 p2 p3 p4 p5 p6 p7 p8 p9 p11:Int) (ps:ByteArray),its[j].val=.agg #[.int .i64 p0,.int .i64 p1,.int .i64 p2,.int .i64 p3,.int .i64 p4,.int .i64 p5,.int .i64 p6,.int .i64 p7,.int .i64 p8,.int .i64 p9,.string ps,.int .i64 p11]∧wr.cell? ⟨g,j*12,none⟩=some (.int .i64 p0)∧wr.cell? ⟨g,j*12+1,none⟩=some (.int .i64 p1)∧wr.cell? ⟨g,j*12+2,none⟩=some (.int .i64 p2)∧wr.cell? ⟨g,j*12+3,none⟩=some (.int .i64 p3)∧wr.cell? ⟨g,j*12+4,none⟩=some (.int .i64 p4)∧wr.cell? ⟨g,j*12+5,none⟩=some (.int .i64 p5)∧wr.cell? ⟨g,j*12+6,none⟩=some (.int .i64 p6)∧wr.cell? ⟨g,j*12+7,none⟩=some (.int .i64 p7)∧wr.cell? ⟨g,j*12+8,none⟩=some (.int .i64 p8)∧wr.cell? ⟨g,j*12+9,none⟩=some (.int .i64 p9)∧wr.cell? ⟨g,j*12+10,none⟩=some (.string ps)∧wr.cell? ⟨g,j*12+11,none⟩=some (.int .i64 p11):=⟨_,_,_,_,_,_,_,_,_,_,_,_,rfl,hr.cell (i:=j) (o:=0) hlt (by omega) rfl,hr.cell (i:=j) (o:=1) hlt (by omega) rfl,hr.cell (i:=j) (o:=2) hlt (by omega) rfl,hr.cell (i:=j) (o:=3) hlt (by omega) rfl,hr.cell (i:=j) (o:=4) hlt (by omega) rfl,hr.cell (i:=j) (o:=5) hlt (by omega) rfl,hr.cell (i:=j) (o:=6) hlt (by omega) rfl,hr.cell (i:=j) (o:=7) hlt (by omega) rfl,hr.cell (i:=j) (o:=8) hlt (by omega) rfl,hr.cell (i:=j) (o:=9) hlt (by omega) rfl,hr.cell (i:=j) (o:=10) hlt (by omega) rfl,hr.cell (i:=j) (o:=11) hlt (by omega) rfl⟩
   simp only[It.val]at hv;rw[hv]at HK
   have HN:Hid (fK to cnt its[j]=false→∀t,∀h:t<its.length,t<j+1→fK to cnt its[t]=false):=fun hf t h htj=>by
    by_cases e:t=j
    ·subst e;exact hf
    exact HI.out.2 t h (by omega)
   obtain⟨db,hdb⟩:∃db,fK to cnt its[j]=db:=⟨_,rfl⟩
   rw[hdb]at HK;have HDB:Hid (fK to cnt its[j]=db):=hdb;have HKK:Hid _:=HK;clear hv hr HK hdb;cases db with
   |true =>
    go_wp2_with (go_at_call 109;refine Calls.mono HKK.out ?_;rintro e w1 ⟨rfl,hb1⟩)
    go_ret
    exact⟨HI.out.1.trans (hb1.mono HI.out.1.size),.inr ⟨j,hlt,rfl,HDB.out,fun t h htj=>HI.out.2 t h htj⟩⟩
   |false =>
    go_wp2_with (go_at_call 109;refine Calls.mono HKK.out ?_;rintro e w1 ⟨rfl,hb1⟩)
    go_roundw
    case rel=>exact⟨j+1,by omega,by go_num,HI.out.1.trans (hb1.mono HI.out.1.size),HN.out HDB.out⟩
    case measure=>simp[intOf];omega
  go_wp2
  go_ret
  exact⟨HI.out.1,.inl ⟨rfl,fun x hx=>by
   obtain⟨t,ht,rfl⟩:=DD.1 hx;exact HI.out.2 t ht (by omega)⟩⟩
theorem gZ(w:World)(g:Nat):∀(vs:List Value) (s:Nat),w.setCells g s vs=bY w g s vs
 |[],_=>rfl
 |v::vs,s=>by rw[World.setCells,bY];exact gZ _ g vs (s+1)
theorem xI(g m n c:Nat)(cur:Array Value)(w:World)(hb:w.heap[g]?=some (.cells cur 171 (0,0)))(hs:(m+n)*12≤cur.size):∃w',(∀ty,(Builtin.clear_ #[108] ty #[.slice (some ⟨g,m*12,none⟩) n c]).run Tryz.prog w=.ok (.tuple #[]) w')∧(∃cur',w'.heap[g]?=some (.cells cur' 171 (0,0))∧cur'.size=cur.size∧cur'.toList.take (m*12)=cur.toList.take (m*12))∧an [some g] w w':=by
 rcases n with _|n
 ·exact⟨w,fun ty=>by simp[Builtin.clear_,run_underlying Tryz.underlying108],⟨cur,hb,rfl,rfl⟩,an.refl _ _⟩
 obtain⟨zs,hzs⟩:∃zs,zs=(Builtin.zeroCells #[.int .i64 0,.int .i64 0,.int .i64 0,.int .i64 0,.int .i64 0,.int .i64 0,.int .i64 0,.int .i64 0,.int .i64 0,.int .i64 0,.string ⟨#[]⟩,.int .i64 0] (n+1)).toList:=⟨_,rfl⟩
 have hlen:zs.length=(n+1)*12:=by rw[hzs];simp[Builtin.zeroCells]
 have hone:∀v∈zs,v.oneCell'=true:=by
  intro v hv;rw[hzs]at hv
  simp only[Builtin.zeroCells,Array.toList_map,List.mem_map]at hv;obtain⟨t,-,rfl⟩:=hv;have:t % 12<12:=Nat.mod_lt _ (by omega);show(#[Value.int .i64 0,.int .i64 0,.int .i64 0,.int .i64 0,.int .i64 0,.int .i64 0,.int .i64 0,.int .i64 0,.int .i64 0,.int .i64 0,.string ⟨#[]⟩,.int .i64 0][t % 12]!).oneCell'=true
  generalize t % 12=r at *;rcases(show r=0∨r=1∨r=2∨r=3∨r=4∨r=5∨r=6∨r=7∨r=8∨r=9∨r=10∨r=11 by omega) with rfl|rfl|rfl|rfl|rfl|rfl|rfl|rfl|rfl|rfl|rfl|rfl <;> rfl
 have hst:=run_storeCells_cells (P:=Tryz.prog) g (m*12) zs 0 w (fun t ht=>by
  rw[cell_of_heap hb,Array.getElem?_eq_getElem (by omega)];rfl) (fun t ht=>frozen_of_heap hb _) hone
 simp only[Nat.add_zero]at hst;refine⟨w.setCells g (m*12) zs,?_,⟨putMany cur (m*12) zs,by rw[gZ];exact eK zs (m*12) w cur hb,cJ _ _ _,?_⟩,by rw[gZ];exact fi _ _ _⟩
 ·intro ty;have hz:=Tryz.zeroValue171;have hzc:(Value.agg #[.int .i64 0,.int .i64 0,.int .i64 0,.int .i64 0,.int .i64 0,.int .i64 0,.int .i64 0,.int .i64 0,.int .i64 0,.int .i64 0,.string ⟨#[]⟩,.int .i64 0]).cells=#[.int .i64 0,.int .i64 0,.int .i64 0,.int .i64 0,.int .i64 0,.int .i64 0,.int .i64 0,.int .i64 0,.int .i64 0,.int .i64 0,.string ⟨#[]⟩,.int .i64 0]:=rfl;simp[Builtin.clear_,run_underlying Tryz.underlying108,hz,hzc,←hzs,hst]
 apply List.ext_getElem?
 intro t;by_cases ht:t<m*12
 ·rw[DA ht,DA ht,DI,DI,ig _ _ _ t (by omega),if_neg (by omega)]
 rw[DP (by rw[CI];omega),DP (by rw[CI];omega)]
def cN(to cnt:Nat)(its:List It):List It:=its.filter fun x=>!fK to cnt x
theorem mo(to cnt:Nat)(its:List It)(x:It):cN to cnt (its++[x])=if fK to cnt x=true then cN to cnt its else cN to cnt its++[x]:=by
 unfold cN;rw[List.filter_append];cases h:fK to cnt x <;> simp[h]
theorem vT(to cnt:Nat)(its:List It):(cN to cnt its).length≤its.length:=DE _ _
structure kL(w:World)(g cap to cnt:Nat)(its:List It)(cur:Array Value)(i j:Nat)(its':List It)(cur':Array Value)(W:World):Prop where
 row:fj W g cap its' cur'
 len:its'.length=its.length
 csz:cur'.size=cur.size
 fst:its'.take i=cN to cnt (its.take j)
 rest:∀t,j≤t→its'[t]?=its[t]?
 upd:an [some g] w W
theorem kL.below{w:World}{g cap to cnt:Nat}{its:List It}{cur:Array Value}{i j:Nat}{its':List It}{cur':Array Value}{W W':World}(h:kL w g cap to cnt its cur i j its' cur' W)(hb:Below W.heap.size W W'):kL w g cap to cnt its cur i j its' cur' W':=⟨h.row.below hb,h.len,h.csz,h.fst,h.rest,h.upd.trans (an.of_below (S:=[some g]) hb) (fun i hi=>.inl hi)⟩
theorem kL.drop{its:List It}{its':List It}(h:kL w g cap to cnt its cur i j its' cur' W)(hj:j<its.length)(hd:fK to cnt its[j]=true):kL w g cap to cnt its cur i (j+1) its' cur' W:=by
 refine⟨h.row,h.len,h.csz,?_,fun t ht=>h.rest t (by omega),h.upd⟩;rw[fG its j hj,mo,if_pos hd];exact h.fst
theorem kL.keep{its:List It}{its':List It}(h:kL w g cap to cnt its cur i j its' cur' W)(hij:i<j)(hj:j<its.length)(hd:fK to cnt its[j]=false){xs:List Value}(hxs:xs=its[j].cells):kL w g cap to cnt its cur (i+1) (j+1) (its'.set i its[j]) (putMany cur' (i*12) xs) (bY W g (i*12) xs):=by
 have hl:=h.len;have hsz:its'.length*12≤cur'.size:=CC (D4 _ h.row.le) h.row.size;refine⟨⟨eK xs (i*12) W cur' h.row.blk,by simpa using h.row.le,by rw[cJ];exact h.row.size,?_⟩,by simpa using hl,by rw[cJ];exact h.csz,?_,fun t ht=>?_,h.upd.trans (fi _ _ _) (fun i hi=>.inl hi)⟩
 ·rw[List.length_set,hxs];exact kz rfl hsz h.row.row (by omega) its[j]
 ·rw[fG its j hj,mo,if_neg (by simp[hd]),←h.fst,fG _ i (by simp;omega),List.getElem_set_self,List.take_set_of_le (Cl _)]
 rw[List.getElem?_set_ne (by omega)];exact h.rest t (by omega)
theorem xF(g cap tb cb to cnt:Nat)(its:List It)(hl:its.length≤1000)(cur:Array Value)(hm:cap≤maxLen)(w:World)(hq:fj w g cap its cur)(htb:tb≠g)(hcb:cb≠g)(ht:w.cell? ⟨tb,0,none⟩=some (.int .i64 (to:Int)))(hc:w.cell? ⟨cb,0,none⟩=some (.int .i64 (cnt:Int))):Calls Tryz.prog 108 #[.slice (some ⟨g,0,none⟩) its.length cap,.func (.func 109) #[] #[.pointer (some ⟨tb,0,none⟩),.pointer (some ⟨cb,0,none⟩)]] w fun e w' =>
   e=.returned (.slice (some ⟨g,0,none⟩) (cN to cnt its).length cap)∧∃cur',fj w' g cap (cN to cnt its) cur'∧cur'.size=cur.size∧an [some g] w w':=by
 unfold maxLen at hm;have hle:=hq.le;have HX:Hid (Calls Tryz.prog 148 #[.slice (some ⟨g,0,none⟩) its.length cap,.func (.func 109) #[] #[.pointer (some ⟨tb,0,none⟩),.pointer (some ⟨cb,0,none⟩)]] w fun e w' =>
   ∃z:Int,e=.returned (.int .i64 z)∧((z = -1∧Hid (cN to cnt its=its∧Below w.heap.size w w'))∨∃k:Nat,z=(k:Int)∧k<its.length∧Hid (kL w g cap to cnt its cur k (k+1) its cur w'))):=by
  refine(yI g cap tb cb to cnt its hl cur w hq ht hc).mono ?_;rintro e w' ⟨hb,⟨rfl,h⟩|⟨k,hk,rfl,h1,h2⟩⟩
  ·exact⟨-1,rfl,.inl ⟨rfl,List.filter_eq_self.2 (fun x hx=>by rw[h x hx];rfl),hb⟩⟩
  refine⟨k,rfl,.inr ⟨k,rfl,hk,?_⟩⟩;have h0:kL w g cap to cnt its cur k k its cur w:=⟨hq,rfl,rfl,(List.filter_eq_self.2 (fun x hx=>by
   obtain⟨t,ht',rfl⟩:=DD.1 hx;have htk:t<k:=by simp at ht';omega
   rw[List.getElem_take,h2 t (by omega) htk];rfl)).symm,fun _ _=>rfl,an.refl _ _⟩
  exact(h0.drop hk h1).below hb
 have HC:Hid (∀W,an [some g] w W→W.cell? ⟨tb,0,none⟩=some (.int .i64 (to:Int))∧W.cell? ⟨cb,0,none⟩=some (.int .i64 (cnt:Int))):=fun W hW =>
  ⟨(CE (a:=⟨tb,0,none⟩) (hW.block tb (Cy w _ ht) (by simp;exact htb))).trans ht,(CE (a:=⟨cb,0,none⟩) (hW.block cb (Cy w _ hc) (by simp;exact hcb))).trans hc⟩
 have HQ:=hid hq;clear hq ht hc;go_enter Tryz.func108,Tryz.ntmps108
 go_upto_region 2 with(go_at_call 148;refine Calls.mono HX.out ?_;rintro e wi ⟨z,rfl,hz⟩)
 rcases hz with⟨rfl,hz⟩|⟨k,rfl,hk,hI⟩
 ·go_wp2
  go_ret
  obtain⟨e1,hb⟩:=hz.out;rw[e1];exact⟨rfl,cur,HQ.out.below hb,rfl,an.of_below hb⟩
 have ek:((k:Int) == -1)=false:=beq_eq_false_iff_ne.2 (by omega);go_wp2
 go_loopw [5,6] (fun vi vj wr=>∃i j:Nat,vi=.int .i64 i∧vj=.int .i64 j∧i<j∧j≤its.length∧∃its' cur',Hid (kL w g cap to cnt its cur i j its' cur' wr)) (fun _ vj _=>its.length-(intOf vj).toNat)
 case atStart=>exact⟨k,k+1,rfl,by go_num,by omega,by omega,its,cur,hI⟩
 case round =>
  obtain⟨i,j,rfl,rfl,hij,hj,its',cur',HD⟩:=hrel;have i0:(0:Int)≤(i:Int):=by omega
  have i1:(i:Int)<(its.length:Int):=by omega
  have j0:(0:Int)≤(j:Int):=by omega
  have hlen:=HD.out.len;have hgl:g<wr.heap.size:=(Cn.1 HD.out.row.blk).1;by_cases hlt:j<its.length
  ·have j1:(j:Int)<(its.length:Int):=by omega
   have hij':its'[j]'(by omega)=its[j]:=by
    have:=HD.out.rest j (Cl _);rw[Cr (by omega),Cr hlt]at this
    exact Option.some.inj this
   have hcj:∀o v,o<12→its[j].cells[o]?=some v→wr.cell? ⟨g,j*12+o,none⟩=some v:=fun o v ho hv=>HD.out.row.cell (i:=j) (o:=o) (by omega) ho (by rw[hij'];exact hv)
   obtain⟨p0,p1,p2,p3,p4,p5,p6,p7,p8,p9,p11,ps,hxc,hxv,c0,c1,c2,c3,c4,c5,c6,c7,c8,c9,c10,c11⟩:∃(p0 p1 p2 p3 p4 p5 p6 p7 p8 p9 p11:Int) (ps:ByteArray),its[j].cells=[.int .i64 p0,.int .i64 p1,.int .i64 p2,.int .i64 p3,.int .i64 p4,.int .i64 p5,.int .i64 p6,.int .i64 p7,.int .i64 p8,.int .i64 p9,.string ps,.int .i64 p11]∧its[j].val=.agg #[.int .i64 p0,.int .i64 p1,.int .i64 p2,.int .i64 p3,.int .i64 p4,.int .i64 p5,.int .i64 p6,.int .i64 p7,.int .i64 p8,.int .i64 p9,.string ps,.int .i64 p11]∧wr.cell? ⟨g,j*12,none⟩=some (.int .i64 p0)∧wr.cell? ⟨g,j*12+1,none⟩=some (.int .i64 p1)∧wr.cell? ⟨g,j*12+2,none⟩=some (.int .i64 p2)∧wr.cell? ⟨g,j*12+3,none⟩=some (.int .i64 p3)∧wr.cell? ⟨g,j*12+4,none⟩=some (.int .i64 p4)∧wr.cell? ⟨g,j*12+5,none⟩=some (.int .i64 p5)∧wr.cell? ⟨g,j*12+6,none⟩=some (.int .i64 p6)∧wr.cell? ⟨g,j*12+7,none⟩=some (.int .i64 p7)∧wr.cell? ⟨g,j*12+8,none⟩=some (.int .i64 p8)∧wr.cell? ⟨g,j*12+9,none⟩=some (.int .i64 p9)∧wr.cell? ⟨g,j*12+10,none⟩=some (.string ps)∧wr.cell? ⟨g,j*12+11,none⟩=some (.int .i64 p11):=⟨_,_,_,_,_,_,_,_,_,_,_,_,rfl,rfl,hcj 0 _ (by omega) rfl,hcj 1 _ (by omega) rfl,hcj 2 _ (by omega) rfl,hcj 3 _ (by omega) rfl,hcj 4 _ (by omega) rfl,hcj 5 _ (by omega) rfl,hcj 6 _ (by omega) rfl,hcj 7 _ (by omega) rfl,hcj 8 _ (by omega) rfl,hcj 9 _ (by omega) rfl,hcj 10 _ (by omega) rfl,hcj 11 _ (by omega) rfl⟩
   have HB:Hid (Below wr.heap.size wr (wr.alloc (.cells #[.int .i64 p0,.int .i64 p1,.int .i64 p2,.int .i64 p3,.int .i64 p4,.int .i64 p5,.int .i64 p6,.int .i64 p7,.int .i64 p8,.int .i64 p9,.string ps,.int .i64 p11] 171))):=(Ck _ wr).alloc (Cl _) _;have HK:=sU tb cb to cnt its[j] (wr.alloc (.cells #[.int .i64 p0,.int .i64 p1,.int .i64 p2,.int .i64 p3,.int .i64 p4,.int .i64 p5,.int .i64 p6,.int .i64 p7,.int .i64 p8,.int .i64 p9,.string ps,.int .i64 p11] 171)) (aa HB.out (HC.out wr HD.out.upd).1) (aa HB.out (HC.out wr HD.out.upd).2);simp only[It.val]at hxv;rw[hxv]at HK
   obtain⟨db,hdb⟩:∃db,fK to cnt its[j]=db:=⟨_,rfl⟩
   rw[hdb]at HK;have HDB:Hid (fK to cnt its[j]=db):=hdb;have HXC:Hid ([.int .i64 p0,.int .i64 p1,.int .i64 p2,.int .i64 p3,.int .i64 p4,.int .i64 p5,.int .i64 p6,.int .i64 p7,.int .i64 p8,.int .i64 p9,.string ps,.int .i64 p11]=its[j].cells):=hxc.symm;have HKK:Hid _:=HK
   have HW1:Hid (∀w1,Below (wr.alloc (.cells #[.int .i64 p0,.int .i64 p1,.int .i64 p2,.int .i64 p3,.int .i64 p4,.int .i64 p5,.int .i64 p6,.int .i64 p7,.int .i64 p8,.int .i64 p9,.string ps,.int .i64 p11] 171)).heap.size (wr.alloc (.cells #[.int .i64 p0,.int .i64 p1,.int .i64 p2,.int .i64 p3,.int .i64 p4,.int .i64 p5,.int .i64 p6,.int .i64 p7,.int .i64 p8,.int .i64 p9,.string ps,.int .i64 p11] 171)) w1→kL w g cap to cnt its cur i j its' cur' w1∧(∀o,w1.frozen? ⟨g,o,none⟩=false)∧(w1.cell? ⟨wr.heap.size,0,none⟩=some (.int .i64 p0)∧w1.cell? ⟨wr.heap.size,1,none⟩=some (.int .i64 p1)∧w1.cell? ⟨wr.heap.size,2,none⟩=some (.int .i64 p2)∧w1.cell? ⟨wr.heap.size,3,none⟩=some (.int .i64 p3)∧w1.cell? ⟨wr.heap.size,4,none⟩=some (.int .i64 p4)∧w1.cell? ⟨wr.heap.size,5,none⟩=some (.int .i64 p5)∧w1.cell? ⟨wr.heap.size,6,none⟩=some (.int .i64 p6)∧w1.cell? ⟨wr.heap.size,7,none⟩=some (.int .i64 p7)∧w1.cell? ⟨wr.heap.size,8,none⟩=some (.int .i64 p8)∧w1.cell? ⟨wr.heap.size,9,none⟩=some (.int .i64 p9)∧w1.cell? ⟨wr.heap.size,10,none⟩=some (.string ps)∧w1.cell? ⟨wr.heap.size,11,none⟩=some (.int .i64 p11))∧∃(q0 q1 q2 q3 q4 q5 q6 q7 q8 q9 q11:Int) (qs:ByteArray),True∧w1.cell? ⟨g,i*12,none⟩=some (.int .i64 q0)∧w1.cell? ⟨g,i*12+1,none⟩=some (.int .i64 q1)∧w1.cell? ⟨g,i*12+2,none⟩=some (.int .i64 q2)∧w1.cell? ⟨g,i*12+3,none⟩=some (.int .i64 q3)∧w1.cell? ⟨g,i*12+4,none⟩=some (.int .i64 q4)∧w1.cell? ⟨g,i*12+5,none⟩=some (.int .i64 q5)∧w1.cell? ⟨g,i*12+6,none⟩=some (.int .i64 q6)∧w1.cell? ⟨g,i*12+7,none⟩=some (.int .i64 q7)∧w1.cell? ⟨g,i*12+8,none⟩=some (.int .i64 q8)∧w1.cell? ⟨g,i*12+9,none⟩=some (.int .i64 q9)∧w1.cell? ⟨g,i*12+10,none⟩=some (.string qs)∧w1.cell? ⟨g,i*12+11,none⟩=some (.int .i64 q11)):=fun w1 hb1=>by
    have hD1:=(HD.out.below HB.out).below hb1;have hbx:w1.heap[wr.heap.size]?=some (.cells #[.int .i64 p0,.int .i64 p1,.int .i64 p2,.int .i64 p3,.int .i64 p4,.int .i64 p5,.int .i64 p6,.int .i64 p7,.int .i64 p8,.int .i64 p9,.string ps,.int .i64 p11] 171 (0,0)):=(hb1.block _ (by simp)).trans (heap_alloc_new wr _);have hci:∀o v,o<12→(its'[i]'(by omega)).cells[o]?=some v→w1.cell? ⟨g,i*12+o,none⟩=some v:=fun o v ho hv=>hD1.row.cell (i:=i) (o:=o) (by omega) ho hv
    exact⟨hD1,frozen_of_heap hD1.row.blk,⟨by rw[cell_of_heap hbx];rfl,by rw[cell_of_heap hbx];rfl,by rw[cell_of_heap hbx];rfl,by rw[cell_of_heap hbx];rfl,by rw[cell_of_heap hbx];rfl,by rw[cell_of_heap hbx];rfl,by rw[cell_of_heap hbx];rfl,by rw[cell_of_heap hbx];rfl,by rw[cell_of_heap hbx];rfl,by rw[cell_of_heap hbx];rfl,by rw[cell_of_heap hbx];rfl,by rw[cell_of_heap hbx];rfl⟩,⟨_,_,_,_,_,_,_,_,_,_,_,_,trivial,hci 0 _ (by omega) rfl,hci 1 _ (by omega) rfl,hci 2 _ (by omega) rfl,hci 3 _ (by omega) rfl,hci 4 _ (by omega) rfl,hci 5 _ (by omega) rfl,hci 6 _ (by omega) rfl,hci 7 _ (by omega) rfl,hci 8 _ (by omega) rfl,hci 9 _ (by omega) rfl,hci 10 _ (by omega) rfl,hci 11 _ (by omega) rfl⟩⟩
   clear hcj hxc hxv HK hdb hij';cases db with
   |true =>
    go_wp2_with (go_at_call 109;refine Calls.mono HKK.out ?_;rintro e w1 ⟨rfl,hb1⟩)
    go_roundw
    case rel=>exact⟨i,j+1,rfl,by go_num,by omega,by omega,its',cur',((HW1.out _ hb1).1.drop hlt HDB.out)⟩
    case measure=>simp[intOf];omega
   |false =>
    go_wp2_with (go_at_call 109;refine Calls.mono HKK.out ?_;rintro e w1 ⟨rfl,hb1⟩;obtain⟨hD1,hf1,⟨b0,b1,b2,b3,b4,b5,b6,b7,b8,b9,b10,b11⟩,q0,q1,q2,q3,q4,q5,q6,q7,q8,q9,q11,qs,-,d0,d1,d2,d3,d4,d5,d6,d7,d8,d9,d10,d11⟩:=HW1.out w1 hb1;have HD1:Hid _:=hD1;clear hD1)
    go_roundw
    case rel =>
     have hk:=HD1.out.keep hij hlt HDB.out HXC.out;simp only[bY,Nat.add_assoc,DQ]at hk;exact⟨i+1,j+1,by go_num,by go_num,by omega,by omega,_,_,hk⟩
    case measure=>simp[intOf];omega
  have hjn:j=its.length:=by omega
  have hfs:its'.take i=cN to cnt its:=by have:=HD.out.fst;rwa[hjn,List.take_length]at this
  have hil:(cN to cnt its).length=i:=by rw[←hfs,CI];omega
  have hcap:its.length≤cap:=hle;have hsz:=HD.out.row.size;obtain⟨w',hcl,⟨cur2,hb2,hs2,ht2⟩,hu2⟩:=xI g i (its.length-i) (cap-i) cur' wr HD.out.row.blk (by rw[show i+(its.length-i)=its.length by omega];exact CC (D4 _ hcap) hsz);have HE:Hid (∃cur',fj w' g cap (cN to cnt its) cur'∧cur'.size=cur.size∧an [some g] w w'):=by
   refine⟨cur2,⟨hb2,by omega,by rw[hs2];exact hsz,?_⟩,by rw[hs2];exact HD.out.csz,HD.out.upd.trans hu2 (fun i hi=>.inl hi)⟩;rw[hil,ht2];have hr:=HD.out.row.row;have:(cur'.toList.take (its'.length*12)).take (i*12)=(cA its').take (i*12):=by rw[hr]
   rw[List.take_take,DY (by omega)]at this;rw[this,←hfs];have hsp:cA its'=cA (its'.take i)++cA (its'.drop i):=by
    unfold cA;rw[←List.flatMap_append,DB]
   rw[hsp];exact List.take_left' (by rw[fy,CI];congr 1;omega)
  have ic:(i:Int)≤(cap:Int):=by omega
  have il:(i:Int)≤(its.length:Int):=by omega
  have lc:(its.length:Int)≤(cap:Int):=by omega
  have nj:¬ (j:Int)<(its.length:Int):=by omega
  clear hb2 hs2 ht2 hu2 hsz hfs;go_wp2
  go_ret
  exact⟨rfl,HE.out⟩
theorem ua(fv:Value)(w:World):Calls Tryz.prog 148 #[.slice none 0 0,fv] w fun e w'=>e=.returned (.int .i64 (-1))∧w'=w:=by
 go_enter Tryz.func148,Tryz.ntmps148
 go_wp2
 go_loopw [8] (fun v wr=>v=.int .i64 0∧wr=w) (fun _ _=>0)
 case atStart=>exact⟨rfl,rfl⟩
 case round =>
  obtain⟨rfl,rfl⟩:=hrel;go_wp2
  go_ret
  exact⟨rfl,rfl⟩
theorem su(fv:Value)(w:World):Calls Tryz.prog 108 #[.slice none 0 0,fv] w fun e w'=>e=.returned (.slice none 0 0)∧w'=w:=by
 have HX:Hid (Calls Tryz.prog 148 #[.slice none 0 0,fv] w fun e w'=>e=.returned (.int .i64 (-1))∧w'=w):=ua fv w;go_enter Tryz.func108,Tryz.ntmps108
 go_wp2_with (go_at_call 148;refine Calls.mono HX.out ?_;rintro e wi ⟨rfl,hw⟩;have hw':=hw.symm;clear hw;subst hw')
 go_ret
 exact⟨rfl,rfl⟩
structure Ao(w:World)(rb:Nat)(C:Array Value)(T:TypeId)(wv:Value)(wv':Value)(its':List It)(W:World):Prop where
 q:gQ W rb (C.setIfInBounds 11 wv') T wv' its'
 own:wv'.ownBlock=wv.ownBlock
 upd:an [some rb,wv.ownBlock] w W
theorem yG(rb to cnt:Nat)(its:List It)(hl:its.length≤1000)(wv:Value)(C:Array Value)(T:TypeId)(w:World)(hq:gQ w rb C T wv its):Calls Tryz.prog 61 #[.pointer (some ⟨rb,10,none⟩),.int .i64 (to:Int),.int .i64 (cnt:Int)] w fun e w'=>e=.returned (.tuple #[])∧∃wv' its',Ao w rb C T wv wv' its' w'∧its'.Perm (cN to cnt its)∧aH 0 its'.length (kF its'):=by
 have hrl:rb<w.heap.size:=(Cn.1 hq.rbk).1;have hC:11<C.size:=(Cn.1 hq.c11).1;obtain⟨wa,hwa⟩:∃wa,(w.alloc (.cells #[.int .i64 (to:Int)] 3)).alloc (.cells #[.int .i64 (cnt:Int)] 3)=wa:=⟨_,rfl⟩
 have hba:Below w.heap.size w wa:=by rw[←hwa];exact((Ck _ w).alloc (Cl _) _).alloc (by simp) _
 have hta:wa.heap[w.heap.size]?=some (.cells #[.int .i64 (to:Int)] 3 (0,0)):=by rw[←hwa];exact(CF _ _ _ (by simp)).trans (heap_alloc_new w _)
 have hca:wa.heap[w.heap.size+1]?=some (.cells #[.int .i64 (cnt:Int)] 3 (0,0)):=by
  rw[←hwa];have:=heap_alloc_new (w.alloc (.cells #[.int .i64 (to:Int)] 3)) (.cells #[.int .i64 (cnt:Int)] 3);simpa only[World.size_alloc] using this
 have hqa:=hq.below hba;have c11:wa.cell? ⟨rb,11,none⟩=some wv:=by rw[cell_of_heap hqa.rbk];exact hqa.c11
 have hwl:∀b,wv.ownBlock=some b→b<w.heap.size:=fun b hb=>(hq.row.lt b hb).2
 have HD:Hid (Calls Tryz.prog 108 #[wv,.func (.func 109) #[] #[.pointer (some ⟨w.heap.size,0,none⟩),.pointer (some ⟨w.heap.size+1,0,none⟩)]] wa fun e w' =>
   ∃p n c,e=.returned (.slice p n c)∧w'.cell? ⟨rb,11,none⟩=some wv∧w'.frozen? ⟨rb,11,none⟩=false∧Hid ((Value.slice p n c).ownBlock=wv.ownBlock∧w'.ownsRow 0 171 12 (.slice p n c) (cN to cnt its).length (cA (cN to cnt its))∧w'.heap[rb]?=some (.cells C T (0,0))∧an [wv.ownBlock] wa w')):=by
  rcases id hqa.row.2 with⟨h1,h0⟩|⟨g,cap,cur,h1,-,hg,hle,hm,hs,ht⟩
  ·subst h1;refine(su _ wa).mono ?_;rintro e w' ⟨rfl,rfl⟩
   have he:its=[]:=List.length_eq_zero_iff.1 h0;subst he;exact⟨none,0,0,rfl,c11,frozen_of_heap hqa.rbk _,rfl,hqa.row,hqa.rbk,an.refl _ _⟩
  subst h1;have hgr:g≠rb:=fun e=>hq.ne (by rw[e];rfl)
  have hgl:=hwl g rfl;refine(xF g cap w.heap.size (w.heap.size+1) to cnt its hl cur hm wa ⟨hg,hle,by omega,ht⟩ (by omega) (by omega) (by rw[cell_of_heap hta];rfl) (by rw[cell_of_heap hca];rfl)).mono ?_;rintro e w' ⟨rfl,cur',hr,hcs,hu⟩
  have hrb':w'.heap[rb]?=some (.cells C T (0,0)):=(hu.block rb (Cn.1 hqa.rbk).1 (by simp;exact fun e=>hgr e.symm)).trans hqa.rbk;exact⟨_,_,_,rfl,by rw[cell_of_heap hrb'];exact hq.c11,frozen_of_heap hrb' _,rfl,fT hr (hcs.trans hs) hm (CB _),hrb',hu⟩
 have HI:Hid (∀w1 p n c,Hid ((Value.slice p n c).ownBlock=wv.ownBlock∧w1.ownsRow 0 171 12 (.slice p n c) (cN to cnt its).length (cA (cN to cnt its))∧w1.heap[rb]?=some (.cells C T (0,0))∧an [wv.ownBlock] wa w1)→Calls Tryz.prog 110 #[.iface 175 (.pointer (some ⟨rb,11,none⟩))] (w1.setCell ⟨rb,11,none⟩ (.slice p n c)) fun e w'=>e=.returned (.tuple #[])∧∃wv' its',Ao w rb C T wv wv' its' w'∧its'.Perm (cN to cnt its)∧aH 0 its'.length (kF its')):=fun w1 p n c h1=>by
  obtain⟨ho,hr1,hb1,hu1⟩:=h1.out;have hne:(Value.slice p n c).ownBlock≠some rb:=by rw[ho];exact hq.ne
  have hqs:gQ (w1.setCell ⟨rb,11,none⟩ (.slice p n c)) rb (C.setIfInBounds 11 (.slice p n c)) T (.slice p n c) (cN to cnt its):=⟨ae hb1 _,Dq hC,ai hr1 (fun b hb e=>hne (by rw[hb,e])) _,hne⟩;refine(zA rb (cN to cnt its) (CC (vT _ _ _) hl) (.slice p n c) _ T _ hqs).mono ?_;rintro e w' ⟨he,its',hq',hp,hh,hu'⟩
  refine⟨he,.slice p n c,its',⟨hq',ho,?_⟩,hp,hh⟩;have u1:an [some rb,wv.ownBlock] w (w1.setCell ⟨rb,11,none⟩ (.slice p n c)):=((an.of_below (S:=[some rb,wv.ownBlock]) hba).trans hu1 (fun i hi=>.inl (CQ _ hi))).setCell (.inl (by simp)) _;rw[ho]at hu'
  exact u1.trans hu' (fun i hi=>.inl (CQ _ hi))
 clear hq hqa hta hca;go_enter Tryz.func61,Tryz.ntmps61
 go_wp2_with (first
  |(go_at_call 108;refine Calls.mono HD.out ?_;rintro e w1 ⟨p,n,c,rfl,d11,df,h1⟩)
  |(go_at_call 110;refine Calls.mono (HI.out _ _ _ _ h1) ?_;rintro e w2 ⟨rfl,wv',its',o⟩))
 go_end0
 exact⟨rfl,wv',its',o⟩
end
section
open Go.RowKit Go.Proofs
variable {i n:Nat} {x:En}
structure Sr where
 log:List En
 now:Nat
 its:List It
 owed:Nat→Bool
structure Lt where
 src:Nat
 dst:Nat
 h:Nat
 es:List En
def bI(its:List It)(j:Nat):List En:=(its.filter fun p=>decide (p.to=j)).map fun p=>p.en
theorem bM(its:List It)(j:Nat):(bI its j).length=aX its j:=by simp[bI,aX,List.countP_eq_length_filter]
theorem dh{its:List It}{j:Nat}:x∈bI its j↔∃p∈its,p.to=j∧p.en=x:=by
 simp[bI,and_assoc]
structure Am(n i:Nat)(s:Sr):Prop where
 log:LogFrom i [] s.log
 org:∀x∈s.log,x.org<n
 to:∀p∈s.its,p.to<n∧p.to≠i∧p.due≤s.now+1
 room:∀j,aX s.its j≤8
 owe:∀j,s.owed j=true→j<n∧j≠i
structure ay(n:Nat)(S:Nat→Sr):Prop where
 one:∀i,i<n→Am n i (S i)
 src:∀i,i<n→∀x∈(S i).log,x∈(S x.org).log
 wait:∀i,i<n→∀j,j<n→j≠i→∃a,a≤aq (S j).log i∧(bI (S i).its j).Perm ((bT i (S i).log).drop a)
structure fB(n:Nat)(S:Nat→Sr)(L:Lt):Prop where
 src:L.src<n
 dst:L.dst<n
 ne:L.dst≠L.src
 h:L.h≤aq (S L.src).log L.dst
 es:∀x∈L.es,x∈(S L.src).log∧x.org=L.src
def bR(S:Nat→Sr)(i:Nat)(s:Sr):Nat→Sr:=fun k=>if k=i then s else S k
theorem aD(S:Nat→Sr)(i:Nat)(s:Sr):bR S i s i=s:=by simp[bR]
theorem az(S:Nat→Sr){k:Nat}(s:Sr)(h:k≠i):bR S i s k=S k:=by simp[bR,h]
def dY(s:Sr)(L:Lt):Sr:=⟨bg s.log L.es,s.now,cN L.src L.h s.its,if L.es=[] then s.owed else fun k=>if k=L.src then true else s.owed k⟩
theorem ay.lt{S:Nat→Sr}(_:ay n S){S':Nat→Sr}(hg:∀i,i<n→∃l,(S' i).log=(S i).log++l){L:Lt}(hL:fB n S L):fB n S' L:=by
 obtain⟨l,hl⟩:=hg L.src hL.src;refine⟨hL.src,hL.dst,hL.ne,?_,fun x hx=>⟨?_,(hL.es x hx).2⟩⟩
 ·rw[hl,bO];exact CC hL.h (Nat.le_add_right _ _)
 rw[hl];exact C8 _ (hL.es x hx).1
theorem lM(j to cnt:Nat)(its:List It):bI (cN to cnt its) j=if j=to then(bI its j).filter (fun x=>decide (cnt<x.seq)) else bI its j:=by
 unfold bI cN;by_cases e:j=to
 ·subst e;rw[if_pos rfl,List.filter_map,List.filter_filter,List.filter_filter];congr 1
  refine List.filter_congr fun p _=>?_
  by_cases h:p.to=j <;> by_cases h2:p.en.seq≤cnt <;> simp[fK,h,h2] <;> omega
 rw[if_neg e,List.filter_filter];congr 1
 refine List.filter_congr fun p _=>?_
 by_cases h:p.to=j
 ·have:p.to≠to:=fun h'=>e (h ▸ h')
  simp[fK,h,e]
 simp[h]
theorem kY{me o:Nat}:∀{l:List En} (m:Nat),(∀(k:Nat) (x:En),l[k]?=some x→x.seq=m+k+1∧x.org=o)→∀(cnt:Nat),l.filter (fun x=>decide (cnt<x.seq))=l.drop (cnt-m)
 |[],m,_,cnt=>by simp
 |x::l,m,h,cnt=>by
  have h0:=(h 0 x rfl).1;have ih:=kY (me:=me) (o:=o) (l:=l) (m+1) (fun k y hy=>by have:=h (k+1) y (by simpa using hy);omega) cnt;rw[List.filter_cons,ih];by_cases e:cnt<x.seq
  ·have e1:cnt-m=0:=by omega
   have e2:cnt-(m+1)=0:=by omega
   rw[if_pos (by simpa using e),e1,e2]
   rfl
  rw[if_neg (by simpa using e),show cnt-m=(cnt-(m+1))+1 by omega]
  rfl
theorem gM{me o:Nat}{log:List En}(h:LogFrom me [] log)(a cnt:Nat):((bT o log).drop a).filter (fun x=>decide (cnt<x.seq))=(bT o log).drop (max a cnt):=by
 have hs:∀(k:Nat) (x:En),((bT o log).drop a)[k]?=some x→x.seq=a+k+1∧x.org=o:=fun k x hx=>by
  rw[List.getElem?_drop]at hx;have h1:=h.seq hx;have h0:aq ([]:List En) o=0:=rfl;exact⟨by omega,(dR.1 (List.mem_of_getElem? hx)).2⟩
 rw[kY (me:=me) (o:=o) a hs cnt,List.drop_drop];congr 1
 omega
theorem jS(its:List It)(to cnt j:Nat):aX (cN to cnt its) j≤aX its j:=by
 rw[←bM,←bM,lM];split
 ·exact DE _ _
 exact Cl _
theorem ay.take{S:Nat→Sr}(hS:ay n S){L:Lt}(hL:fB n S L):ay n (bR S L.dst (dY (S L.dst) L)):=by
 have hd:=hS.one L.dst hL.dst;have hne:∀x∈L.es,x.org≠L.dst:=fun x hx e=>hL.ne (e ▸ (hL.es x hx).2)
 have hgrow:∀i,∃l,(bR S L.dst (dY (S L.dst) L) i).log=(S i).log++l:=fun i=>by
  by_cases e:i=L.dst
  ·subst e;rw[aD];exact fm _ _
  rw[az _ _ e];exact⟨[],by simp⟩
 have hown:∀i,bT i (bR S L.dst (dY (S L.dst) L) i).log=bT i (S i).log:=fun i=>by
  by_cases e:i=L.dst
  ·subst e;rw[aD];exact jI hne
  rw[az _ _ e]
 refine⟨fun i hi=>?_,fun i hi x hx=>?_,fun i hi j hj hji=>?_⟩
 ·by_cases e:i=L.dst
  ·subst e;rw[aD];refine⟨kU hd.log hne,fun x hx=>?_,fun p hp=>hd.to p (List.mem_filter.1 hp).1,fun j=>CC (jS _ _ _ _) (hd.room j),fun j hj=>?_⟩
   ·rcases fx hx with h|h
    ·exact hd.org x h
    rw[(hL.es x h).2];exact hL.src
   unfold dY at hj;dsimp only at hj;split at hj
   ·exact hd.owe j hj
   dsimp only at hj;split at hj
   ·rename_i e;subst e;exact⟨hL.src,Ne.symm hL.ne⟩
   exact hd.owe j hj
  rw[az _ _ e];exact hS.one i hi
 ·have:x∈(S x.org).log:=by
   by_cases e:i=L.dst
   ·subst e;rw[aD]at hx
    rcases fx hx with h|h
    ·exact hS.src _ hi x h
    have:=hL.es x h;rw[this.2];exact this.1
   rw[az _ _ e]at hx;exact hS.src i hi x hx
  obtain⟨l,hl⟩:=hgrow x.org;rw[hl];exact C8 _ this
 obtain⟨a,ha,hp⟩:=hS.wait i hi j hj hji;rw[hown i];obtain⟨lj,hlj⟩:=hgrow j;have haj:a≤aq (bR S L.dst (dY (S L.dst) L) j).log i:=by rw[hlj,bO];omega
 by_cases e:i=L.dst
 ·subst e;rw[aD];show ∃a,_∧(bI (cN L.src L.h (S L.dst).its) j).Perm _
  rw[lM];by_cases ej:j=L.src
  ·subst ej;rw[if_pos rfl];refine⟨max a L.h,?_,?_⟩
   ·have:=hL.h;rw[az _ _ (Ne.symm hL.ne)];omega
   rw[←gM hd.log];exact hp.filter _
  rw[if_neg ej];exact⟨a,haj,hp⟩
 rw[az _ _ e];exact⟨a,haj,hp⟩
theorem ay.do{S:Nat→Sr}(hS:ay n S)(hi:i<n)(hx:x.org=i)(hs:x.seq=aq (S i).log i+1)(ha:x.ah=bC (S i).log){its':List It}(ho:∀j,aX (S i).its j<8)(ht:∀p∈its',p.to<n∧p.to≠i∧p.due≤(S i).now+1)(hw:∀j,j<n→j≠i→(bI its' j).Perm (bI (S i).its j++[x])):ay n (bR S i ⟨(S i).log++[x],(S i).now,its',(S i).owed⟩):=by
 have hi':=hS.one i hi;have hgrow:∀k,∃l,(bR S i ⟨(S i).log++[x],(S i).now,its',(S i).owed⟩ k).log=(S k).log++l:=fun k=>by
  by_cases e:k=i
  ·subst e;rw[aD];exact⟨_,rfl⟩
  rw[az _ _ e];exact⟨[],by simp⟩
 have hnil:∀j,¬ (j<n∧j≠i)→aX its' j=0:=fun j hj=>by
  unfold aX;rw[List.countP_eq_zero];intro p hp e;have:=ht p hp;simp at e;subst e;exact hj ⟨this.1,this.2.1⟩
 refine⟨fun k hk=>?_,fun k hk y hy=>?_,fun k hk j hj hjk=>?_⟩
 ·by_cases e:k=i
  ·subst e;rw[aD];refine⟨hi'.log.snoc ⟨by rw[hx];exact hs,fun o=>by rw[ha,bD];exact Cl _,fun _=>ha⟩,fun y hy=>?_,ht,fun j=>?_,hi'.owe⟩
   ·rcases CP.1 hy with h|h
    ·exact hi'.org y h
    simp at h;subst h;rw[hx];exact hk
   by_cases hj:j<n∧j≠k
   ·have:=(hw j hj.1 hj.2).length_eq;rw[List.length_append,bM,bM]at this
    have:=ho j;simp at *;omega
   show aX its' j≤8
   rw[hnil j hj];omega
  rw[az _ _ e];exact hS.one k hk
 ·by_cases e:k=i
  ·subst e;rw[aD]at hy
   rcases CP.1 hy with h|h
   ·obtain⟨l,hl⟩:=hgrow y.org;rw[hl];exact C8 _ (hS.src k hk y h)
   simp at h;subst h;rw[hx,aD];simp
  rw[az _ _ e]at hy;obtain⟨l,hl⟩:=hgrow y.org;rw[hl];exact C8 _ (hS.src k hk y hy)
 obtain⟨a,h1,h2⟩:=hS.wait k hk j hj hjk;obtain⟨l,hl⟩:=hgrow j;refine⟨a,by rw[hl,bO];omega,?_⟩;by_cases e:k=i
 ·subst e;rw[aD];show(bI its' j).Perm ((bT k ((S k).log++[x])).drop a)
  rw[nY,if_pos hx];have hl2:=h2.length_eq;refine(hw j hj hjk).trans ?_;by_cases hle:a≤(bT k (S k).log).length
  ·rw[List.drop_append_of_le_length hle];exact h2.append_right _
  exfalso
  rw[bZ]at hle;obtain⟨c,hc⟩:∃c,c∈(S j).log∧c.org=k∧c.seq=aq (S k).log k+1:=by
   obtain⟨c,h3,h4,h5⟩:=(hS.one j hj).log.the (o:=k) (s:=aq (S k).log k+1) (by omega) (by omega);exact⟨c,h3,h4,h5⟩
  have:=hS.src j hj c hc.1;rw[hc.2.1]at this
  have:=(hi'.log.place this).2.1;rw[hc.2.1]at this
  omega
 rw[az _ _ e];exact h2
end
section
open Go.RowKit Go.Proofs Go.Shelf
attribute [local go_sem] Oper.semAt_some
theorem uX(n:Nat)(hn:1≤n)(l Bs n₀:Nat)(ev:Value)(log:List En)(h8:log.length≤4294967296)(J Jx:List En→World→Prop)(W:World)(hev:∀b,ev.ownBlock=some b→b<n₀)(hJ:AbidesFrom W.heap.size J)(hY:∀pre x W1,J pre W1→pre.length<log.length→YieldAt Fence.wide (n-1) Tryz.prog l #[x.val] W1 fun e W' =>
   (e=.returned (.bool true)∧J (pre++[x]) W'∧Below n₀ W1 W')∨(e=.returned (.bool false)∧Jx (pre++[x]) W')) (hBs:W.cell? ⟨Bs,0,none⟩=some ev) (hrow:W.ownsRow 0 122 10 ev log.length (aP log)) (hn0:n₀≤W.heap.size) (h0:J [] W):
  CallsIn Fence.wide n Tryz.prog 131 #[.func (.yield l) #[] #[],.pointer (some ⟨Bs,0,none⟩)] W fun e W'=>(∃v,e=.returned v)∧((∃ys,ys=log∧J ys W')∨(∃pre,pre <+: log∧Jx pre W')):=by
 have hro:Fence.wide.round=none:=rfl;obtain⟨pe,cape,hev'⟩:∃p c,ev=.slice p log.length c:=by
  rcases hrow.2 with⟨h1,h0⟩|⟨g,cap',_,h1,_⟩
  ·rw[h0];exact⟨_,_,h1⟩
  exact⟨_,_,h1⟩
 have HR:=hid hrow;have HE:Hid (ev=.slice pe log.length cape):=hev';have HEB:=hid hev;have HJ:=hid hJ;rw[hev']at hBs
 clear hrow hev hev' hJ;refine callsIn_of_wp Tryz.func131 rfl trivial ?_ hro;simp only[Tryz.ntmps131,List.size_toArray,List.length_cons,List.length_nil,DQ,Nat.reduceSub,Array.replicate_succ,Array.replicate_zero,List.push_toArray,List.append_toArray,List.nil_append,List.cons_append]
 gi_wp2
 gi_loopw [7] (fun i wr=>∃k:Nat,k≤log.length∧i=.int .i64 k∧Hid (J (log.take k) wr)∧Hid (Below n₀ W wr)) (fun i _=>log.length-(intOf i).toNat)
 case atStart=>exact⟨0,CB _,rfl,h0,Ck _ _⟩
 case round =>
  obtain⟨k,hk,rfl,hJs,hnx⟩:=hrel;by_cases hlt:k<log.length
  ·have hrw:wr.ownsRow 0 122 10 ev log.length (aP log):=by
    refine⟨HR.out.1,?_⟩;rcases HR.out.2 with h1|⟨g,cap',cur,h1,hb,hg,rest⟩
    ·exact .inl h1
    exact .inr ⟨g,cap',cur,h1,hb,by rw[hnx.out.block g (HEB.out g (by rw[h1];rfl))];exact hg,rest⟩
   obtain⟨g,cap,hge,hgl,e0,e1,e2,e3,e4,e5,e6,e7,e8,e9⟩:=jN hrw hlt;rw[HE.out]at hge
   obtain⟨rfl,-,rfl⟩:pe=some ⟨g,0,none⟩∧True∧cape=cap:=by simpa using hge
   clear hge hrw;have hJ1:∀o,J (log.take k) (wr.alloc o):=fun o=>HJ.out _ _ _ none hJs.out (World.grownBy_alloc wr o none) (fun r e=>by cases e)
   obtain⟨fn,tmps,assign,body,hy,hR⟩:=hY _ log[k] (wr.alloc (.cells #[.int .i64 (log[k].org:Int),.int .i64 (log[k].seq:Int),.int .i64 (log[k].ah.a:Int),.int .i64 (log[k].ah.b:Int),.int .i64 (log[k].ah.c:Int),.int .i64 (log[k].ah.d:Int),.int .i64 (log[k].ah.e:Int),.int .i64 (log[k].c.k.num:Int),.string log[k].c.word,.int .i64 (log[k].c.count:Int)] 122)) (hJ1 _) (by rw[CI];omega);simp only[En.val]at hy;have HS:Hid (log.take (k+1)=log.take k++[log[k]]):=by
    show _=_
    rw[cF log k hlt]
   have HJS:Hid (∀o,Below n₀ wr (wr.alloc o)):=fun o=>(Ck _ wr).alloc (CC hn0 (by have:=hnx.out.size;omega)) o
   generalize ((log[k].ah.a:Nat):Int)=r0 at *;generalize ((log[k].ah.b:Nat):Int)=r1 at *;generalize ((log[k].ah.c:Nat):Int)=r2 at *;generalize ((log[k].ah.d:Nat):Int)=r3 at *;generalize ((log[k].ah.e:Nat):Int)=r4 at *;clear hJ1
   gi_wp2
   refine hR.mono ?_;rintro e W3 (⟨rfl,hJ3,hk3⟩|⟨rfl,hJx3⟩)
   ·gi_wp2
    go_roundw
    case rel=>exact⟨k+1,by omega,by go_num,(by rw[HS.out];exact hJ3:J _ _),hnx.out.trans ((HJS.out _).trans hk3)⟩
    case measure=>simp[intOf];omega
   gi_wp2
   refine bodyPost_ret (results_none rfl _ _ _) rfl ?_;exact⟨⟨_,rfl⟩,.inr ⟨_,⟨_,DB (k+1) _⟩,by rw[HS.out];exact hJx3⟩⟩
  obtain rfl:k=log.length:=by omega
  gi_wp2
  go_end0
  exact⟨⟨_,rfl⟩,.inl ⟨_,rfl,by have:=hJs.out;rwa[CX (by omega)]at this⟩⟩
theorem sI(n:Nat)(hn:1≤n)(Bs n₀:Nat)(ev:Value)(log:List En)(h8:log.length≤4294967296)(w:World)(hBs:Bs<w.heap.size)(hn₀:n₀≤w.heap.size)(hc:w.cell? ⟨Bs,0,none⟩=some ev)(hev:∀b,ev.ownBlock=some b→b<n₀)(hrow:w.ownsRow 0 122 10 ev log.length (aP log)):SeqStopsK Fence.wide n Tryz.prog 131 #[.pointer (some ⟨Bs,0,none⟩)] (fun x:En=>#[x.val]) (Below n₀) (fun ys=>ys=log) (fun pre=>pre <+: log) log.length w:=fun l J Jx W hW hJ _ hY h0=>by
 have hrw:W.ownsRow 0 122 10 ev log.length (aP log):=(an.of_below (S:=[]) hW).owns hrow (by simp);exact uX n hn l Bs n₀ ev log h8 J Jx W hev hJ hY ((hW.cell (p:=⟨Bs,0,none⟩) hBs).trans hc) hrw (CC hn₀ hW.size) h0
end
end Go.Proofs.YtckmppkdpnhodaaGreatDoor
