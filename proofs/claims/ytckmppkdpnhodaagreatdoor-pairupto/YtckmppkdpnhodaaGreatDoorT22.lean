import Derived.Test.YtckmppkdpnhodaaGreatDoorT19
import Derived.Test.YtckmppkdpnhodaaGreatDoorT20
import Derived.Test.YtckmppkdpnhodaaGreatDoorT21
import Derived.Test.YtckmppkdpnhodaaGreatDoorT00
set_option maxRecDepth 100000
set_option maxHeartbeats 8000000
set_option linter.unusedVariables false
set_option linter.unusedSimpArgs false
open Go.RowKit.Below renaming refl→Ck,heap_alloc→CF,heap_setCell→CD
open Nat renaming le_refl→Cl,le_trans→CC
open Bool renaming and_eq_true→C1
open Array renaming getElem?_eq_some_iff→Cn
open Go.World renaming frozen?_of_block→C6,cell?_of_block→CE
open List renaming mem_cons_of_mem→CQ,mem_cons→Co,not_mem_nil→Cq,range_succ→DL
open ByteArray renaming empty→CL
open Go.Value renaming ownBlock→Cp
namespace Go.Proofs.YtckmppkdpnhodaaGreatDoor
section
open Go.RowKit Go.Proofs Go.Shelf
attribute [local go_sem ↓] Go.wp_at_zero Go.wp_at_succ
theorem vO(rb:Nat)(log:List En)(h8:log.length≤4294967296)(ev:Value)(a:Option Addr)(cap:Nat)(hev:ev=.slice a log.length cap)(w:World)(h4:w.cell? ⟨rb,4,none⟩=some ev)(hrow:w.ownsRow 0 122 10 ev log.length (aP log)):Calls Tryz.prog 52 #[.pointer (some ⟨rb,4,none⟩)] w fun e w'=>e=.returned (.func (.func 131) #[] #[.pointer (some ⟨w.heap.size,0,none⟩)])∧Below w.heap.size w w'∧∀u,Below w'.heap.size w' u→Calls Tryz.prog 51 #[.func (.func 131) #[] #[.pointer (some ⟨w.heap.size,0,none⟩)]] u fun e W' =>
    ∃c,e=.returned (.agg #[.map (some c),.map (some (c+1)),.map (some (c+1+1))])∧u.heap.size≤c∧c+1+1<W'.heap.size∧cW W' c (c+1) (c+1+1) log.length (aK log log)∧Below u.heap.size u W':=by
 subst hev;refine(xK rb a log.length cap w h4).mono ?_;rintro e w' ⟨rfl,rfl⟩
 refine⟨rfl,(Ck _ w).alloc (Cl _) _,fun u hu=>?_⟩;have hb:Below w.heap.size w u:=((Ck _ w).alloc (Cl _) _).trans (hu.mono (by simp));refine callsIn_wide.1 (Aq w.heap.size (.slice a log.length cap) log h8 u ?_ (fun b hb'=>Nat.lt_of_lt_of_le (hrow.lt b hb').2 hb.size) ((an.of_below (S:=[]) hb).owns hrow (by simp)));refine aa hu ?_;rw[cell_of_heap (heap_alloc_new w _)]
 rfl
theorem wk(rb:Nat)(log:List En)(h8:log.length≤4294967296)(ev:Value)(w:World)(h4:w.cell? ⟨rb,4,none⟩=some ev)(hrow:w.ownsRow 0 122 10 ev log.length (aP log))(c:Cm)(hc:nF c):Calls Tryz.prog 47 #[.pointer (some ⟨rb,0,none⟩),.agg #[.int .i64 (c.k.num:Int),.string c.word,.int .i64 (c.count:Int)]] w fun e w'=>e=.returned (.bool (dt (aK log log) c))∧Below w.heap.size w w':=by
 obtain⟨a,cap,hev⟩:∃p c,ev=.slice p log.length c:=by
  rcases hrow.2 with⟨h1,h0⟩|⟨g,cap',_,h1,_⟩
  ·rw[h0];exact⟨_,_,h1⟩
  exact⟨_,_,h1⟩
 have hw8:c.word.size≤maxLen:=by
  have:=hc.word;simp only[bd,C1,decide_eq_true_eq]at this;unfold maxLen;omega
 have B1:∀o,Below w.heap.size w (w.alloc o):=fun o=>(Ck _ w).alloc (Cl _) _
 have HB1:Hid (∀o,Below w.heap.size w (w.alloc o)):=B1;have HA:Hid (∀o,Calls Tryz.prog 52 #[.pointer (some ⟨rb,4,none⟩)] (w.alloc o).drew fun e w'=>e=.returned (.func (.func 131) #[] #[.pointer (some ⟨(w.alloc o).drew.heap.size,0,none⟩)])∧Below (w.alloc o).drew.heap.size (w.alloc o).drew w'∧∀u,Below w'.heap.size w' u→Calls Tryz.prog 51 #[.func (.func 131) #[] #[.pointer (some ⟨(w.alloc o).drew.heap.size,0,none⟩)]] u fun e W' =>
    ∃c,e=.returned (.agg #[.map (some c),.map (some (c+1)),.map (some (c+1+1))])∧u.heap.size≤c∧c+1+1<W'.heap.size∧cW W' c (c+1) (c+1+1) log.length (aK log log)∧Below u.heap.size u W'):=fun o =>
  vO rb log h8 ev a cap hev _ (aa ((B1 o).drew) h4) ((an.of_below (S:=[]) ((B1 o).drew)).owns hrow (by simp))
 have hrl:rb<w.heap.size:=World.block_lt_of_cell? w _ h4;clear h4 hrow hev B1;generalize aK log log=S at *;cases hk:c.k with
 |closed =>
  simp only[dt,hk,Kd.num];go_enter Tryz.func47,Tryz.ntmps47
  go_wp2
  go_ret
  exact⟨rfl,HB1.out _⟩
 |established =>
  simp only[dt,hk,Kd.num];go_enter Tryz.func47,Tryz.ntmps47
  go_wp2
  go_ret
  exact⟨rfl,HB1.out _⟩
 |closeWait =>
  simp only[dt,hk,Kd.num];go_enter Tryz.func47,Tryz.ntmps47
  go_wp2
  go_ret
  exact⟨rfl,HB1.out _⟩
 |listen =>
  have HH:Hid (∀c1 W',cW W' c1 (c1+1) (c1+1+1) log.length S→Calls Tryz.prog 85 #[.agg #[.map (some c1),.map (some (c1+1)),.map (some (c1+1+1))],.string c.word] W' fun e w'=>e=.returned (.bool (S.it c.word.data.toList).isSome)∧Below W'.heap.size W' w'):=fun c1 W' h=>qN _ _ _ _ S c.word hw8 W' h
  simp only[dt,hk,Kd.num];generalize (S.it c.word.data.toList).isSome=res at *;go_enter Tryz.func47,Tryz.ntmps47
  go_upto_region 3 with fail
  obtain⟨wa,hwa⟩:∃wa,w.alloc (.cells #[.int .i64 1,.string c.word,.int .i64 (c.count:Int)] 116)=wa:=⟨_,rfl⟩
  have HAa:=HA.out (.cells #[.int .i64 1,.string c.word,.int .i64 (c.count:Int)] 116);have HBa:=HB1.out (.cells #[.int .i64 1,.string c.word,.int .i64 (c.count:Int)] 116);have a1:(w.alloc (.cells #[.int .i64 1,.string c.word,.int .i64 (c.count:Int)] 116)).cell? ⟨w.heap.size,1,none⟩=some (.string c.word):=by rw[cell_of_heap (heap_alloc_new w _)];rfl
  rw[hwa]at HAa HBa a1 ⊢;have HAA:=HAa;have HBA:Hid (Below w.heap.size w wa):=HBa;clear HA HB1 HAa HBa hwa hc;generalize hb0:w.heap.size=b0 at *;go_region_held3 (fun w'=>w'.cell? ⟨b0,1,none⟩=some (.string c.word)) (first
    |exact a1
    |exact aa t2 a1
    |exact aa t5 a1
    |exact aa t7 a1
    |go_keep) (first
    |(go_at_call 52;refine Calls.mono HAA ?_;rintro e w2 ⟨rfl,u2,v2⟩;have t2:Below wa.heap.size wa w2:=((Ck _ wa).drew).trans u2)
    |(go_at_call 51;refine(v2 _ (Ck _ _)).mono ?_;rintro e w5 ⟨c1,rfl,m1,m2,m3,u5⟩;have t5:Below wa.heap.size wa w5:=t2.trans (u5.mono t2.size))
    |(go_at_call 85;refine(HH.out c1 _ m3).mono ?_;rintro e w7 ⟨rfl,u7⟩;have t7:Below wa.heap.size wa w7:=t5.trans (u7.mono t5.size)))
  go_wp2
  go_ret
  exact⟨rfl,by have hs:=HBA.out.size;rw[hb0]at hs ⊢;exact HBA.out.trans (t7.mono hs)⟩
 |finWait =>
  have HH:Hid (∀c1 W',cW W' c1 (c1+1) (c1+1+1) log.length S→Calls Tryz.prog 86 #[.agg #[.map (some c1),.map (some (c1+1)),.map (some (c1+1+1))],.string c.word] W' fun e w'=>e=.returned (.bool (S.cp c.word.data.toList))∧Below W'.heap.size W' w'):=fun c1 W' h=>nt _ _ _ _ S c.word hw8 W' h
  simp only[dt,hk,Kd.num];generalize (S.cp c.word.data.toList)=res at *;go_enter Tryz.func47,Tryz.ntmps47
  go_upto_region 5 with fail
  obtain⟨wa,hwa⟩:∃wa,w.alloc (.cells #[.int .i64 3,.string c.word,.int .i64 (c.count:Int)] 116)=wa:=⟨_,rfl⟩
  have HAa:=HA.out (.cells #[.int .i64 3,.string c.word,.int .i64 (c.count:Int)] 116);have HBa:=HB1.out (.cells #[.int .i64 3,.string c.word,.int .i64 (c.count:Int)] 116);have a1:(w.alloc (.cells #[.int .i64 3,.string c.word,.int .i64 (c.count:Int)] 116)).cell? ⟨w.heap.size,1,none⟩=some (.string c.word):=by rw[cell_of_heap (heap_alloc_new w _)];rfl
  rw[hwa]at HAa HBa a1 ⊢;have HAA:=HAa;have HBA:Hid (Below w.heap.size w wa):=HBa;clear HA HB1 HAa HBa hwa hc;generalize hb0:w.heap.size=b0 at *;go_region_held3 (fun w'=>w'.cell? ⟨b0,1,none⟩=some (.string c.word)) (first
    |exact a1
    |exact aa t2 a1
    |exact aa t5 a1
    |exact aa t7 a1
    |go_keep) (first
    |(go_at_call 52;refine Calls.mono HAA ?_;rintro e w2 ⟨rfl,u2,v2⟩;have t2:Below wa.heap.size wa w2:=((Ck _ wa).drew).trans u2)
    |(go_at_call 51;refine(v2 _ (Ck _ _)).mono ?_;rintro e w5 ⟨c1,rfl,m1,m2,m3,u5⟩;have t5:Below wa.heap.size wa w5:=t2.trans (u5.mono t2.size))
    |(go_at_call 86;refine(HH.out c1 _ m3).mono ?_;rintro e w7 ⟨rfl,u7⟩;have t7:Below wa.heap.size wa w7:=t5.trans (u7.mono t5.size)))
  go_wp2
  go_ret
  exact⟨rfl,by have hs:=HBA.out.size;rw[hb0]at hs ⊢;exact HBA.out.trans (t7.mono hs)⟩
end
section
open Go.RowKit Go.Proofs
attribute [local go_sem ↓] Go.wp_at_zero Go.wp_at_succ
theorem sR(rb:Nat)(log:List En)(h8:log.length≤4294967296)(x:En)(ev:Value)(C:Array Value)(T:TypeId)(w:World)(hrb:w.heap[rb]?=some (.cells C T (0,0)))(h4:C[4]?=some ev)(rv:Nat)(h5:C[5+x.org]?=some (.int .i64 (rv:Int)))(hrow:w.ownsRow 0 122 10 ev log.length (aP log))(hne:ev.ownBlock≠some rb):Calls Tryz.prog 88 #[.pointer (some ⟨rb,4,none⟩),.agg #[.int .i64 (x.org:Int),.int .i64 (x.seq:Int),.int .i64 (x.ah.a:Int),.int .i64 (x.ah.b:Int),.int .i64 (x.ah.c:Int),.int .i64 (x.ah.d:Int),.int .i64 (x.ah.e:Int),.int .i64 (x.c.k.num:Int),.string x.c.word,.int .i64 (x.c.count:Int)]] w fun e w' =>
   e=.returned (.tuple #[])∧∃g cap,w'.ownsRow 0 122 10 (.slice (some ⟨g,0,none⟩) (log.length+1) cap) (log.length+1) (aP (log++[x]))∧(ev.ownBlock=some g∨w.heap.size≤g)∧g≠rb∧w'.heap[rb]?=some (.cells ((C.setIfInBounds 4 (.slice (some ⟨g,0,none⟩) (log.length+1) cap)).setIfInBounds (5+x.org) (.int .i64 (x.seq:Int))) T (0,0))∧an [some rb,ev.ownBlock] w w':=by
 obtain⟨pe,cape,hev⟩:∃p c,ev=.slice p log.length c:=by
  rcases hrow.2 with⟨h1,h0⟩|⟨g,cap',_,h1,_⟩
  ·rw[h0];exact⟨_,_,h1⟩
  exact⟨_,_,h1⟩
 obtain⟨i3,hi3,hy0,hy1,hy2⟩:=info_parts Tryz.AE;have hrl:rb<w.heap.size:=(Cn.1 hrb).1;have c4:w.cell? ⟨rb,4,none⟩=some (.slice pe log.length cape):=by rw[cell_of_heap hrb,h4,hev]
 have hog:=x.ho;have c5:w.cell? ⟨rb,5+x.org,none⟩=some (.int .i64 (rv:Int)):=by rw[cell_of_heap hrb,h5]
 have fz:∀o,w.frozen? ⟨rb,o,none⟩=false:=frozen_of_heap hrb
 have HE:Hid (ev=.slice pe log.length cape):=hev;have HC5:=hid h5;have HRB:=hid hrb;have HL:Hid (aP (log++[x])=aP log++[.int .i64 (x.org:Int),.int .i64 (x.seq:Int),.int .i64 (x.ah.a:Int),.int .i64 (x.ah.b:Int),.int .i64 (x.ah.c:Int),.int .i64 (x.ah.d:Int),.int .i64 (x.ah.e:Int),.int .i64 (x.c.k.num:Int),.string x.c.word,.int .i64 (x.c.count:Int)]):=jq log x;rw[hev]at hrow hne
 have HR:Hid (w.ownsRow 0 122 10 (.slice pe log.length cape) log.length (aP log)):=hrow;clear hrow hev hrb h4 h5;go_enter Tryz.func88,Tryz.ntmps88
 go_upto_region 1 with fail
 generalize hL:log.length=L at *;generalize hme:x.org=me at *;generalize hsq:x.seq=sq at *;have HME:Hid (x.org=me):=hme;have HSQ:Hid (x.seq=sq):=hsq;clear hme hsq;generalize x.c.k.num=kn at *;generalize x.c.word=wd at *;generalize x.c.count=cn at *;generalize ((x.ah.a:Nat):Int)=r0 at *;generalize ((x.ah.b:Nat):Int)=r1 at *;generalize ((x.ah.c:Nat):Int)=r2 at *;generalize ((x.ah.d:Nat):Int)=r3 at *;generalize ((x.ah.e:Nat):Int)=r4 at *;obtain⟨wa,hwa⟩:∃wa,w.alloc (.cells #[.int .i64 (me:Int),.int .i64 (sq:Int),.int .i64 r0,.int .i64 r1,.int .i64 r2,.int .i64 r3,.int .i64 r4,.int .i64 (kn:Int),.string wd,.int .i64 (cn:Int)] 122)=wa:=⟨_,rfl⟩
 have hba:Below w.heap.size w wa:=by rw[←hwa];exact(Ck _ w).alloc (Cl _) _
 have hea:wa.heap[w.heap.size]?=some (.cells #[.int .i64 (me:Int),.int .i64 (sq:Int),.int .i64 r0,.int .i64 r1,.int .i64 r2,.int .i64 r3,.int .i64 r4,.int .i64 (kn:Int),.string wd,.int .i64 (cn:Int)] 122 (0,0)):=by rw[←hwa];exact heap_alloc_new w _
 have hsa:wa.heap.size=w.heap.size+1:=by rw[←hwa];simp
 rw[hwa];clear hwa;have HBA:Hid (Below w.heap.size w wa):=hba;have HEA:Hid (wa.heap[w.heap.size]?=some (.cells #[.int .i64 (me:Int),.int .i64 (sq:Int),.int .i64 r0,.int .i64 r1,.int .i64 r2,.int .i64 r3,.int .i64 r4,.int .i64 (kn:Int),.string wd,.int .i64 (cn:Int)] 122 (0,0))):=hea;have HRA:Hid (wa.ownsRow 0 122 10 (.slice pe L cape) L (aP log)):=(an.of_below (S:=[]) hba).owns HR.out (by simp);have a4:wa.cell? ⟨rb,4,none⟩=some (.slice pe L cape):=aa hba c4;have af:wa.frozen? ⟨rb,4,none⟩=false:=(C6 (a:=⟨rb,4,none⟩) (hba.block rb hrl)).trans (fz 4);have a0:wa.cell? ⟨w.heap.size,0,none⟩=some (.int .i64 (me:Int)):=cell_of_heap hea _;have a1:wa.cell? ⟨w.heap.size,1,none⟩=some (.int .i64 (sq:Int)):=cell_of_heap hea _;have a2:wa.cell? ⟨w.heap.size,2,none⟩=some (.int .i64 r0):=cell_of_heap hea _
 have a3:wa.cell? ⟨w.heap.size,3,none⟩=some (.int .i64 r1):=cell_of_heap hea _;have a4':wa.cell? ⟨w.heap.size,4,none⟩=some (.int .i64 r2):=cell_of_heap hea _;have a5:wa.cell? ⟨w.heap.size,5,none⟩=some (.int .i64 r3):=cell_of_heap hea _;have a6:wa.cell? ⟨w.heap.size,6,none⟩=some (.int .i64 r4):=cell_of_heap hea _;have a7:wa.cell? ⟨w.heap.size,7,none⟩=some (.int .i64 (kn:Int)):=cell_of_heap hea _;have a8:wa.cell? ⟨w.heap.size,8,none⟩=some (.string wd):=cell_of_heap hea _;have a9:wa.cell? ⟨w.heap.size,9,none⟩=some (.int .i64 (cn:Int)):=cell_of_heap hea _;clear c4 c5 fz hba hea;generalize hb0:w.heap.size=b0 at *;have k4:∀o,(wa.alloc o).cell? ⟨rb,4,none⟩=some (.slice pe L cape):=fun o=>(CE (a:=⟨rb,4,none⟩) (CF wa o rb (by omega))).trans a4
 have kf:∀o,(wa.alloc o).frozen? ⟨rb,4,none⟩=false:=fun o=>(C6 (a:=⟨rb,4,none⟩) (CF wa o rb (by omega))).trans af
 go_region_law ((refine step_append_lies _ (by rfl) _ _ _ (by rfl) 0 122 i3 _ 10 88 Tryz.underlying101 hi3 hy0 hy1 hy2 rfl (by omega) (.slice pe L cape) L (aP log) (by rfl) (an.owns (S:=[]) (an.drew (an.alloc (an.refl _ _) _)) HRA.out (by simp)) ⟨b0+1,0,none⟩ 1 1 [.int .i64 (me:Int),.int .i64 (sq:Int),.int .i64 r0,.int .i64 r1,.int .i64 r2,.int .i64 r3,.int .i64 r4,.int .i64 (kn:Int),.string wd,.int .i64 (cn:Int)] (by rfl) (by rfl) (World.news_of_block (cs:=#[.int .i64 (me:Int),.int .i64 (sq:Int),.int .i64 r0,.int .i64 r1,.int .i64 r2,.int .i64 r3,.int .i64 r4,.int .i64 (kn:Int),.string wd,.int .i64 (cn:Int)]) (t:=122) (fr:=(0,0)) (by rw[←hsa];exact heap_alloc_new wa _)) (by simp[Value.oneCell']) (by omega) (by unfold maxLen;omega) (by omega) (by first|(simp;done)|(simp;omega)) (b0+1+1) (by simp[hsa]) ?_;intro g5 cap5 w5 hown5 hgrow hat5 hlt5;have s2:w5.cell? ⟨rb,4,none⟩=some (.slice pe L cape):=(hgrow.cell_far ⟨rb,4,none⟩ (by first|(simp;done)|(simp;omega)) (Ne.symm hne)).trans (k4 _);have sf:w5.frozen? ⟨rb,4,none⟩=false:=(hgrow.frozen_far ⟨rb,4,none⟩ (by first|(simp;done)|(simp;omega)) (Ne.symm hne)).trans (kf _)))
 all_goals
  obtain⟨W9,hW9⟩:∃W,W=w5.setCell ⟨rb,4,none⟩ (.slice (some ⟨g5,0,none⟩) (L+1) cap5):=⟨_,rfl⟩
  rw[←hW9];have u5:an [(Value.slice pe L cape).ownBlock] wa w5:=(((an.refl _ wa).alloc _).drew).grown hgrow fun b hb=>.inl (by simp[hb])
  have ne0:∀b,(Value.slice pe L cape).ownBlock=some b→b<b0:=fun b hb=>by have:=(HR.out.lt b hb).2;omega
  have hg5:g5≠rb:=by
   rcases hat5 with h|h
   ·intro e;exact hne (e ▸ h)
   omega
  have hr5:w5.heap[rb]?=some (.cells C T (0,0)):=(u5.block rb (by omega) (by simpa using Ne.symm hne)).trans ((HBA.out.block rb hrl).trans HRB.out);have he5:w5.heap[b0]?=wa.heap[b0]?:=u5.block b0 (by omega) (by simp only[List.mem_singleton];intro e;have:=ne0 b0 e.symm;omega);have hr9:W9.heap[rb]?=some (.cells (C.setIfInBounds 4 (.slice (some ⟨g5,0,none⟩) (L+1) cap5)) T (0,0)):=by rw[hW9];exact ae hr5 _
  have he9:W9.heap[b0]?=wa.heap[b0]?:=by rw[hW9,CD _ _ _ _ (by show b0≠rb;omega)];exact he5
  have q0:W9.cell? ⟨b0,0,none⟩=some (.int .i64 (me:Int)):=by rw[cell_of_heap (he9.trans HEA.out)];rfl
  have q1:W9.cell? ⟨b0,1,none⟩=some (.int .i64 (sq:Int)):=by rw[cell_of_heap (he9.trans HEA.out)];rfl
  have q5:W9.cell? ⟨rb,5+me,none⟩=some (.int .i64 (rv:Int)):=by
   rw[cell_of_heap hr9,Array.getElem?_setIfInBounds_ne (by omega)];exact HC5.out
  have qf:W9.frozen? ⟨rb,5+me,none⟩=false:=frozen_of_heap hr9 _;have ho9:W9.ownsRow 0 122 10 (.slice (some ⟨g5,0,none⟩) (L+1) cap5) (L+1) (aP (log++[x])):=by
   rw[hW9,HL.out];exact ai hown5 (fun b hb=>by cases hb;exact hg5) _
  have u9:an [some rb,ev.ownBlock] w W9:=by
   rw[HE.out,hW9];exact(an.trans (S:=[some rb,(Value.slice pe L cape).ownBlock]) (an.of_below (by rw[hb0];exact HBA.out)) u5 (fun i hi=>.inl (CQ _ hi))).setCell (.inl (by simp)) _
  have HF:Hid (ev.ownBlock=some g5∨w.heap.size≤g5):=by
   rw[HE.out];rcases hat5 with h|h
   ·exact .inl h
   exact .inr (by omega)
  have H9:Hid _:=ho9;have HU:Hid _:=u9;have HR9:Hid _:=hr9;have HG:Hid (g5≠rb):=hg5;clear u5 ne0 hr5 he5 hr9 he9 hW9 ho9 u9 hgrow hown5 s2 sf hat5 k4 kf a0 a1 a2 a3 a4 a4' a5 a6 a7 a8 a9 af HEA HBA HRA HR HRB HL hy0 hy1 hy2 hi3 i3 hg5;have hmi0:(0:Int)≤(me:Int):=by omega
  have hmi5:(me:Int)<5:=by omega
  have hmi6:(me:Int)≤5:=by omega
  go_upto_region 2 with fail
  go_region_held3 (fun w'=>w'.cell? ⟨b0,0,none⟩=some (.int .i64 (me:Int))∧w'.cell? ⟨b0,1,none⟩=some (.int .i64 (sq:Int))) (first
    |exact⟨q0,q1⟩
    |exact⟨(CE (a:=⟨b0,0,none⟩) (CD W9 ⟨rb,5+me,none⟩ _ b0 (by show b0≠rb;omega))).trans q0,(CE (a:=⟨b0,1,none⟩) (CD W9 ⟨rb,5+me,none⟩ _ b0 (by show b0≠rb;omega))).trans q1⟩
    |go_keep) (first
    |fail)
  go_wp2
  go_end0
  subst hL;rw[HME.out,HSQ.out];refine⟨rfl,g5,cap5,?_,HF.out,HG.out,ae HR9.out _,(HU.out.setCell (.inl (by simp)) _).drew⟩;have h:=ai (a:=⟨rb,5+me,none⟩) H9.out (fun b hb=>by cases hb;exact HG.out) (.int .i64 (sq:Int));exact h
theorem yD(rb:Nat)(log:List En)(h8:log.length≤4294967296)(x:En)(s0:Nat)(hx:x.seq=s0+1)(hs0:x.ah.get x.org=s0)(ev:Value)(C:Array Value)(T:TypeId)(w:World)(hrb:w.heap[rb]?=some (.cells C T (0,0)))(h4:C[4]?=some ev)(hr:∀j,j<5→C[5+j]?=some (.int .i64 (x.ah.get j:Int)))(hrow:w.ownsRow 0 122 10 ev log.length (aP log))(hne:ev.ownBlock≠some rb):Calls Tryz.prog 49 #[.pointer (some ⟨rb,4,none⟩),.int .i64 (x.org:Int),.agg #[.int .i64 (x.c.k.num:Int),.string x.c.word,.int .i64 (x.c.count:Int)]] w fun e w' =>
   e=.returned (.agg #[.int .i64 (x.org:Int),.int .i64 ((s0:Int)+1),.int .i64 (x.ah.a:Int),.int .i64 (x.ah.b:Int),.int .i64 (x.ah.c:Int),.int .i64 (x.ah.d:Int),.int .i64 (x.ah.e:Int),.int .i64 (x.c.k.num:Int),.string x.c.word,.int .i64 (x.c.count:Int)])∧∃g cap,w'.ownsRow 0 122 10 (.slice (some ⟨g,0,none⟩) (log.length+1) cap) (log.length+1) (aP (log++[x]))∧(ev.ownBlock=some g∨w.heap.size≤g)∧g≠rb∧w'.heap[rb]?=some (.cells ((C.setIfInBounds 4 (.slice (some ⟨g,0,none⟩) (log.length+1) cap)).setIfInBounds (5+x.org) (.int .i64 ((s0:Int)+1))) T (0,0))∧an [some rb,ev.ownBlock] w w':=by
 have hrl:rb<w.heap.size:=(Cn.1 hrb).1;have hel:∀b,ev.ownBlock=some b→b<w.heap.size:=fun b hb=>(hrow.lt b hb).2
 have hsi:(x.seq:Int)=(s0:Int)+1:=by omega
 have hme:=x.ho;have hsb:s0<1152921504606846976:=by have:=x.hs;omega
 have HP:Hid (∀W,Below w.heap.size w W→Calls Tryz.prog 88 #[.pointer (some ⟨rb,4,none⟩),.agg #[.int .i64 (x.org:Int),.int .i64 ((s0:Int)+1),.int .i64 (x.ah.a:Int),.int .i64 (x.ah.b:Int),.int .i64 (x.ah.c:Int),.int .i64 (x.ah.d:Int),.int .i64 (x.ah.e:Int),.int .i64 (x.c.k.num:Int),.string x.c.word,.int .i64 (x.c.count:Int)]] W fun e w' =>
   e=.returned (.tuple #[])∧∃g cap,w'.ownsRow 0 122 10 (.slice (some ⟨g,0,none⟩) (log.length+1) cap) (log.length+1) (aP (log++[x]))∧(ev.ownBlock=some g∨W.heap.size≤g)∧g≠rb∧w'.heap[rb]?=some (.cells ((C.setIfInBounds 4 (.slice (some ⟨g,0,none⟩) (log.length+1) cap)).setIfInBounds (5+x.org) (.int .i64 ((s0:Int)+1))) T (0,0))∧an [some rb,ev.ownBlock] W w'):=fun W hW =>
  by
   have:=sR rb log h8 x ev C T W ((hW.block rb hrl).trans hrb) h4 s0 (by rw[hr x.org hme,hs0]) ((an.of_below (S:=[]) hW).owns hrow (by simp)) hne;rw[hsi]at this
   exact this
 have c0:w.cell? ⟨rb,5,none⟩=some (.int .i64 (x.ah.a:Int)):=by rw[cell_of_heap hrb];exact hr 0 (by omega)
 have c1:w.cell? ⟨rb,6,none⟩=some (.int .i64 (x.ah.b:Int)):=by rw[cell_of_heap hrb];exact hr 1 (by omega)
 have c2:w.cell? ⟨rb,7,none⟩=some (.int .i64 (x.ah.c:Int)):=by rw[cell_of_heap hrb];exact hr 2 (by omega)
 have c3:w.cell? ⟨rb,8,none⟩=some (.int .i64 (x.ah.d:Int)):=by rw[cell_of_heap hrb];exact hr 3 (by omega)
 have c4:w.cell? ⟨rb,9,none⟩=some (.int .i64 (x.ah.e:Int)):=by rw[cell_of_heap hrb];exact hr 4 (by omega)
 have cm5:w.cell? ⟨rb,5+x.org,none⟩=some (.int .i64 (s0:Int)):=by rw[cell_of_heap hrb,hr x.org hme,hs0]
 clear hrow hrb h4 hr hsi hx hs0;have hmi0:(0:Int)≤(x.org:Int):=by omega
 have hmi5:(x.org:Int)<5:=by omega
 have hmi6:(x.org:Int)≤5:=by omega
 go_enter Tryz.func49,Tryz.ntmps49
 have hwr:IntKind.i64.wrap ((s0:Int)+1)=(s0:Int)+1:=by rw[IntKind.wrap_i64];omega
 go_upto_region 1 with fail
 generalize hL:log.length=L at *;generalize hr0:((x.ah.a:Nat):Int)=r0 at *;generalize hr1:((x.ah.b:Nat):Int)=r1 at *;generalize hr2:((x.ah.c:Nat):Int)=r2 at *;generalize hr3:((x.ah.d:Nat):Int)=r3 at *;generalize hr4:((x.ah.e:Nat):Int)=r4 at *;obtain⟨wa,hwa⟩:∃wa,(w.alloc (.cells #[.int .i64 (x.c.k.num:Int),.string x.c.word,.int .i64 (x.c.count:Int)] 116)).alloc (.cells #[.int .i64 0,.int .i64 0,.int .i64 0,.int .i64 0,.int .i64 0,.int .i64 0,.int .i64 0,.int .i64 0,.string CL,.int .i64 0] 122)=wa:=⟨_,rfl⟩
 have hba:Below w.heap.size w wa:=by rw[←hwa];exact((Ck _ w).alloc (Cl _) _).alloc (by simp) _
 have hea:wa.heap[w.heap.size]?=some (.cells #[.int .i64 (x.c.k.num:Int),.string x.c.word,.int .i64 (x.c.count:Int)] 116 (0,0)):=by rw[←hwa];exact(CF _ _ _ (by simp)).trans (heap_alloc_new w _)
 have hra:wa.heap[w.heap.size+1]?=some (.cells #[.int .i64 0,.int .i64 0,.int .i64 0,.int .i64 0,.int .i64 0,.int .i64 0,.int .i64 0,.int .i64 0,.string CL,.int .i64 0] 122 (0,0)):=by
  rw[←hwa];have:=heap_alloc_new (w.alloc (.cells #[.int .i64 (x.c.k.num:Int),.string x.c.word,.int .i64 (x.c.count:Int)] 116)) (.cells #[.int .i64 0,.int .i64 0,.int .i64 0,.int .i64 0,.int .i64 0,.int .i64 0,.int .i64 0,.int .i64 0,.string CL,.int .i64 0] 122);simpa only[World.size_alloc] using this
 have hsa:wa.heap.size=w.heap.size+1+1:=by rw[←hwa];simp
 have hwa':(w.alloc (.cells #[.int .i64 (x.c.k.num:Int),.string x.c.word,.int .i64 (x.c.count:Int)] 116)).alloc (.cells #[.int .i64 0,.int .i64 0,.int .i64 0,.int .i64 0,.int .i64 0,.int .i64 0,.int .i64 0,.int .i64 0,.string {data:=#[]},.int .i64 0] 122)=wa:=hwa;rw[hwa'];clear hwa hwa';have HBA:Hid (Below w.heap.size w wa):=hba;have HRA:Hid (wa.heap[w.heap.size+1]?=some (.cells #[.int .i64 0,.int .i64 0,.int .i64 0,.int .i64 0,.int .i64 0,.int .i64 0,.int .i64 0,.int .i64 0,.string CL,.int .i64 0] 122 (0,0))):=hra;have a0:=aa hba c0;have a1:=aa hba c1;have a2:=aa hba c2;have a3:=aa hba c3;have a4:=aa hba c4;have am:=aa hba cm5;have b0:wa.cell? ⟨w.heap.size,0,none⟩=some (.int .i64 (x.c.k.num:Int)):=cell_of_heap hea _;have b1:wa.cell? ⟨w.heap.size,1,none⟩=some (.string x.c.word):=cell_of_heap hea _
 have b2:wa.cell? ⟨w.heap.size,2,none⟩=some (.int .i64 (x.c.count:Int)):=cell_of_heap hea _;clear c0 c1 c2 c3 c4 cm5 hba hea hra;generalize hb0:w.heap.size=B at *;have n0:B≠wa.heap.size:=by omega
 have n1:rb≠wa.heap.size:=by omega
 go_region_held3 (fun w'=>w'.cell? ⟨rb,5,none⟩=some (.int .i64 r0)∧w'.cell? ⟨rb,6,none⟩=some (.int .i64 r1)∧w'.cell? ⟨rb,7,none⟩=some (.int .i64 r2)∧w'.cell? ⟨rb,8,none⟩=some (.int .i64 r3)∧w'.cell? ⟨rb,9,none⟩=some (.int .i64 r4)∧w'.cell? ⟨rb,5+x.org,none⟩=some (.int .i64 (s0:Int))∧w'.cell? ⟨B,0,none⟩=some (.int .i64 (x.c.k.num:Int))∧w'.cell? ⟨B,1,none⟩=some (.string x.c.word)∧w'.cell? ⟨B,2,none⟩=some (.int .i64 (x.c.count:Int))) (first
   |exact⟨a0,a1,a2,a3,a4,am,b0,b1,b2⟩
   |go_keep) (first
   |fail)
 obtain⟨wv,hwv⟩:∃wv,(wa.alloc (.cells #[.int .i64 (x.org:Int),.int .i64 ((s0:Int)+1),.int .i64 r0,.int .i64 r1,.int .i64 r2,.int .i64 r3,.int .i64 r4,.int .i64 (x.c.k.num:Int),.string x.c.word,.int .i64 (x.c.count:Int)] 122)).drew=wv:=⟨_,rfl⟩
 have hbv:Below B w wv:=by rw[←hwv];exact(HBA.out.alloc (by omega) _).drew
 have hev:wv.heap[B+1+1]?=some (.cells #[.int .i64 (x.org:Int),.int .i64 ((s0:Int)+1),.int .i64 r0,.int .i64 r1,.int .i64 r2,.int .i64 r3,.int .i64 r4,.int .i64 (x.c.k.num:Int),.string x.c.word,.int .i64 (x.c.count:Int)] 122 (0,0)):=by rw[←hwv,←hsa];exact heap_alloc_new wa _
 have hrv:wv.heap[B+1]?=some (.cells #[.int .i64 0,.int .i64 0,.int .i64 0,.int .i64 0,.int .i64 0,.int .i64 0,.int .i64 0,.int .i64 0,.string CL,.int .i64 0] 122 (0,0)):=by rw[←hwv];exact(CF wa _ (B+1) (by omega)).trans HRA.out
 rw[hwv];rename_i hHeld;clear hwv a0 a1 a2 a3 a4 am b0 b1 b2 n0 n1 hHeld;have HPV:=HP.out wv (by rw[←hb0]at hbv ⊢;exact hbv);have HPV':Hid _:=HPV;have hsv:B+1+1<wv.heap.size:=(Cn.1 hev).1;have HEV:Hid (wv.heap[B+1+1]?=some (.cells #[.int .i64 (x.org:Int),.int .i64 ((s0:Int)+1),.int .i64 r0,.int .i64 r1,.int .i64 r2,.int .i64 r3,.int .i64 r4,.int .i64 (x.c.k.num:Int),.string x.c.word,.int .i64 (x.c.count:Int)] 122 (0,0))):=hev;have HRV:Hid (wv.heap[B+1]?=some (.cells #[.int .i64 0,.int .i64 0,.int .i64 0,.int .i64 0,.int .i64 0,.int .i64 0,.int .i64 0,.int .i64 0,.string CL,.int .i64 0] 122 (0,0))):=hrv;have HBV:Hid (Below B w wv):=hbv;have e0:wv.cell? ⟨B+1+1,0,none⟩=some (.int .i64 (x.org:Int)):=cell_of_heap hev _;have e1:wv.cell? ⟨B+1+1,1,none⟩=some (.int .i64 ((s0:Int)+1)):=cell_of_heap hev _
 have e2:wv.cell? ⟨B+1+1,2,none⟩=some (.int .i64 r0):=cell_of_heap hev _;have e3:wv.cell? ⟨B+1+1,3,none⟩=some (.int .i64 r1):=cell_of_heap hev _;have e4:wv.cell? ⟨B+1+1,4,none⟩=some (.int .i64 r2):=cell_of_heap hev _;have e5:wv.cell? ⟨B+1+1,5,none⟩=some (.int .i64 r3):=cell_of_heap hev _;have e6:wv.cell? ⟨B+1+1,6,none⟩=some (.int .i64 r4):=cell_of_heap hev _;have e7:wv.cell? ⟨B+1+1,7,none⟩=some (.int .i64 (x.c.k.num:Int)):=cell_of_heap hev _;have e8:wv.cell? ⟨B+1+1,8,none⟩=some (.string x.c.word):=cell_of_heap hev _;have e9:wv.cell? ⟨B+1+1,9,none⟩=some (.int .i64 (x.c.count:Int)):=cell_of_heap hev _
 have HK:Hid (∀w2,an [some rb,ev.ownBlock] wv w2→w2.heap[B+1+1]?=some (.cells #[.int .i64 (x.org:Int),.int .i64 ((s0:Int)+1),.int .i64 r0,.int .i64 r1,.int .i64 r2,.int .i64 r3,.int .i64 r4,.int .i64 (x.c.k.num:Int),.string x.c.word,.int .i64 (x.c.count:Int)] 122 (0,0))∧w2.heap[B+1]?=some (.cells #[.int .i64 0,.int .i64 0,.int .i64 0,.int .i64 0,.int .i64 0,.int .i64 0,.int .i64 0,.int .i64 0,.string CL,.int .i64 0] 122 (0,0))):=fun w2 hu=>by
  have nn:∀b,B≤b→some b∉[some rb,ev.ownBlock]:=fun b hb hm=>by
   simp only[Co,Cq,or_false,Option.some.injEq]at hm;rcases hm with rfl|hm
   ·omega
   have:=hel b hm.symm;omega
  exact⟨(hu.block _ (by omega) (nn _ (by omega))).trans HEV.out,(hu.block _ (by omega) (nn _ (by omega))).trans HRV.out⟩
 have HK2:Hid (∀w2,an [some rb,ev.ownBlock] wv w2→(w2.cell? ⟨B+1+1,0,none⟩=some (.int .i64 (x.org:Int))∧w2.cell? ⟨B+1+1,1,none⟩=some (.int .i64 ((s0:Int)+1))∧w2.cell? ⟨B+1+1,2,none⟩=some (.int .i64 r0)∧w2.cell? ⟨B+1+1,3,none⟩=some (.int .i64 r1)∧w2.cell? ⟨B+1+1,4,none⟩=some (.int .i64 r2)∧w2.cell? ⟨B+1+1,5,none⟩=some (.int .i64 r3)∧w2.cell? ⟨B+1+1,6,none⟩=some (.int .i64 r4)∧w2.cell? ⟨B+1+1,7,none⟩=some (.int .i64 (x.c.k.num:Int))∧w2.cell? ⟨B+1+1,8,none⟩=some (.string x.c.word)∧w2.cell? ⟨B+1+1,9,none⟩=some (.int .i64 (x.c.count:Int)))∧(∀o,w2.frozen? ⟨B+1,o,none⟩=false)∧w2.cell? ⟨B+1,0,none⟩=some (.int .i64 0)∧w2.cell? ⟨B+1,1,none⟩=some (.int .i64 0)∧w2.cell? ⟨B+1,2,none⟩=some (.int .i64 0)∧w2.cell? ⟨B+1,3,none⟩=some (.int .i64 0)∧w2.cell? ⟨B+1,4,none⟩=some (.int .i64 0)∧w2.cell? ⟨B+1,5,none⟩=some (.int .i64 0)∧w2.cell? ⟨B+1,6,none⟩=some (.int .i64 0)∧w2.cell? ⟨B+1,7,none⟩=some (.int .i64 0)∧w2.cell? ⟨B+1,8,none⟩=some (.string CL)∧w2.cell? ⟨B+1,9,none⟩=some (.int .i64 0)):=fun w2 hu=>by
  obtain⟨h1,h2⟩:=HK.out w2 hu;exact⟨⟨by rw[cell_of_heap h1];rfl,by rw[cell_of_heap h1];rfl,by rw[cell_of_heap h1];rfl,by rw[cell_of_heap h1];rfl,by rw[cell_of_heap h1];rfl,by rw[cell_of_heap h1];rfl,by rw[cell_of_heap h1];rfl,by rw[cell_of_heap h1];rfl,by rw[cell_of_heap h1];rfl,by rw[cell_of_heap h1];rfl⟩,frozen_of_heap h2,by rw[cell_of_heap h2];rfl,by rw[cell_of_heap h2];rfl,by rw[cell_of_heap h2];rfl,by rw[cell_of_heap h2];rfl,by rw[cell_of_heap h2];rfl,by rw[cell_of_heap h2];rfl,by rw[cell_of_heap h2];rfl,by rw[cell_of_heap h2];rfl,by rw[cell_of_heap h2];rfl,by rw[cell_of_heap h2];rfl⟩
 clear hev hrv hbv HPV;go_wp2_with (go_at_call 88;refine Calls.mono HPV'.out ?_;rintro e w2 ⟨rfl,g,cap,o1,o2,o3,o4,o5⟩;obtain⟨⟨p0,p1,p2,p3,p4,p5,p6,p7,p8,p9⟩,pf,z0,z1,z2,z3,z4,z5,z6,z7,z8,z9⟩:=HK2.out w2 o5)
 obtain⟨W7,hW7⟩:∃W7,((((((((((w2.setCell ⟨B+1,0,none⟩ (.int .i64 (x.org:Int))).setCell ⟨B+1,1,none⟩ (.int .i64 ((s0:Int)+1))).setCell ⟨B+1,2,none⟩ (.int .i64 r0)).setCell ⟨B+1,3,none⟩ (.int .i64 r1)).setCell ⟨B+1,4,none⟩ (.int .i64 r2)).setCell ⟨B+1,5,none⟩ (.int .i64 r3)).setCell ⟨B+1,6,none⟩ (.int .i64 r4)).setCell ⟨B+1,7,none⟩ (.int .i64 (x.c.k.num:Int))).setCell ⟨B+1,8,none⟩ (.string x.c.word)).setCell ⟨B+1,9,none⟩ (.int .i64 (x.c.count:Int)))=W7:=⟨_,rfl⟩
 have k7:∀b,b≠B+1→W7.heap[b]?=w2.heap[b]?:=fun b hne=>by
  rw[←hW7,CD _ _ _ _ hne,CD _ _ _ _ hne,CD _ _ _ _ hne,CD _ _ _ _ hne,CD _ _ _ _ hne,CD _ _ _ _ hne,CD _ _ _ _ hne,CD _ _ _ _ hne,CD _ _ _ _ hne,CD _ _ _ _ hne]
 have h7:W7.heap[B+1]?=some (.cells #[.int .i64 (x.org:Int),.int .i64 ((s0:Int)+1),.int .i64 r0,.int .i64 r1,.int .i64 r2,.int .i64 r3,.int .i64 r4,.int .i64 (x.c.k.num:Int),.string x.c.word,.int .i64 (x.c.count:Int)] 122 (0,0)):=by
  rw[←hW7,(ae (ae (ae (ae (ae (ae (ae (ae (ae (ae (HK.out w2 o5).2 _) _) _) _) _) _) _) _) _) _)];simp
 have u7:an [some rb,ev.ownBlock] w W7:=by
  have u2:an [some rb,ev.ownBlock] w w2:=(an.of_below (by rw[hb0];exact HBV.out)).trans o5 (fun i hi=>.inl hi);rw[←hW7];exact((((((((((u2.setCell (.inr (by show w.heap.size≤B+1;omega)) _).setCell (.inr (by show w.heap.size≤B+1;omega)) _).setCell (.inr (by show w.heap.size≤B+1;omega)) _).setCell (.inr (by show w.heap.size≤B+1;omega)) _).setCell (.inr (by show w.heap.size≤B+1;omega)) _).setCell (.inr (by show w.heap.size≤B+1;omega)) _).setCell (.inr (by show w.heap.size≤B+1;omega)) _).setCell (.inr (by show w.heap.size≤B+1;omega)) _).setCell (.inr (by show w.heap.size≤B+1;omega)) _).setCell (.inr (by show w.heap.size≤B+1;omega)) _)
 rw[hW7];clear hW7;have y0:W7.cell? ⟨B+1,0,none⟩=some (.int .i64 (x.org:Int)):=cell_of_heap h7 _;have y1:W7.cell? ⟨B+1,1,none⟩=some (.int .i64 ((s0:Int)+1)):=cell_of_heap h7 _;have y2:W7.cell? ⟨B+1,2,none⟩=some (.int .i64 r0):=cell_of_heap h7 _;have y3:W7.cell? ⟨B+1,3,none⟩=some (.int .i64 r1):=cell_of_heap h7 _;have y4:W7.cell? ⟨B+1,4,none⟩=some (.int .i64 r2):=cell_of_heap h7 _;have y5:W7.cell? ⟨B+1,5,none⟩=some (.int .i64 r3):=cell_of_heap h7 _;have y6:W7.cell? ⟨B+1,6,none⟩=some (.int .i64 r4):=cell_of_heap h7 _;have y7:W7.cell? ⟨B+1,7,none⟩=some (.int .i64 (x.c.k.num:Int)):=cell_of_heap h7 _;have y8:W7.cell? ⟨B+1,8,none⟩=some (.string x.c.word):=cell_of_heap h7 _;have y9:W7.cell? ⟨B+1,9,none⟩=some (.int .i64 (x.c.count:Int)):=cell_of_heap h7 _;have ow:W7.ownsRow 0 122 10 (.slice (some ⟨g,0,none⟩) (L+1) cap) (L+1) (aP (log++[x])):=by
  have hg:g≠B+1:=by
   rcases o2 with h|h
   ·have:=hel g h;omega
   omega
  refine⟨o1.1,?_⟩;rcases o1.2 with hn|⟨g',cap',cur,hv,hb,hh,rest⟩
  ·exact .inl hn
  obtain rfl:g=g':=by cases hv;rfl
  exact .inr ⟨g,cap',cur,hv,hb,(k7 g hg).trans hh,rest⟩
 have hfin:ev.ownBlock=some g∨w.heap.size≤g:=by
  rcases o2 with h|h
  ·exact .inl h
  exact .inr (by omega)
 subst hr0 hr1 hr2 hr3 hr4 hL;exact bodyPost_ret (v:=.agg #[.int .i64 (x.org:Int),.int .i64 ((s0:Int)+1),.int .i64 (x.ah.a:Int),.int .i64 (x.ah.b:Int),.int .i64 (x.ah.c:Int),.int .i64 (x.ah.d:Int),.int .i64 (x.ah.e:Int),.int .i64 (x.c.k.num:Int),.string x.c.word,.int .i64 (x.c.count:Int)]) (by simp[results,Tryz.results49,go_sem,y0,y1,y2,y3,y4,y5,y6,y7,y8,y9]) rfl ⟨rfl,g,cap,ow,hfin,o3,(k7 rb (by omega)).trans o4,u7⟩
theorem xG(a b:Rc)(w:World):Calls Tryz.prog 111 #[.agg #[.int .i64 (a.a:Int),.int .i64 (a.b:Int),.int .i64 (a.c:Int),.int .i64 (a.d:Int),.int .i64 (a.e:Int)],.agg #[.int .i64 (b.a:Int),.int .i64 (b.b:Int),.int .i64 (b.c:Int),.int .i64 (b.d:Int),.int .i64 (b.e:Int)]] w fun e w'=>e=.returned (.bool (a.Ax b))∧Below w.heap.size w w':=by
 have i0:∀w,(Instr.index 102 (.agg #[.int .i64 (b.a:Int),.int .i64 (b.b:Int),.int .i64 (b.c:Int),.int .i64 (b.d:Int),.int .i64 (b.e:Int)]) (.int .i64 0)).run Tryz.prog w=.ok (.int .i64 (b.a:Int)) w:=fun _=>by kernel_rfl
 have i1:∀w,(Instr.index 102 (.agg #[.int .i64 (b.a:Int),.int .i64 (b.b:Int),.int .i64 (b.c:Int),.int .i64 (b.d:Int),.int .i64 (b.e:Int)]) (.int .i64 1)).run Tryz.prog w=.ok (.int .i64 (b.b:Int)) w:=fun _=>by kernel_rfl
 have i2:∀w,(Instr.index 102 (.agg #[.int .i64 (b.a:Int),.int .i64 (b.b:Int),.int .i64 (b.c:Int),.int .i64 (b.d:Int),.int .i64 (b.e:Int)]) (.int .i64 2)).run Tryz.prog w=.ok (.int .i64 (b.c:Int)) w:=fun _=>by kernel_rfl
 have i3:∀w,(Instr.index 102 (.agg #[.int .i64 (b.a:Int),.int .i64 (b.b:Int),.int .i64 (b.c:Int),.int .i64 (b.d:Int),.int .i64 (b.e:Int)]) (.int .i64 3)).run Tryz.prog w=.ok (.int .i64 (b.d:Int)) w:=fun _=>by kernel_rfl
 have i4:∀w,(Instr.index 102 (.agg #[.int .i64 (b.a:Int),.int .i64 (b.b:Int),.int .i64 (b.c:Int),.int .i64 (b.d:Int),.int .i64 (b.e:Int)]) (.int .i64 4)).run Tryz.prog w=.ok (.int .i64 (b.e:Int)) w:=fun _=>by kernel_rfl
 have HF:Hid (∀j,j<5→¬ b.get j≤a.get j→a.Ax b=false):=fun j _ hn=>by
  rw[Bool.eq_false_iff];intro h;exact hn ((Rc.AB a b).1 h j)
 have HT:Hid ((∀j,j<5→b.get j≤a.get j)→a.Ax b=true):=fun h=>(Rc.AB a b).2 fun j=>by
  by_cases hj:j<5
  ·exact h j hj
  simp[Rc.get,show j≠0 by omega,show j≠1 by omega,show j≠2 by omega,show j≠3 by omega,show j≠4 by omega]
 have HH:Hid (∀(j s:Nat) W,j<5→Calls Tryz.prog 130 #[.agg #[.int .i64 (a.a:Int),.int .i64 (a.b:Int),.int .i64 (a.c:Int),.int .i64 (a.d:Int),.int .i64 (a.e:Int)],.int .i64 (j:Int),.int .i64 (s:Int)] W fun e w'=>e=.returned (.bool (decide (s≤a.get j)))∧Below W.heap.size W w'):=fun j s W hj=>kg a j s hj W
 have HA:Hid (∀o,(w.alloc (.cells #[.int .i64 (a.a:Int),.int .i64 (a.b:Int),.int .i64 (a.c:Int),.int .i64 (a.d:Int),.int .i64 (a.e:Int)] 104)).heap[w.heap.size]?=some (.cells #[.int .i64 (a.a:Int),.int .i64 (a.b:Int),.int .i64 (a.c:Int),.int .i64 (a.d:Int),.int .i64 (a.e:Int)] 104 (0,0))∧Below w.heap.size w ((w.alloc (.cells #[.int .i64 (a.a:Int),.int .i64 (a.b:Int),.int .i64 (a.c:Int),.int .i64 (a.d:Int),.int .i64 (a.e:Int)] 104)).alloc o)∧((w.alloc (.cells #[.int .i64 (a.a:Int),.int .i64 (a.b:Int),.int .i64 (a.c:Int),.int .i64 (a.d:Int),.int .i64 (a.e:Int)] 104)).alloc o).heap[w.heap.size]?=some (.cells #[.int .i64 (a.a:Int),.int .i64 (a.b:Int),.int .i64 (a.c:Int),.int .i64 (a.d:Int),.int .i64 (a.e:Int)] 104 (0,0))):=fun o =>
  ⟨heap_alloc_new w _,((Ck _ w).alloc (Cl _) _).alloc (by simp) _,(CF _ _ _ (by simp)).trans (heap_alloc_new w _)⟩
 go_enter Tryz.func111,Tryz.ntmps111
 go_wp2_with fail
 go_loopw [9] (fun v wr=>∃j:Nat,j≤5∧v=.int .i64 j∧Hid (∀i,i<j→b.get i≤a.get i)∧Hid (wr.heap[w.heap.size]?=some (.cells #[.int .i64 (a.a:Int),.int .i64 (a.b:Int),.int .i64 (a.c:Int),.int .i64 (a.d:Int),.int .i64 (a.e:Int)] 104 (0,0)))∧Hid (Below w.heap.size w wr)) (fun v _=>5-(intOf v).toNat)
 case atStart=>exact⟨0,by omega,rfl,fun i hi=>by omega,(HA.out _).2.2,(HA.out _).2.1⟩
 case round =>
  obtain⟨j,hj,rfl,hI,hB,hW⟩:=hrel;have hl:=(Cn.1 hB.out).1;have c0:wr.cell? ⟨w.heap.size,0,none⟩=some (.int .i64 (a.a:Int)):=cell_of_heap hB.out _;have c1:wr.cell? ⟨w.heap.size,1,none⟩=some (.int .i64 (a.b:Int)):=cell_of_heap hB.out _;have c2:wr.cell? ⟨w.heap.size,2,none⟩=some (.int .i64 (a.c:Int)):=cell_of_heap hB.out _;have c3:wr.cell? ⟨w.heap.size,3,none⟩=some (.int .i64 (a.d:Int)):=cell_of_heap hB.out _;have c4:wr.cell? ⟨w.heap.size,4,none⟩=some (.int .i64 (a.e:Int)):=cell_of_heap hB.out _;rcases(show j=0∨j=1∨j=2∨j=3∨j=4∨j=5 by omega) with rfl|rfl|rfl|rfl|rfl|rfl
  ·have HHk:=HH.out 0 b.a wr (by omega);have hgk:b.get 0=b.a:=rfl;by_cases hc:b.a≤a.get 0
   ·rw[decide_eq_true hc]at HHk;have HK:Hid _:=HHk;have HN:Hid (∀i,i<1→b.get i≤a.get i):=fun i hi=>by
     by_cases e:i=0
     ·subst e;exact hc
     exact hI.out i (by omega)
    clear HHk hc hgk;go_wp2_with (go_at_call 130;refine Calls.mono HK.out ?_;rintro e w1 ⟨rfl,hb1⟩)
    go_roundw
    case rel=>exact⟨1,by omega,rfl,HN,(hb1.block _ hl).trans hB.out,hW.out.trans (hb1.mono (by omega))⟩
    case measure=>simp[intOf]
   rw[decide_eq_false hc]at HHk;have HK:Hid _:=HHk;have HN:Hid (a.Ax b=false):=HF.out 0 (by omega) hc;clear HHk hc hgk;go_wp2_with (go_at_call 130;refine Calls.mono HK.out ?_;rintro e w1 ⟨rfl,hb1⟩)
   go_ret
   exact⟨aF HN.out.symm,hW.out.trans (hb1.mono (by omega))⟩
  ·have HHk:=HH.out 1 b.b wr (by omega);have hgk:b.get 1=b.b:=rfl;by_cases hc:b.b≤a.get 1
   ·rw[decide_eq_true hc]at HHk;have HK:Hid _:=HHk;have HN:Hid (∀i,i<2→b.get i≤a.get i):=fun i hi=>by
     by_cases e:i=1
     ·subst e;exact hc
     exact hI.out i (by omega)
    clear HHk hc hgk;go_wp2_with (go_at_call 130;refine Calls.mono HK.out ?_;rintro e w1 ⟨rfl,hb1⟩)
    go_roundw
    case rel=>exact⟨2,by omega,rfl,HN,(hb1.block _ hl).trans hB.out,hW.out.trans (hb1.mono (by omega))⟩
    case measure=>simp[intOf]
   rw[decide_eq_false hc]at HHk;have HK:Hid _:=HHk;have HN:Hid (a.Ax b=false):=HF.out 1 (by omega) hc;clear HHk hc hgk;go_wp2_with (go_at_call 130;refine Calls.mono HK.out ?_;rintro e w1 ⟨rfl,hb1⟩)
   go_ret
   exact⟨aF HN.out.symm,hW.out.trans (hb1.mono (by omega))⟩
  ·have HHk:=HH.out 2 b.c wr (by omega);have hgk:b.get 2=b.c:=rfl;by_cases hc:b.c≤a.get 2
   ·rw[decide_eq_true hc]at HHk;have HK:Hid _:=HHk;have HN:Hid (∀i,i<3→b.get i≤a.get i):=fun i hi=>by
     by_cases e:i=2
     ·subst e;exact hc
     exact hI.out i (by omega)
    clear HHk hc hgk;go_wp2_with (go_at_call 130;refine Calls.mono HK.out ?_;rintro e w1 ⟨rfl,hb1⟩)
    go_roundw
    case rel=>exact⟨3,by omega,rfl,HN,(hb1.block _ hl).trans hB.out,hW.out.trans (hb1.mono (by omega))⟩
    case measure=>simp[intOf]
   rw[decide_eq_false hc]at HHk;have HK:Hid _:=HHk;have HN:Hid (a.Ax b=false):=HF.out 2 (by omega) hc;clear HHk hc hgk;go_wp2_with (go_at_call 130;refine Calls.mono HK.out ?_;rintro e w1 ⟨rfl,hb1⟩)
   go_ret
   exact⟨aF HN.out.symm,hW.out.trans (hb1.mono (by omega))⟩
  ·have HHk:=HH.out 3 b.d wr (by omega);have hgk:b.get 3=b.d:=rfl;by_cases hc:b.d≤a.get 3
   ·rw[decide_eq_true hc]at HHk;have HK:Hid _:=HHk;have HN:Hid (∀i,i<4→b.get i≤a.get i):=fun i hi=>by
     by_cases e:i=3
     ·subst e;exact hc
     exact hI.out i (by omega)
    clear HHk hc hgk;go_wp2_with (go_at_call 130;refine Calls.mono HK.out ?_;rintro e w1 ⟨rfl,hb1⟩)
    go_roundw
    case rel=>exact⟨4,by omega,rfl,HN,(hb1.block _ hl).trans hB.out,hW.out.trans (hb1.mono (by omega))⟩
    case measure=>simp[intOf]
   rw[decide_eq_false hc]at HHk;have HK:Hid _:=HHk;have HN:Hid (a.Ax b=false):=HF.out 3 (by omega) hc;clear HHk hc hgk;go_wp2_with (go_at_call 130;refine Calls.mono HK.out ?_;rintro e w1 ⟨rfl,hb1⟩)
   go_ret
   exact⟨aF HN.out.symm,hW.out.trans (hb1.mono (by omega))⟩
  ·have HHk:=HH.out 4 b.e wr (by omega);have hgk:b.get 4=b.e:=rfl;by_cases hc:b.e≤a.get 4
   ·rw[decide_eq_true hc]at HHk;have HK:Hid _:=HHk;have HN:Hid (∀i,i<5→b.get i≤a.get i):=fun i hi=>by
     by_cases e:i=4
     ·subst e;exact hc
     exact hI.out i (by omega)
    clear HHk hc hgk;go_wp2_with (go_at_call 130;refine Calls.mono HK.out ?_;rintro e w1 ⟨rfl,hb1⟩)
    go_roundw
    case rel=>exact⟨5,by omega,rfl,HN,(hb1.block _ hl).trans hB.out,hW.out.trans (hb1.mono (by omega))⟩
    case measure=>simp[intOf]
   rw[decide_eq_false hc]at HHk;have HK:Hid _:=HHk;have HN:Hid (a.Ax b=false):=HF.out 4 (by omega) hc;clear HHk hc hgk;go_wp2_with (go_at_call 130;refine Calls.mono HK.out ?_;rintro e w1 ⟨rfl,hb1⟩)
   go_ret
   exact⟨aF HN.out.symm,hW.out.trans (hb1.mono (by omega))⟩
  go_wp2
  go_ret
  exact⟨aF (HT.out hI.out).symm,hW.out⟩
theorem tV(rb:Nat)(x:En)(rv:Nat)(C:Array Value)(T:TypeId)(w:World)(hrb:w.heap[rb]?=some (.cells C T (0,0)))(h5:C[5+x.org]?=some (.int .i64 (rv:Int)))(hv:rv<1152921504606846976)(hne:x.seq≠rv+1):Calls Tryz.prog 62 #[.pointer (some ⟨rb,4,none⟩),x.val] w fun e w'=>e=.returned (.tuple #[])∧Below w.heap.size w w':=by
 have hrl:rb<w.heap.size:=(Cn.1 hrb).1;have hog:=x.ho;have hq:((x.seq:Int) == (rv:Int)+1)=false:=beq_eq_false_iff_ne.2 (by omega);have hwr:IntKind.i64.wrap ((rv:Int)+1)=(rv:Int)+1:=by rw[IntKind.wrap_i64];omega
 have c5:w.cell? ⟨rb,5+x.org,none⟩=some (.int .i64 (rv:Int)):=by rw[cell_of_heap hrb];exact h5
 have hmi0:(0:Int)≤(x.org:Int):=by omega
 have hmi5:(x.org:Int)<5:=by omega
 have hmi6:(x.org:Int)≤5:=by omega
 clear hrb h5;simp only[En.val];go_enter Tryz.func62,Tryz.ntmps62
 go_upto_region 1 with fail
 obtain⟨wa,hwa⟩:∃wa,w.alloc (.cells #[.int .i64 (x.org:Int),.int .i64 (x.seq:Int),.int .i64 (x.ah.a:Int),.int .i64 (x.ah.b:Int),.int .i64 (x.ah.c:Int),.int .i64 (x.ah.d:Int),.int .i64 (x.ah.e:Int),.int .i64 (x.c.k.num:Int),.string x.c.word,.int .i64 (x.c.count:Int)] 122)=wa:=⟨_,rfl⟩
 have hba:Below w.heap.size w wa:=by rw[←hwa];exact(Ck _ w).alloc (Cl _) _
 have hea:=heap_alloc_new w (.cells #[.int .i64 (x.org:Int),.int .i64 (x.seq:Int),.int .i64 (x.ah.a:Int),.int .i64 (x.ah.b:Int),.int .i64 (x.ah.c:Int),.int .i64 (x.ah.d:Int),.int .i64 (x.ah.e:Int),.int .i64 (x.c.k.num:Int),.string x.c.word,.int .i64 (x.c.count:Int)] 122);rw[hwa]at hea
 have a0:wa.cell? ⟨w.heap.size,0,none⟩=some (.int .i64 (x.org:Int)):=cell_of_heap hea _;have a1:wa.cell? ⟨w.heap.size,1,none⟩=some (.int .i64 (x.seq:Int)):=cell_of_heap hea _;have a5:wa.cell? ⟨rb,5+x.org,none⟩=some (.int .i64 (rv:Int)):=aa hba c5;rw[hwa];have HB:Hid (Below w.heap.size w wa):=hba;clear hwa hea hba c5;go_quiet (fail)
 go_wp2
 go_end0
 exact⟨rfl,below_drewN HB.out _⟩
theorem rW(rb:Nat)(log:List En)(h8:log.length≤4294967296)(x:En)(r:Rc)(ev:Value)(C:Array Value)(T:TypeId)(w:World)(hrb:w.heap[rb]?=some (.cells C T (0,0)))(h4:C[4]?=some ev)(hr:∀j,j<5→C[5+j]?=some (.int .i64 (r.get j:Int)))(hv:∀j,r.get j<1152921504606846976)(hne:x.seq=r.get x.org+1)(hrow:w.ownsRow 0 122 10 ev log.length (aP log))(hnb:ev.ownBlock≠some rb):Calls Tryz.prog 62 #[.pointer (some ⟨rb,4,none⟩),x.val] w fun e w'=>e=.returned (.tuple #[])∧((r.Ax x.ah=false∧Below w.heap.size w w')∨(r.Ax x.ah=true∧∃g cap,w'.ownsRow 0 122 10 (.slice (some ⟨g,0,none⟩) (log.length+1) cap) (log.length+1) (aP (log++[x]))∧(ev.ownBlock=some g∨w.heap.size≤g)∧g≠rb∧w'.heap[rb]?=some (.cells ((C.setIfInBounds 4 (.slice (some ⟨g,0,none⟩) (log.length+1) cap)).setIfInBounds (5+x.org) (.int .i64 (x.seq:Int))) T (0,0))∧an [some rb,ev.ownBlock] w w')):=by
 have hrl:rb<w.heap.size:=(Cn.1 hrb).1;have hog:=x.ho;have hvo:=hv x.org;have hq:((x.seq:Int) == (r.get x.org:Int)+1)=true:=beq_iff_eq.2 (by omega);have hwr:IntKind.i64.wrap ((r.get x.org:Int)+1)=(r.get x.org:Int)+1:=by rw[IntKind.wrap_i64];omega
 have c5:w.cell? ⟨rb,5+x.org,none⟩=some (.int .i64 (r.get x.org:Int)):=by rw[cell_of_heap hrb];exact hr _ hog
 have d0:w.cell? ⟨rb,5,none⟩=some (.int .i64 (r.a:Int)):=by rw[cell_of_heap hrb];exact hr 0 (by omega)
 have d1:w.cell? ⟨rb,6,none⟩=some (.int .i64 (r.b:Int)):=by rw[cell_of_heap hrb];exact hr 1 (by omega)
 have d2:w.cell? ⟨rb,7,none⟩=some (.int .i64 (r.c:Int)):=by rw[cell_of_heap hrb];exact hr 2 (by omega)
 have d3:w.cell? ⟨rb,8,none⟩=some (.int .i64 (r.d:Int)):=by rw[cell_of_heap hrb];exact hr 3 (by omega)
 have d4:w.cell? ⟨rb,9,none⟩=some (.int .i64 (r.e:Int)):=by rw[cell_of_heap hrb];exact hr 4 (by omega)
 have hmi0:(0:Int)≤(x.org:Int):=by omega
 have hmi5:(x.org:Int)<5:=by omega
 have hmi6:(x.org:Int)≤5:=by omega
 have HP:Hid (∀W,Below w.heap.size w W→Calls Tryz.prog 88 #[.pointer (some ⟨rb,4,none⟩),.agg #[.int .i64 (x.org:Int),.int .i64 (x.seq:Int),.int .i64 (x.ah.a:Int),.int .i64 (x.ah.b:Int),.int .i64 (x.ah.c:Int),.int .i64 (x.ah.d:Int),.int .i64 (x.ah.e:Int),.int .i64 (x.c.k.num:Int),.string x.c.word,.int .i64 (x.c.count:Int)]] W fun e w' =>
   e=.returned (.tuple #[])∧∃g cap,w'.ownsRow 0 122 10 (.slice (some ⟨g,0,none⟩) (log.length+1) cap) (log.length+1) (aP (log++[x]))∧(ev.ownBlock=some g∨w.heap.size≤g)∧g≠rb∧w'.heap[rb]?=some (.cells ((C.setIfInBounds 4 (.slice (some ⟨g,0,none⟩) (log.length+1) cap)).setIfInBounds (5+x.org) (.int .i64 (x.seq:Int))) T (0,0))∧an [some rb,ev.ownBlock] w w'):=fun W hW=>by
  refine(sR rb log h8 x ev C T W ((hW.block rb hrl).trans hrb) h4 (r.get x.org) (hr _ hog) ((an.of_below (S:=[]) hW).owns hrow (by simp)) hnb).mono ?_;rintro e w' ⟨he,g,cap,o1,o2,o3,o4,o5⟩
  exact⟨he,g,cap,o1,o2.imp id (fun h=>CC hW.size h),o3,o4,(an.of_below hW).trans o5 (fun i hi=>.inl hi)⟩
 have HC:Hid (∀W,Calls Tryz.prog 111 #[.agg #[.int .i64 (r.a:Int),.int .i64 (r.b:Int),.int .i64 (r.c:Int),.int .i64 (r.d:Int),.int .i64 (r.e:Int)],.agg #[.int .i64 (x.ah.a:Int),.int .i64 (x.ah.b:Int),.int .i64 (x.ah.c:Int),.int .i64 (x.ah.d:Int),.int .i64 (x.ah.e:Int)]] W fun e w'=>e=.returned (.bool (r.Ax x.ah))∧Below W.heap.size W w'):=fun W=>xG r x.ah W
 obtain⟨cv,hcv⟩:∃cv,r.Ax x.ah=cv:=⟨_,rfl⟩
 rw[hcv]at HC;have HCV:Hid (r.Ax x.ah=cv):=hcv;clear hcv;clear hrb h4 hr hv hrow hne hvo;simp only[En.val];go_enter Tryz.func62,Tryz.ntmps62
 go_upto_region 1 with fail
 obtain⟨wa,hwa⟩:∃wa,w.alloc (.cells #[.int .i64 (x.org:Int),.int .i64 (x.seq:Int),.int .i64 (x.ah.a:Int),.int .i64 (x.ah.b:Int),.int .i64 (x.ah.c:Int),.int .i64 (x.ah.d:Int),.int .i64 (x.ah.e:Int),.int .i64 (x.c.k.num:Int),.string x.c.word,.int .i64 (x.c.count:Int)] 122)=wa:=⟨_,rfl⟩
 have hba:Below w.heap.size w wa:=by rw[←hwa];exact(Ck _ w).alloc (Cl _) _
 have hea:=heap_alloc_new w (.cells #[.int .i64 (x.org:Int),.int .i64 (x.seq:Int),.int .i64 (x.ah.a:Int),.int .i64 (x.ah.b:Int),.int .i64 (x.ah.c:Int),.int .i64 (x.ah.d:Int),.int .i64 (x.ah.e:Int),.int .i64 (x.c.k.num:Int),.string x.c.word,.int .i64 (x.c.count:Int)] 122);rw[hwa]at hea
 have hsa:w.heap.size<wa.heap.size:=(Cn.1 hea).1;have HEA:Hid (∀W,Below wa.heap.size wa W→W.heap[w.heap.size]?=some (.cells #[.int .i64 (x.org:Int),.int .i64 (x.seq:Int),.int .i64 (x.ah.a:Int),.int .i64 (x.ah.b:Int),.int .i64 (x.ah.c:Int),.int .i64 (x.ah.d:Int),.int .i64 (x.ah.e:Int),.int .i64 (x.c.k.num:Int),.string x.c.word,.int .i64 (x.c.count:Int)] 122 (0,0))):=fun W hW=>(hW.block _ hsa).trans hea
 have a0:wa.cell? ⟨w.heap.size,0,none⟩=some (.int .i64 (x.org:Int)):=cell_of_heap hea _;have a1:wa.cell? ⟨w.heap.size,1,none⟩=some (.int .i64 (x.seq:Int)):=cell_of_heap hea _;have a2:wa.cell? ⟨w.heap.size,2,none⟩=some (.int .i64 (x.ah.a:Int)):=cell_of_heap hea _;have a3:wa.cell? ⟨w.heap.size,3,none⟩=some (.int .i64 (x.ah.b:Int)):=cell_of_heap hea _;have a4:wa.cell? ⟨w.heap.size,4,none⟩=some (.int .i64 (x.ah.c:Int)):=cell_of_heap hea _;have a5:wa.cell? ⟨w.heap.size,5,none⟩=some (.int .i64 (x.ah.d:Int)):=cell_of_heap hea _;have a6:wa.cell? ⟨w.heap.size,6,none⟩=some (.int .i64 (x.ah.e:Int)):=cell_of_heap hea _;have e5:=aa hba c5;have f0:=aa hba d0;have f1:=aa hba d1;have f2:=aa hba d2;have f3:=aa hba d3;have f4:=aa hba d4;rw[hwa];have HB:Hid (Below w.heap.size w wa):=hba;clear hwa hea hba c5 d0 d1 d2 d3 d4;generalize hb0:w.heap.size=b0 at *
 go_region_held3 (fun w'=>w'.cell? ⟨b0,0,none⟩=some (.int .i64 (x.org:Int))∧w'.cell? ⟨b0,1,none⟩=some (.int .i64 (x.seq:Int))∧w'.cell? ⟨b0,2,none⟩=some (.int .i64 (x.ah.a:Int))∧w'.cell? ⟨b0,3,none⟩=some (.int .i64 (x.ah.b:Int))∧w'.cell? ⟨b0,4,none⟩=some (.int .i64 (x.ah.c:Int))∧w'.cell? ⟨b0,5,none⟩=some (.int .i64 (x.ah.d:Int))∧w'.cell? ⟨b0,6,none⟩=some (.int .i64 (x.ah.e:Int))∧w'.cell? ⟨rb,5+x.org,none⟩=some (.int .i64 (r.get x.org:Int))∧w'.cell? ⟨rb,5,none⟩=some (.int .i64 (r.a:Int))∧w'.cell? ⟨rb,6,none⟩=some (.int .i64 (r.b:Int))∧w'.cell? ⟨rb,7,none⟩=some (.int .i64 (r.c:Int))∧w'.cell? ⟨rb,8,none⟩=some (.int .i64 (r.d:Int))∧w'.cell? ⟨rb,9,none⟩=some (.int .i64 (r.e:Int))) (first
   |exact⟨a0,a1,a2,a3,a4,a5,a6,e5,f0,f1,f2,f3,f4⟩
   |exact⟨aa t2 a0,aa t2 a1,aa t2 a2,aa t2 a3,aa t2 a4,aa t2 a5,aa t2 a6,aa t2 e5,aa t2 f0,aa t2 f1,aa t2 f2,aa t2 f3,aa t2 f4⟩
   |go_keep) (first
   |(go_at_call 111;refine(HC.out _).mono ?_;rintro e w2 ⟨rfl,u2⟩;have t2:Below wa.heap.size wa w2:=((Ck _ wa).drew).trans u2))
 have hw2:Below w.heap.size w w2:=by
  rw[hb0];exact HB.out.trans (t2.mono (by have:=HB.out.size;omega))
 have h2:=HEA.out w2 t2;have p0:w2.cell? ⟨b0,0,none⟩=some (.int .i64 (x.org:Int)):=cell_of_heap h2 _;have p1:w2.cell? ⟨b0,1,none⟩=some (.int .i64 (x.seq:Int)):=cell_of_heap h2 _;have p2:w2.cell? ⟨b0,2,none⟩=some (.int .i64 (x.ah.a:Int)):=cell_of_heap h2 _;have p3:w2.cell? ⟨b0,3,none⟩=some (.int .i64 (x.ah.b:Int)):=cell_of_heap h2 _;have p4:w2.cell? ⟨b0,4,none⟩=some (.int .i64 (x.ah.c:Int)):=cell_of_heap h2 _;have p5:w2.cell? ⟨b0,5,none⟩=some (.int .i64 (x.ah.d:Int)):=cell_of_heap h2 _;have p6:w2.cell? ⟨b0,6,none⟩=some (.int .i64 (x.ah.e:Int)):=cell_of_heap h2 _;have p7:w2.cell? ⟨b0,7,none⟩=some (.int .i64 (x.c.k.num:Int)):=cell_of_heap h2 _;have p8:w2.cell? ⟨b0,8,none⟩=some (.string x.c.word):=cell_of_heap h2 _;have p9:w2.cell? ⟨b0,9,none⟩=some (.int .i64 (x.c.count:Int)):=cell_of_heap h2 _;have HW:Hid (Below w.heap.size w w2):=hw2;have HP2:=HP.out w2 (by rw[←hb0];exact hw2)
 have HPP:Hid _:=HP2;clear h2 a0 a1 a2 a3 a4 a5 a6 e5 f0 f1 f2 f3 f4 HB HEA HC hw2 HP HP2 t2 u2;cases cv with
 |false =>
  go_wp2
  go_end0
  exact⟨rfl,.inl ⟨HCV.out,(by have:=HW.out;rw[hb0]at this;exact this)⟩⟩
 |true =>
  go_wp2_with (go_at_call 88;refine Calls.mono HPP.out ?_;rintro e w3 ⟨rfl,g,cap,o1,o2,o3,o4,o5⟩)
  go_end0
  exact⟨rfl,.inr ⟨HCV.out,g,cap,o1,(by rw[hb0];exact o2),o3,o4,o5⟩⟩
end
section
open Go.RowKit Go.Proofs Go.MuLone
variable {o:Nat}
def dL(lk:Int)(n me:Nat)(r:Rc)(now:Nat)(ow:Nat→Bool)(ev wv:Value):Array Value:=#[.int .i32 lk,.int .u32 0,.int .i64 (me:Int),.int .i64 (n:Int),ev,.int .i64 (r.a:Int),.int .i64 (r.b:Int),.int .i64 (r.c:Int),.int .i64 (r.d:Int),.int .i64 (r.e:Int),.int .i64 (now:Int),wv,.bool (ow 0),.bool (ow 1),.bool (ow 2),.bool (ow 3),.bool (ow 4)]
theorem jg(lk:Int)(n me:Nat)(r:Rc)(now:Nat)(ow:Nat→Bool)(ev wv:Value){j:Nat}(hj:j<5):(dL lk n me r now ow ev wv)[5+j]?=some (.int .i64 (r.get j:Int)):=by
 rcases(show j=0∨j=1∨j=2∨j=3∨j=4 by omega) with rfl|rfl|rfl|rfl|rfl <;> simp[dL,Rc.get]
theorem nQ(lk:Int)(n me:Nat)(r:Rc)(now:Nat)(ow:Nat→Bool)(ev wv:Value){j:Nat}(hj:j<5):(dL lk n me r now ow ev wv)[12+j]?=some (.bool (ow j)):=by
 rcases(show j=0∨j=1∨j=2∨j=3∨j=4 by omega) with rfl|rfl|rfl|rfl|rfl <;> simp[dL]
theorem nR(lk lk':Int)(n me:Nat)(r:Rc)(now:Nat)(ow:Nat→Bool)(ev wv:Value):(dL lk n me r now ow ev wv).setIfInBounds 0 (.int .i32 lk')=dL lk' n me r now ow ev wv:=by simp[dL]
theorem eL(lk:Int)(n me:Nat)(r:Rc)(now:Nat)(ow:Nat→Bool)(ev wv wv':Value):(dL lk n me r now ow ev wv).setIfInBounds 11 wv'=dL lk n me r now ow ev wv':=by simp[dL]
theorem vv(lk:Int)(n me:Nat)(r:Rc)(now now':Nat)(ow:Nat→Bool)(ev wv:Value):(dL lk n me r now ow ev wv).setIfInBounds 10 (.int .i64 (now':Int))=dL lk n me r now' ow ev wv:=by simp[dL]
theorem qc(lk:Int)(n me:Nat)(r:Rc)(now:Nat)(ow:Nat→Bool)(ev wv ev':Value){v:Nat}(ho:o<5):((dL lk n me r now ow ev wv).setIfInBounds 4 ev').setIfInBounds (5+o) (.int .i64 (v:Int))=dL lk n me (r.set o v) now ow ev' wv:=by
 rcases(show o=0∨o=1∨o=2∨o=3∨o=4 by omega) with rfl|rfl|rfl|rfl|rfl <;> simp[dL,Rc.set]
theorem vu(lk:Int)(n me:Nat)(r:Rc)(now:Nat)(ow:Nat→Bool)(ev wv:Value)(ho:o<5):(dL lk n me r now ow ev wv).setIfInBounds (12+o) (.bool true)=dL lk n me r now (fun k=>if k=o then true else ow k) ev wv:=by
 rcases(show o=0∨o=1∨o=2∨o=3∨o=4 by omega) with rfl|rfl|rfl|rfl|rfl <;> simp[dL]
structure bp(w:World)(rb n me:Nat)(lk:Int)(log:List En)(now:Nat)(its:List It)(ow:Nat→Bool)(ev wv:Value):Prop where
 rbk:w.heap[rb]?=some (.cells (dL lk n me (bC log) now ow ev wv) 113 (0,0))
 erow:w.ownsRow 0 122 10 ev log.length (aP log)
 eN:ev.ownBlock≠some rb
 wrow:w.ownsRow 0 171 12 wv its.length (cA its)
 wN:wv.ownBlock≠some rb
 ew:∀b,wv.ownBlock=some b→ev.ownBlock≠some b
 heap:aH 0 its.length (kF its)
section
variable {w w':World} {rb n me:Nat} {lk:Int} {log:List En} {now:Nat} {its:List It} {ow:Nat→Bool} {ev wv:Value}
theorem bp.lt(h:bp w rb n me lk log now its ow ev wv):rb<w.heap.size:=(Cn.1 h.rbk).1
theorem bp.keep(h:bp w rb n me lk log now its ow ev wv){S:List (Option Nat)}(hu:an S w w')(h1:some rb∉S)(h2:∀b,ev.ownBlock=some b→some b∉S)(h3:∀b,wv.ownBlock=some b→some b∉S):bp w' rb n me lk log now its ow ev wv:=⟨(hu.block rb h.lt h1).trans h.rbk,hu.owns h.erow h2,h.eN,hu.owns h.wrow h3,h.wN,h.ew,h.heap⟩
theorem bp.below(h:bp w rb n me lk log now its ow ev wv)(hb:Below w.heap.size w w'):bp w' rb n me lk log now its ow ev wv:=h.keep (an.of_below (S:=[]) hb) (by simp) (by simp) (by simp)
theorem bp.lock(h:bp w rb n me lk log now its ow ev wv)(lk':Int):bp (w.setCell ⟨rb,0,none⟩ (.int .i32 lk')) rb n me lk' log now its ow ev wv:=⟨by rw[ae h.rbk,nR],ai h.erow (fun b hb e=>h.eN (by rw[hb,e])) _,h.eN,ai h.wrow (fun b hb e=>h.wN (by rw[hb,e])) _,h.wN,h.ew,h.heap⟩
theorem bp.ne0(h:bp w rb n me lk log now its ow ev wv)(hv:ba w):rb≠0:=fun e=>by
 subst e;have:=hv .closed;rw[show(Kd.num Go.Tcp.closed)=0 from rfl,cell_of_heap h.rbk]at this
 simp[dL]at this
theorem bp.BX(h:bp w rb n me lk log now its ow ev wv)(hp:fu w):rb≠3:=fun e=>by
 subst e;have:=Lib.TabIs.cell hp Tryz.Bi 0 (by decide);rw[cell_of_heap h.rbk]at this
 simp[dL]at this
theorem bp.qat(h:bp w rb n me lk log now its ow ev wv):gQ w rb (dL lk n me (bC log) now ow ev wv) 113 wv its:=⟨h.rbk,rfl,h.wrow,h.wN⟩
theorem bp.c0(h:bp w rb n me lk log now its ow ev wv):w.cell? ⟨rb,0,none⟩=some (.int .i32 lk):=cell_of_heap h.rbk _
theorem bp.f(h:bp w rb n me lk log now its ow ev wv)(o:Nat):w.frozen? ⟨rb,o,none⟩=false:=frozen_of_heap h.rbk o
theorem bp.c4(h:bp w rb n me lk log now its ow ev wv):w.cell? ⟨rb,4,none⟩=some ev:=cell_of_heap h.rbk _
theorem bp.c10(h:bp w rb n me lk log now its ow ev wv):w.cell? ⟨rb,10,none⟩=some (.int .i64 (now:Int)):=cell_of_heap h.rbk _
theorem bp.c11(h:bp w rb n me lk log now its ow ev wv):w.cell? ⟨rb,11,none⟩=some wv:=cell_of_heap h.rbk _
theorem bp.relock{w2:World}(h:bp w rb n me 0 log now its ow ev wv)(hb:Below w.heap.size (w.setCell ⟨rb,0,none⟩ (.int .i32 1)) w2):Below w.heap.size w (w2.setCell ⟨rb,0,none⟩ (.int .i32 0)):=Go.Proofs.YtckmppkdpnhodaaGreatDoor.relock h.rbk rfl hb
end
theorem yF{w:World}{rb n me:Nat}{log:List En}{now:Nat}{its:List It}{ow:Nat→Bool}{ev wv:Value}(hv:ba w)(hm:bp w rb n me 0 log now its ow ev wv)(h8:log.length≤4294967296):Calls Tryz.prog 28 #[.pointer (some ⟨rb,0,none⟩)] w fun e w'=>∃p cap,e=.returned (.slice p log.length cap)∧w'.ownsRow w.heap.size 68 3 (.slice p log.length cap) log.length (dO log)∧Below w.heap.size w w':=by
 have hrl:=hm.lt;have hr0:=hm.ne0 hv;have c0:=hm.c0;have f0:=hm.f 0;have HK:=hid hm;have HO:Hid (Calls Tryz.prog 55 #[.pointer (some ⟨rb,4,none⟩)] (w.setCell ⟨rb,0,none⟩ (.int .i32 1)) fun e w'=>∃p cap,e=.returned (.slice p log.length cap)∧w'.ownsRow w.heap.size 68 3 (.slice p log.length cap) log.length (dO log)∧Below w.heap.size (w.setCell ⟨rb,0,none⟩ (.int .i32 1)) w'):=by
  have:=Aa rb log ev (w.setCell ⟨rb,0,none⟩ (.int .i32 1)) (hv.lock hr0 _ _) (hm.lock 1).c4 (hm.lock 1).erow h8;rwa[aj]at this
 clear hm hv h8;generalize hL:log.length=L at *;go_enter_defers Tryz.func28,Tryz.ntmps28
 go_wp2_with (first
  |(go_at_call 44;refine(lock_free dQ ⟨rb,0,none⟩ _ c0 f0).mono ?_;rintro e w' ⟨rfl,rfl⟩)
  |(go_at_call 55;refine HO.out.mono ?_;rintro e w2 ⟨p,cap,rfl,hown,hb⟩))
 refine leaves_cons (f:=45) (args:=#[.pointer (some ⟨rb,0,none⟩)]) (by simp) (by simp[go_sem]) ?_;have hk2:=(HK.out.lock 1).below (by rw[aj];exact hb);refine(unlock_deferred dQ ⟨rb,0,none⟩ .returning _ hk2.c0 (hk2.f 0)).mono ?_;rintro e u' w'' ⟨rfl,rfl,rfl⟩
 refine⟨_,results_tmp rfl _ _ _,p,cap,rfl,?_,HK.out.relock hb⟩;exact ai hown (fun b hb'=>by have:=(hown.lt b hb').1;show b≠rb;omega) _
theorem qW(log:List En)(x:List UInt8):((aK log log).it x).isSome=true∨(aK log log).cp x=true∨(aK log log).no x=true→x.length≤8:=by
 have key:∀y∈log,y.c.word.data.toList=x→x.length≤8:=fun y _ e=>by
  have hw:=y.hc.word;simp only[bd,C1,decide_eq_true_eq]at hw;have hl:y.c.word.data.toList.length=y.c.word.size:=by rw[Array.length_toList];rfl
  rw[←e];omega
 rintro (h|h|h)
 ·rw[jV]at h;split at h
  ·simp at h
  rename_i h0;apply Classical.byContradiction
  intro hn;apply h0
  have:∀l:List En,(∀y∈l,y∈log)→(l.map (ju log x)).sum=0:=fun l=>by
   induction l with
   |nil=>intro _;rfl
   |cons y l ih =>
    intro hy;rw[List.map_cons,List.sum_cons,ih fun z hz=>hy z (CQ _ hz)];unfold ju;rw[if_neg fun hc=>hn (key y (hy y (by simp)) hc.2.1)]
  exact this log fun _ h=>h
 ·rw[jW,List.any_eq_true]at h;obtain⟨y,hy,h⟩:=h;simp only[np,C1,decide_eq_true_eq]at h;exact key y hy h.1.2
 rw[jU,List.any_eq_true]at h;obtain⟨y,hy,h⟩:=h;simp only[np,C1,decide_eq_true_eq]at h;exact key y hy h.1.2
theorem zg{w:World}{rb n me:Nat}{log:List En}{now:Nat}{its:List It}{ow:Nat→Bool}{ev wv:Value}(hv:ba w)(hp:fu w)(hm:bp w rb n me 0 log now its ow ev wv)(h8:log.length≤4294967296):Calls Tryz.prog 23 #[.pointer (some ⟨rb,0,none⟩)] w fun e w'=>∃s,e=.returned (.string s)∧dp (aK log log) s∧Below w.heap.size w w':=by
 have hrp:=hm.BX hp;have hrl:=hm.lt;have c0:=hm.c0;have f0:=hm.f 0;have HK:=hid hm;obtain⟨a,cap,hev⟩:=aW hm.erow;have HP:Hid (∀W,Below w.heap.size (w.setCell ⟨rb,0,none⟩ (.int .i32 1)) W→fu W):=fun W hW=>(hp.lock hrp (.int .i32 1) 0).below hW (by rw[aj];exact Cl _)
 have HA:Hid (Calls Tryz.prog 52 #[.pointer (some ⟨rb,4,none⟩)] (w.setCell ⟨rb,0,none⟩ (.int .i32 1)) fun e w'=>e=.returned (.func (.func 131) #[] #[.pointer (some ⟨w.heap.size,0,none⟩)])∧Below w.heap.size (w.setCell ⟨rb,0,none⟩ (.int .i32 1)) w'∧Hid (Calls Tryz.prog 51 #[.func (.func 131) #[] #[.pointer (some ⟨w.heap.size,0,none⟩)]] w' fun e W' =>
    ∃c,e=.returned (.agg #[.map (some c),.map (some (c+1)),.map (some (c+1+1))])∧Hid (cW W' c (c+1) (c+1+1) log.length (aK log log)∧Below w.heap.size (w.setCell ⟨rb,0,none⟩ (.int .i32 1)) W'))):=by
  have:=vO rb log h8 ev a cap hev (w.setCell ⟨rb,0,none⟩ (.int .i32 1)) (hm.lock 1).c4 (hm.lock 1).erow;rw[aj]at this
  refine this.mono ?_;rintro e w' ⟨rfl,hb,hu⟩
  refine⟨rfl,hb,(hu w' (Ck _ _)).mono ?_⟩;rintro e W' ⟨c,rfl,-,-,hc,hb'⟩
  exact⟨c,rfl,hc,hb.trans (hb'.mono (by have:=hb.size;rwa[aj]at this))⟩
 have HT:Hid (∀c W,Hid (cW W c (c+1) (c+1+1) log.length (aK log log)∧Below w.heap.size (w.setCell ⟨rb,0,none⟩ (.int .i32 1)) W)→Calls Tryz.prog 53 #[.agg #[.map (some c),.map (some (c+1)),.map (some (c+1+1))]] W fun e w'=>∃s,e=.returned (.string s)∧Hid (dp (aK log log) s)∧Below w.heap.size (w.setCell ⟨rb,0,none⟩ (.int .i32 1)) w'):=fun c W hW=>by
  refine(uv c (c+1) (c+1+1) log.length h8 _ (qW log) W (HP.out W hW.out.2) hW.out.1).mono ?_;rintro e w' ⟨s,rfl,ht,hb⟩
  exact⟨s,rfl,ht,hW.out.2.trans (hb.mono (by have:=hW.out.2.size;rwa[aj]at this))⟩
 clear hev hv hp HP hrp h8 hm;generalize aK log log=S at *;go_enter_defers Tryz.func23,Tryz.ntmps23
 go_wp2_with (first
  |(go_at_call 44;refine(lock_free dQ ⟨rb,0,none⟩ _ c0 f0).mono ?_;rintro e w' ⟨rfl,rfl⟩)
  |(go_at_call 52;refine HA.out.mono ?_;rintro e w2 ⟨rfl,hb2,HO⟩)
  |(go_at_call 51;refine HO.out.mono ?_;rintro e w3 ⟨c1,rfl,hq3⟩)
  |(go_at_call 53;refine(HT.out c1 _ hq3).mono ?_;rintro e w4 ⟨s,rfl,hs4,hb⟩))
 have hk2:=(HK.out.lock 1).below (by rw[aj];exact hb);refine leaves_cons (f:=45) (args:=#[.pointer (some ⟨rb,0,none⟩)]) (by simp) (by simp[go_sem]) ?_;refine(unlock_deferred dQ ⟨rb,0,none⟩ .returning _ hk2.c0 (hk2.f 0)).mono ?_;rintro e u' w'' ⟨rfl,rfl,rfl⟩
 exact⟨_,results_tmp rfl _ _ _,s,rfl,hs4.out,HK.out.relock hb⟩
theorem zi{w:World}{rb n me:Nat}{log:List En}{now:Nat}{its:List It}{ow:Nat→Bool}{ev wv:Value}(hm:bp w rb n me 0 log now its ow ev wv)(hn:now<1152921504606846976):Calls Tryz.prog 25 #[.pointer (some ⟨rb,0,none⟩)] w fun e w'=>e=.returned (.tuple #[])∧bp w' rb n me 0 log (now+1) its ow ev wv∧an [some rb] w w':=by
 have c0:=hm.c0;have f0:=hm.f 0;have HK:=hid hm;have HT:Hid (Calls Tryz.prog 54 #[.pointer (some ⟨rb,10,none⟩)] (w.setCell ⟨rb,0,none⟩ (.int .i32 1)) fun e w'=>e=.returned (.tuple #[])∧Hid (w'=(w.setCell ⟨rb,0,none⟩ (.int .i32 1)).setCell ⟨rb,10,none⟩ (.int .i64 ((now+1:Nat):Int)))):=zl rb now hn _ (hm.lock 1).c10 ((hm.lock 1).f 10);clear hm;go_enter_defers Tryz.func25,Tryz.ntmps25
 go_wp2_with (first
  |(go_at_call 44;refine(lock_free dQ ⟨rb,0,none⟩ _ c0 f0).mono ?_;rintro e w' ⟨rfl,rfl⟩)
  |(go_at_call 54;refine HT.out.mono ?_;rintro e w2 ⟨rfl,hw2⟩))
 have h1:=HK.out.lock 1;have hk2:bp w2 rb n me 1 log (now+1) its ow ev wv:=by
  rw[hw2.out];exact⟨by rw[ae h1.rbk,vv],ai h1.erow (fun b hb e=>h1.eN (by rw[hb,e])) _,h1.eN,ai h1.wrow (fun b hb e=>h1.wN (by rw[hb,e])) _,h1.wN,h1.ew,h1.heap⟩
 have hu:an [some rb] w w2:=by
  rw[hw2.out];exact((an.refl _ w).setCell (.inl (by simp)) _).setCell (.inl (by simp)) _
 refine leaves_cons (f:=45) (args:=#[.pointer (some ⟨rb,0,none⟩)]) (by simp) (by simp[go_sem]) ?_;refine(unlock_deferred dQ ⟨rb,0,none⟩ .returning _ hk2.c0 (hk2.f 0)).mono ?_;rintro e u' w'' ⟨rfl,rfl,rfl⟩
 exact⟨_,results_none rfl _ _ _,rfl,hk2.lock 0,hu.setCell (.inl (by simp)) _⟩
theorem xE{w:World}{rb n me:Nat}{log:List En}{now:Nat}{its:List It}{ow:Nat→Bool}{ev wv:Value}(hv:ba w)(hm:bp w rb n me 0 log now its ow ev wv)(s:ByteArray)(hs:s.size≤maxLen)(hr:aY s=none):Calls Tryz.prog 20 #[.pointer (some ⟨rb,0,none⟩),.string s] w fun e w'=>e=.returned (.int .i64 2)∧Below w.heap.size w w':=by
 have c0:=hm.c0;have f0:=hm.f 0;have HK:=hid hm;have HP:Hid (Calls Tryz.prog 46 #[.string s] (w.setCell ⟨rb,0,none⟩ (.int .i32 1)) fun e w'=>e=.returned (.tuple #[.agg #[.int .i64 0,.string ⟨#[]⟩,.int .i64 0],.bool false])∧Below w.heap.size (w.setCell ⟨rb,0,none⟩ (.int .i32 1)) w'):=by
  have:=gw s (w.setCell ⟨rb,0,none⟩ (.int .i32 1)) hs (hv.lock (hm.ne0 hv) _ _);rw[hr,aj]at this
  exact this
 clear hm hv hr hs;go_enter_defers Tryz.func20,Tryz.ntmps20
 go_wp2_with (first
  |(go_at_call 44;refine(lock_free dQ ⟨rb,0,none⟩ _ c0 f0).mono ?_;rintro e w' ⟨rfl,rfl⟩)
  |(go_at_call 46;refine HP.out.mono ?_;rintro e w2 ⟨rfl,hb⟩;have hb3:∀o,Below w.heap.size (w.setCell ⟨rb,0,none⟩ (.int .i32 1)) (w2.alloc o):=fun o=>hb.alloc (by have:=hb.size;rw[aj]at this;exact this) o))
 have hk2:=(HK.out.lock 1).below (by rw[aj];exact hb3 (.cells #[.int .i64 0,.string ⟨#[]⟩,.int .i64 0] 116));refine leaves_cons (f:=45) (args:=#[.pointer (some ⟨rb,0,none⟩)]) (by simp) (by simp[go_sem]) ?_;refine(unlock_deferred dQ ⟨rb,0,none⟩ .returning _ hk2.c0 (hk2.f 0)).mono ?_;rintro e u' w'' ⟨rfl,rfl,rfl⟩
 exact⟨_,results_tmp rfl _ _ _,rfl,HK.out.relock (hb3 _)⟩
theorem xD{w:World}{rb n me:Nat}{log:List En}{now:Nat}{its:List It}{ow:Nat→Bool}{ev wv:Value}(hv:ba w)(hm:bp w rb n me 0 log now its ow ev wv)(h8:log.length≤4294967296)(s:ByteArray)(hs:s.size≤maxLen)(cm:Cm)(hr:aY s=some cm)(hg:dt (aK log log) cm=false):Calls Tryz.prog 20 #[.pointer (some ⟨rb,0,none⟩),.string s] w fun e w'=>e=.returned (.int .i64 3)∧Below w.heap.size w w':=by
 have c0:=hm.c0;have f0:=hm.f 0;have HK:=hid hm;have HP:Hid (Calls Tryz.prog 46 #[.string s] (w.setCell ⟨rb,0,none⟩ (.int .i32 1)) fun e w'=>e=.returned (.tuple #[.agg #[.int .i64 (cm.k.num:Int),.string cm.word,.int .i64 (cm.count:Int)],.bool true])∧Below w.heap.size (w.setCell ⟨rb,0,none⟩ (.int .i32 1)) w'):=by
  have:=gw s (w.setCell ⟨rb,0,none⟩ (.int .i32 1)) hs (hv.lock (hm.ne0 hv) _ _);rw[hr,aj]at this
  exact this
 have hcm:=(eU hr).1;have HG:Hid (∀W,Below w.heap.size (w.setCell ⟨rb,0,none⟩ (.int .i32 1)) W→Calls Tryz.prog 47 #[.pointer (some ⟨rb,0,none⟩),.agg #[.int .i64 (cm.k.num:Int),.string cm.word,.int .i64 (cm.count:Int)]] W fun e w'=>e=.returned (.bool false)∧Below W.heap.size W w'):=fun W hW=>by
  have hk:=(hm.lock 1).below (by rw[aj];exact hW);have:=wk rb log h8 ev W hk.c4 hk.erow cm hcm;rw[hg]at this
  exact this
 clear hg hm hv hr hs hcm h8;go_enter_defers Tryz.func20,Tryz.ntmps20
 go_wp2_with (first
  |(go_at_call 44;refine(lock_free dQ ⟨rb,0,none⟩ _ c0 f0).mono ?_;rintro e w' ⟨rfl,rfl⟩)
  |(go_at_call 46;refine HP.out.mono ?_;rintro e w2 ⟨rfl,hb⟩;have hb3:∀o,Below w.heap.size (w.setCell ⟨rb,0,none⟩ (.int .i32 1)) (w2.alloc o):=fun o=>hb.alloc (by have:=hb.size;rw[aj]at this;exact this) o)
  |(go_at_call 47;refine(HG.out _ (hb3 _)).mono ?_;rintro e w4 ⟨rfl,hb4⟩;have hb5:Below w.heap.size (w.setCell ⟨rb,0,none⟩ (.int .i32 1)) w4:=(hb3 _).trans (hb4.mono (by have:=(hb3 (.map #[] 0)).size;rw[aj]at this;simpa using this))))
 have hk2:=(HK.out.lock 1).below (by rw[aj];exact hb5);refine leaves_cons (f:=45) (args:=#[.pointer (some ⟨rb,0,none⟩)]) (by simp) (by simp[go_sem]) ?_;refine(unlock_deferred dQ ⟨rb,0,none⟩ .returning _ hk2.c0 (hk2.f 0)).mono ?_;rintro e u' w'' ⟨rfl,rfl,rfl⟩
 exact⟨_,results_tmp rfl _ _ _,rfl,HK.out.relock hb5⟩
theorem wC{w:World}{rb n me:Nat}{log:List En}{now:Nat}{its:List It}{ow:Nat→Bool}{ev wv:Value}(hv:ba w)(hm:bp w rb n me 0 log now its ow ev wv)(h8:log.length≤4294967296)(hi:its.length≤1000)(s:ByteArray)(hs:s.size≤maxLen)(cm:Cm)(hr:aY s=some cm)(hg:dt (aK log log) cm=true)(ho:8≤bj its):Calls Tryz.prog 20 #[.pointer (some ⟨rb,0,none⟩),.string s] w fun e w'=>e=.returned (.int .i64 4)∧Below w.heap.size w w':=by
 have c0:=hm.c0;have f0:=hm.f 0;have HK:=hid hm;have HP:Hid (Calls Tryz.prog 46 #[.string s] (w.setCell ⟨rb,0,none⟩ (.int .i32 1)) fun e w'=>e=.returned (.tuple #[.agg #[.int .i64 (cm.k.num:Int),.string cm.word,.int .i64 (cm.count:Int)],.bool true])∧Below w.heap.size (w.setCell ⟨rb,0,none⟩ (.int .i32 1)) w'):=by
  have:=gw s (w.setCell ⟨rb,0,none⟩ (.int .i32 1)) hs (hv.lock (hm.ne0 hv) _ _);rw[hr,aj]at this
  exact this
 have hcm:=(eU hr).1;have HG:Hid (∀W,Below w.heap.size (w.setCell ⟨rb,0,none⟩ (.int .i32 1)) W→Calls Tryz.prog 47 #[.pointer (some ⟨rb,0,none⟩),.agg #[.int .i64 (cm.k.num:Int),.string cm.word,.int .i64 (cm.count:Int)]] W fun e w'=>e=.returned (.bool true)∧Below W.heap.size W w'):=fun W hW=>by
  have hk:=(hm.lock 1).below (by rw[aj];exact hW);have:=wk rb log h8 ev W hk.c4 hk.erow cm hcm;rw[hg]at this
  exact this
 have HO:Hid (∀W,Below w.heap.size (w.setCell ⟨rb,0,none⟩ (.int .i32 1)) W→Calls Tryz.prog 48 #[.pointer (some ⟨rb,10,none⟩)] W fun e w'=>e=.returned (.int .i64 ((bj its:Nat):Int))∧Below W.heap.size W w'):=fun W hW=>by
  have hk:=(hm.lock 1).below (by rw[aj];exact hW);exact xS rb its hi wv W hk.c11 hk.wrow
 have hL8:(8:Int)≤((bj its:Nat):Int):=by omega
 clear hg hm hv hr hs hcm h8 hi ho;generalize bj its=op at *;go_enter_defers Tryz.func20,Tryz.ntmps20
 go_wp2_with (first
  |(go_at_call 44;refine(lock_free dQ ⟨rb,0,none⟩ _ c0 f0).mono ?_;rintro e w' ⟨rfl,rfl⟩)
  |(go_at_call 46;refine HP.out.mono ?_;rintro e w2 ⟨rfl,hb⟩;have hb3:∀o,Below w.heap.size (w.setCell ⟨rb,0,none⟩ (.int .i32 1)) (w2.alloc o):=fun o=>hb.alloc (by have:=hb.size;rw[aj]at this;exact this) o)
  |(go_at_call 47;refine(HG.out _ (hb3 _)).mono ?_;rintro e w4 ⟨rfl,hb4⟩;have hb5:Below w.heap.size (w.setCell ⟨rb,0,none⟩ (.int .i32 1)) w4:=(hb3 _).trans (hb4.mono (by have:=(hb3 (.map #[] 0)).size;rw[aj]at this;simpa using this)))
  |(go_at_call 48;refine(HO.out _ hb5).mono ?_;rintro e w6 ⟨rfl,hb6⟩;have hb7:Below w.heap.size (w.setCell ⟨rb,0,none⟩ (.int .i32 1)) w6:=hb5.trans (hb6.mono (by have:=hb5.size;rw[aj]at this;exact this))))
 have hk2:=(HK.out.lock 1).below (by rw[aj];exact hb7);refine leaves_cons (f:=45) (args:=#[.pointer (some ⟨rb,0,none⟩)]) (by simp) (by simp[go_sem]) ?_;refine(unlock_deferred dQ ⟨rb,0,none⟩ .returning _ hk2.c0 (hk2.f 0)).mono ?_;rintro e u' w'' ⟨rfl,rfl,rfl⟩
 exact⟨_,results_tmp rfl _ _ _,rfl,HK.out.relock hb7⟩
def yB(now t:Nat)(x:En):It:=if h:now<1152921504606846976∧t<5 then⟨now,t,x,h.1,h.2⟩ else⟨0,0,x,by omega,by omega⟩
def de(me now:Nat)(x:En)(j:Nat):List It:=((List.range j).filter fun t=>decide (t≠me)).map fun t=>yB now t x
theorem oa(me now:Nat)(x:En):de me now x (me+1)=de me now x me:=by simp[de,DL]
theorem jE(me now:Nat)(x:En){j:Nat}(h:j≠me):de me now x (j+1)=de me now x j++[yB now j x]:=by simp[de,DL,h]
theorem rQ(me now:Nat)(x:En)(j:Nat):(de me now x j).length≤j:=by
 unfold de;rw[List.length_map];have:=List.length_filter_le (fun t=>decide (t≠me)) (List.range j);simpa using this
theorem o8{now t:Nat}{x:En}(hn:now<1152921504606846976)(ht:t<5):yB now t x=⟨now,t,x,hn,ht⟩:=dif_pos ⟨hn,ht⟩
theorem kS{n me now:Nat}{x:En}(hn:now<1152921504606846976)(h5:n≤5){j:Nat}(hj:j<n)(hm:j≠me):bI (de me now x n) j=[x]:=by
 have:∀m,m≤n→bI (de me now x m) j=if j<m then[x] else[]:=fun m=>by
  induction m with
  |zero=>intro _;simp[de,bI]
  |succ m ih =>
   intro hmn;have hi:=ih (by omega);by_cases e:m=me
   ·rw[e]at hi ⊢;rw[oa,hi];by_cases h:j<me
    ·rw[if_pos h,if_pos (by omega)]
    rw[if_neg h,if_neg (by omega)]
   rw[jE _ _ _ e,o8 hn (by omega)];have ha:∀(a b:List It),bI (a++b) j=bI a j++bI b j:=fun a b=>by simp[bI]
   rw[ha,hi];by_cases h:m=j
   ·subst h;simp[bI]
   have h2:bI [⟨now,m,x,hn,by omega⟩] j=[]:=by simp[bI,h]
   rw[h2,List.append_nil];by_cases h3:j<m
   ·rw[if_pos h3,if_pos (by omega)]
   rw[if_neg h3,if_neg (by omega)]
 rw[this n (Cl _),if_pos hj]
theorem lZ{n me now:Nat}{x:En}(hn:now<1152921504606846976)(h5:n≤5){p:It}(hp:p∈de me now x n):p.to<n∧p.to≠me∧p.due=now:=by
 simp only[de,List.mem_map,List.mem_filter,List.mem_range,decide_eq_true_eq]at hp;obtain⟨t,⟨h1,h2⟩,rfl⟩:=hp;rw[o8 hn (by omega)];exact⟨h1,h2,rfl⟩
structure gP(w:World)(rb n me:Nat)(log:List En)(x:En)(now:Nat)(its:List It)(ow:Nat→Bool)(ev wv:Value)(eb:Nat)(ev':Value)(j:Nat)(W:World)(wj:Value):Prop where
 rbk:W.heap[rb]?=some (.cells (dL 1 n me (bC (log++[x])) now ow ev' wj) 113 (0,0))
 erow:W.ownsRow 0 122 10 ev' (log.length+1) (aP (log++[x]))
 eB:∀b,ev'.ownBlock=some b→b≠rb∧(ev.ownBlock=some b∨w.heap.size≤b)
 row:∃its',W.ownsRow 0 171 12 wj its'.length (cA its')∧its'.Perm (its++de me now x j)∧aH 0 its'.length (kF its')
 wB:∀b,wj.ownBlock=some b→b≠rb∧ev'.ownBlock≠some b∧(wv.ownBlock=some b∨w.heap.size≤b)
 ent:W.heap[eb]?=some (.cells #[.int .i64 (me:Int),.int .i64 (x.seq:Int),.int .i64 (x.ah.a:Int),.int .i64 (x.ah.b:Int),.int .i64 (x.ah.c:Int),.int .i64 (x.ah.d:Int),.int .i64 (x.ah.e:Int),.int .i64 (x.c.k.num:Int),.string x.c.word,.int .i64 (x.c.count:Int)] 122 (0,0))
 ebl:w.heap.size≤eb∧ev'.ownBlock≠some eb∧wj.ownBlock≠some eb
 upd:an [some rb,ev.ownBlock,wv.ownBlock] w W
section
variable {w:World} {rb n me:Nat} {log:List En} {x:En} {now:Nat} {its:List It} {ow:Nat→Bool} {ev wv:Value} {eb:Nat} {ev':Value} {j:Nat} {W:World} {wj:Value}
theorem gP.drew(h:gP w rb n me log x now its ow ev wv eb ev' j W wj):gP w rb n me log x now its ow ev wv eb ev' j W.drew wj:=⟨h.rbk,h.erow,h.eB,h.row,h.wB,h.ent,h.ebl,h.upd.drew⟩
theorem gP.BQ(h:gP w rb n me log x now its ow ev wv eb ev' j W wj)(hi:its.length≤900)(hnow:now<1152921504606846976)(hj5:j<5)(hxo:x.org=me)(hrl:rb<w.heap.size)(hjm:j≠me):Calls Tryz.prog 50 #[.pointer (some ⟨rb,10,none⟩),.int .i64 (j:Int),.agg #[.int .i64 (me:Int),.int .i64 (x.seq:Int),.int .i64 (x.ah.a:Int),.int .i64 (x.ah.b:Int),.int .i64 (x.ah.c:Int),.int .i64 (x.ah.d:Int),.int .i64 (x.ah.e:Int),.int .i64 (x.c.k.num:Int),.string x.c.word,.int .i64 (x.c.count:Int)]] W fun e w'=>e=.returned (.tuple #[])∧∃wj',gP w rb n me log x now its ow ev wv eb ev' (j+1) w' wj':=by
 obtain⟨its1,r1,r2,r3⟩:=h.row;have hlen:=r2.length_eq;rw[List.length_append]at hlen
 have hnl:=rQ me now x j;have hq:gQ W rb (dL 1 n me (bC (log++[x])) now ow ev' wj) 113 wj its1:=⟨h.rbk,rfl,r1,fun e=>(h.wB rb e).1 rfl⟩;have hput:=xJ rb its1 (by omega) now j x hnow hj5 wj _ _ W hq r3 rfl;unfold En.val at hput;rw[hxo]at hput
 refine hput.mono ?_;rintro e w' ⟨rfl,its',g,cap,o1,o2,o3⟩
 have heb:=(Cn.1 h.ent).1;have keep:∀b,b≠rb→wj.ownBlock≠some b→some b∉[some rb,wj.ownBlock]:=fun b h1 h2 hm=>by
  simp only[Co,Cq,or_false,Option.some.injEq]at hm;rcases hm with hm|hm
  ·exact h1 hm
  exact h2 hm.symm
 refine⟨rfl,.slice (some ⟨g,0,none⟩) its'.length cap,by rw[o1.rbk,eL],o1.upd.owns h.erow fun b hb=>keep b (h.eB b hb).1 fun e=>(h.wB b e).2.1 hb,h.eB,⟨its',o1.row,?_,o3⟩,?_,(o1.upd.block eb heb (keep eb (by have:=h.ebl.1;omega) h.ebl.2.2)).trans h.ent,⟨h.ebl.1,h.ebl.2.1,?_⟩,h.upd.trans o1.upd fun i hi=>?_⟩
 ·rw[jE _ _ _ hjm,o8 hnow hj5,←List.append_assoc];exact o2.trans (r2.append_right _)
 ·intro b hb;simp only[Cp,Option.some.injEq]at hb;have hb':b=g:=hb.symm;subst hb';refine⟨o1.ne,?_,?_⟩
  ·rcases o1.own with h2|h2
   ·exact(h.wB b h2).2.1
   intro e;have:=(h.erow.lt b e).2;omega
  rcases o1.own with h2|h2
  ·exact(h.wB b h2).2.2
  exact .inr (CC h.upd.size h2)
 ·intro e;simp only[Cp,Option.some.injEq]at e;have e':g=eb:=e;rcases o1.own with h2|h2
  ·exact h.ebl.2.2 (e' ▸ h2)
  omega
 simp only[Co,Cq,or_false]at hi;rcases hi with hi|hi
 ·exact .inl (by simp[hi])
 rcases(h.wB i hi.symm).2.2 with h2|h2
 ·exact .inl (by simp[h2])
 exact .inr h2
theorem kO(hk:bp (w.setCell ⟨rb,0,none⟩ (.int .i32 1)) rb n me 1 log now its ow ev wv)(hrl:rb<w.heap.size)(hwl:∀b,wv.ownBlock=some b→b<w.heap.size)
  {w7 Wf:World} {g cap:Nat} (hW:Below w.heap.size (w.setCell ⟨rb,0,none⟩ (.int .i32 1)) W) (o1:w7.ownsRow 0 122 10 (.slice (some ⟨g,0,none⟩) (log.length+1) cap) (log.length+1) (aP (log++[x]))) (o2:ev.ownBlock=some g∨W.heap.size≤g) (o3:g≠rb) (o4:w7.heap[rb]?=some (.cells (dL 1 n me (bC (log++[x])) now ow (.slice (some ⟨g,0,none⟩) (log.length+1) cap) wv) 113 (0,0))) (o5:an [some rb,ev.ownBlock] W w7) (he:Wf.heap[eb]?=some (.cells #[.int .i64 (me:Int),.int .i64 (x.seq:Int),.int .i64 (x.ah.a:Int),.int .i64 (x.ah.b:Int),.int .i64 (x.ah.c:Int),.int .i64 (x.ah.d:Int),.int .i64 (x.ah.e:Int),.int .i64 (x.c.k.num:Int),.string x.c.word,.int .i64 (x.c.count:Int)] 122 (0,0))) (hu:an [some eb] w7 Wf) (hew:w.heap.size≤eb) (hge:g≠eb):
  gP w rb n me log x now its ow ev wv eb (.slice (some ⟨g,0,none⟩) (log.length+1) cap) 0 Wf wv:=by
 have hsz:w.heap.size≤W.heap.size:=by have:=hW.size;rwa[aj]at this
 have ne:∀b,b≠eb→some b∉[some eb]:=fun b hb hm=>by simp at hm;exact hb hm
 have hkW:=hk.below (by rw[aj];exact hW);have hw7:w7.ownsRow 0 171 12 wv its.length (cA its):=by
  refine o5.owns hkW.wrow fun b hb hm=>?_
  simp only[Co,Cq,or_false,Option.some.injEq]at hm;rcases hm with hm|hm
  ·exact hk.wN (by rw[hb,hm])
  exact hk.ew b hb hm.symm
 refine⟨(hu.block rb (Cn.1 o4).1 (ne rb (by omega))).trans o4,hu.owns o1 fun b hb=>ne b (by cases hb;exact hge),fun b hb=>?_,⟨its,hu.owns hw7 fun b hb=>ne b (by have:=hwl b hb;omega),by simp[de],hk.heap⟩,fun b hb=>⟨fun e=>hk.wN (by rw[hb,e]),?_,.inl hb⟩,he,⟨hew,fun e=>hge (by cases e;rfl),fun e=>by have:=hwl eb e;omega⟩,?_⟩
 ·cases hb;refine⟨o3,?_⟩;rcases o2 with h|h
  ·exact .inl h
  exact .inr (by show w.heap.size≤g;omega)
 ·intro e;have e':g=b:=by cases e;rfl
  rcases o2 with h|h
  ·exact hk.ew b hb (e' ▸ h)
  have:=hwl b hb;omega
 have u0:an [some rb,ev.ownBlock,wv.ownBlock] w (w.setCell ⟨rb,0,none⟩ (.int .i32 1)):=(an.refl _ w).setCell (.inl (by simp)) _;have u1:an [some rb,ev.ownBlock,wv.ownBlock] w W:=u0.trans (an.of_below (S:=[]) (by rw[aj];exact hW)) (by simp);have u2:an [some rb,ev.ownBlock,wv.ownBlock] w w7:=u1.trans o5 fun i hi=>.inl (by
  simp only[Co,Cq,or_false]at hi ⊢;rcases hi with hi|hi
  ·exact .inl hi
  exact .inr (.inl hi))
 exact u2.trans hu fun i hi=>.inr (by simp at hi;omega)
end
end
end Go.Proofs.YtckmppkdpnhodaaGreatDoor
