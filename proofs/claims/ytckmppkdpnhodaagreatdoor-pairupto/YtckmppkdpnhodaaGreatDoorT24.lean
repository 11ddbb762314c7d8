import Derived.Test.YtckmppkdpnhodaaGreatDoorT22
import Derived.Shelf.SlSortCmp.SmallK
import Derived.Shelf.SlicesG.Cmp
import Derived.Shelf.Small.Bits
import Derived.Ground.SlsfProg
import Derived.Ground.SlgcProg
import Derived.Ground.NamesProg
import Derived.Test.YtckmppkdpnhodaaGreatDoorSort
import Derived.Test.YtckmppkdpnhodaaGreatDoorT23
import Derived.Test.YtckmppkdpnhodaaGreatDoorT00
set_option maxRecDepth 100000
set_option maxHeartbeats 8000000
set_option linter.unusedVariables false
set_option linter.unusedSimpArgs false
open Array renaming getElem?_eq_some_iff→Cn,getElem?_toList→DI
open List renaming mem_cons→Co,not_mem_nil→Cq,getElem_toArray→Ct,getElem_cons_zero→Cu,getElem_cons_succ→Cv,setIfInBounds_toArray→Cw,set_cons_zero→Cs,set_cons_succ→Cx,length_append→Cz,append_assoc→De,mem_filter→Dc,mem_append_left→C8,length_cons→CR,Perm→Dw,mem_map→CO,mem_append→CP,map_append→Du,getElem?_take_of_lt→DA,length_map→Dx
open Nat renaming le_trans→CC,le_refl→Cl,le_succ→Dv,zero_le→CB,zero_add→CJ
open Go.Value renaming ownBlock→Cp
namespace Go.Proofs.YtckmppkdpnhodaaGreatDoor
section
open Go.RowKit Go.Proofs Go.MuLone
theorem yP{w:World}{rb n me:Nat}{log:List En}{now:Nat}{its:List It}{ow:Nat→Bool}{ev wv:Value}(hv:ba w)(hm:bp w rb n me 0 log now its ow ev wv)(hn5:2≤n∧n≤5)(hmn:me<n)(h8:log.length≤4294967295)(hi:its.length≤900)(hnow:now<1152921504606846976)(s:ByteArray)(hs:s.size≤maxLen)(x:En)(hxo:x.org=me)(hxs:x.seq=aq log me+1)(hxa:x.ah=bC log)(hr:aY s=some x.c)(hg:dt (aK log log) x.c=true)(ho:bj its<8):Calls Tryz.prog 20 #[.pointer (some ⟨rb,0,none⟩),.string s] w fun e w'=>e=.returned (.int .i64 0)∧an [some rb,ev.ownBlock,wv.ownBlock] w w'∧∃ev' wj its',bp w' rb n me 0 (log++[x]) now its' ow ev' wj∧its'.Perm (its++de me now x n)∧(∀b,ev'.ownBlock=some b→ev.ownBlock=some b∨w.heap.size≤b)∧(∀b,wj.ownBlock=some b→wv.ownBlock=some b∨w.heap.size≤b):=by
 have hrl:=hm.lt;have c0:=hm.c0;have f0:=hm.f 0;have HLk:Hid (bp (w.setCell ⟨rb,0,none⟩ (.int .i32 1)) rb n me 1 log now its ow ev wv):=hm.lock 1;have HVl:Hid (ba (w.setCell ⟨rb,0,none⟩ (.int .i32 1))):=hv.lock (hm.ne0 hv) _ _;have HP:Hid (Calls Tryz.prog 46 #[.string s] (w.setCell ⟨rb,0,none⟩ (.int .i32 1)) fun e w'=>e=.returned (.tuple #[.agg #[.int .i64 (x.c.k.num:Int),.string x.c.word,.int .i64 (x.c.count:Int)],.bool true])∧Below w.heap.size (w.setCell ⟨rb,0,none⟩ (.int .i32 1)) w'):=by
  have:=gw s (w.setCell ⟨rb,0,none⟩ (.int .i32 1)) hs HVl.out;rw[hr,aj]at this
  exact this
 have hcm:=(eU hr).1;have HG:Hid (∀W,Below w.heap.size (w.setCell ⟨rb,0,none⟩ (.int .i32 1)) W→Calls Tryz.prog 47 #[.pointer (some ⟨rb,0,none⟩),.agg #[.int .i64 (x.c.k.num:Int),.string x.c.word,.int .i64 (x.c.count:Int)]] W fun e w'=>e=.returned (.bool true)∧Below W.heap.size W w'):=fun W hW=>by
  have hk:=HLk.out.below (by rw[aj];exact hW);have:=wk rb log (by omega) ev W hk.c4 hk.erow x.c hcm;rw[hg]at this
  exact this
 have HO:Hid (∀W,Below w.heap.size (w.setCell ⟨rb,0,none⟩ (.int .i32 1)) W→Calls Tryz.prog 48 #[.pointer (some ⟨rb,10,none⟩)] W fun e w'=>e=.returned (.int .i64 ((bj its:Nat):Int))∧Below W.heap.size W w'):=fun W hW=>by
  have hk:=HLk.out.below (by rw[aj];exact hW);exact xS rb its (by omega) wv W hk.c11 hk.wrow
 have hL8:((bj its:Nat):Int)<8:=by omega
 have hL8':¬ (8:Int)≤((bj its:Nat):Int):=by omega
 have HEL:Hid (∀b,ev.ownBlock=some b→b<w.heap.size):=fun b hb=>(hm.erow.lt b hb).2
 have HWL:Hid (∀b,wv.ownBlock=some b→b<w.heap.size):=fun b hb=>(hm.wrow.lt b hb).2
 have HD:Hid (∀W,Below w.heap.size (w.setCell ⟨rb,0,none⟩ (.int .i32 1)) W→Calls Tryz.prog 49 #[.pointer (some ⟨rb,4,none⟩),.int .i64 (me:Int),.agg #[.int .i64 (x.c.k.num:Int),.string x.c.word,.int .i64 (x.c.count:Int)]] W fun e w' =>
   e=.returned (.agg #[.int .i64 (me:Int),.int .i64 (x.seq:Int),.int .i64 (x.ah.a:Int),.int .i64 (x.ah.b:Int),.int .i64 (x.ah.c:Int),.int .i64 (x.ah.d:Int),.int .i64 (x.ah.e:Int),.int .i64 (x.c.k.num:Int),.string x.c.word,.int .i64 (x.c.count:Int)])∧∃g cap,w'.ownsRow 0 122 10 (.slice (some ⟨g,0,none⟩) (log.length+1) cap) (log.length+1) (aP (log++[x]))∧(ev.ownBlock=some g∨W.heap.size≤g)∧g≠rb∧w'.heap[rb]?=some (.cells (dL 1 n me (bC (log++[x])) now ow (.slice (some ⟨g,0,none⟩) (log.length+1) cap) wv) 113 (0,0))∧an [some rb,ev.ownBlock] W w'):=fun W hW=>by
  have hk:=HLk.out.below (by rw[aj];exact hW);have:=yD rb log (by omega) x (aq log me) hxs (by rw[hxa,bD,hxo]) ev _ _ W hk.rbk rfl (fun j hj=>by rw[hxa];exact jg _ _ _ _ _ _ _ _ hj) hk.erow hk.eN;have hq:((aq log me:Nat):Int)+1=((x.seq:Nat):Int):=by omega
  rw[hxo,hq]at this;refine this.mono ?_;rintro e w' ⟨he,g,cap,o1,o2,o3,o4,o5⟩
  refine⟨he,g,cap,o1,o2,o3,?_,o5⟩;rw[o4,qc _ _ _ _ _ _ _ _ _ (by omega),jz log x (by rw[hxo];exact hxs),hxo]
 have HXO:=hid hxo;clear hg hm hv hr hs hcm ho HVl hxs hxa hxo;generalize bj its=op at *;go_enter_defers Tryz.func20,Tryz.ntmps20
 go_upto_region 10 with(first
  |(go_at_call 44;refine(lock_free dQ ⟨rb,0,none⟩ _ c0 f0).mono ?_;rintro e w' ⟨rfl,rfl⟩)
  |(go_at_call 46;refine HP.out.mono ?_;rintro e w2 ⟨rfl,hb⟩;have hb3:∀o,Below w.heap.size (w.setCell ⟨rb,0,none⟩ (.int .i32 1)) (w2.alloc o):=fun o=>hb.alloc (by have:=hb.size;rw[aj]at this;exact this) o)
  |(go_at_call 47;refine(HG.out _ (hb3 _)).mono ?_;rintro e w4 ⟨rfl,hb4⟩;have hb5:Below w.heap.size (w.setCell ⟨rb,0,none⟩ (.int .i32 1)) w4:=(hb3 _).trans (hb4.mono (by have:=(hb3 (.map #[] 0)).size;rw[aj]at this;simpa using this)))
  |(go_at_call 48;refine(HO.out _ hb5).mono ?_;rintro e w6 ⟨rfl,hb6⟩;have hb7:Below w.heap.size (w.setCell ⟨rb,0,none⟩ (.int .i32 1)) w6:=hb5.trans (hb6.mono (by have:=hb5.size;rw[aj]at this;exact this))))
 have hc6:w6.heap[w2.heap.size]?=some (.cells #[.int .i64 (x.c.k.num:Int),.string x.c.word,.int .i64 (x.c.count:Int)] 116 (0,0)):=by
  have hz:w2.heap.size<w4.heap.size:=by have:=hb4.size;simp at this;omega
  exact(hb6.block _ hz).trans ((hb4.block _ (by simp)).trans (heap_alloc_new w2 _))
 have hw26:w.heap.size≤w2.heap.size:=by have:=hb.size;rw[aj]at this;exact this
 have hr6:=(HLk.out.below (by rw[aj];exact hb7)).rbk;have a2:w6.cell? ⟨rb,2,none⟩=some (.int .i64 (me:Int)):=cell_of_heap hr6 _;have b0:w6.cell? ⟨w2.heap.size,0,none⟩=some (.int .i64 (x.c.k.num:Int)):=cell_of_heap hc6 _;have b1:w6.cell? ⟨w2.heap.size,1,none⟩=some (.string x.c.word):=cell_of_heap hc6 _;have b2:w6.cell? ⟨w2.heap.size,2,none⟩=some (.int .i64 (x.c.count:Int)):=cell_of_heap hc6 _;have hcl:w2.heap.size<w6.heap.size:=(Cn.1 hc6).1;have HB7:Hid (Below w.heap.size (w.setCell ⟨rb,0,none⟩ (.int .i32 1)) w6):=hb7;have H6:Hid (w6.heap[w2.heap.size]?=some (.cells #[.int .i64 (x.c.k.num:Int),.string x.c.word,.int .i64 (x.c.count:Int)] 116 (0,0))):=hc6;clear hc6 hr6 hb hb3 hb4 hb5 hb6 hb7 HP HG HO c0 f0;generalize w2.heap.size=cb at *
 go_cut [7] from 32 (fun v wc=>∃eb g cap,v=.pointer (some ⟨eb,0,none⟩)∧Hid (gP w rb n me log x now its ow ev wv eb (.slice (some ⟨g,0,none⟩) (log.length+1) cap) 0 wc wv))
 case first =>
  have HS:Hid (∀(W w7:World) g cap,cb<W.heap.size→W.heap[cb]?=w6.heap[cb]?→an [some rb,ev.ownBlock] W w7→w7.heap[rb]?=some (.cells (dL 1 n me (bC (log++[x])) now ow (.slice (some ⟨g,0,none⟩) (log.length+1) cap) wv) 113 (0,0))→w7.cell? ⟨rb,2,none⟩=some (.int .i64 (me:Int))∧w7.cell? ⟨cb,0,none⟩=some (.int .i64 (x.c.k.num:Int))∧w7.cell? ⟨cb,1,none⟩=some (.string x.c.word)∧w7.cell? ⟨cb,2,none⟩=some (.int .i64 (x.c.count:Int))):=fun W w7 g cap h1 h2 h3 h4=>by
   have h5:w7.heap[cb]?=some (.cells #[.int .i64 (x.c.k.num:Int),.string x.c.word,.int .i64 (x.c.count:Int)] 116 (0,0)):=(h3.block cb h1 fun hm=>by
    simp only[Co,Cq,or_false,Option.some.injEq]at hm;rcases hm with hm|hm
    ·omega
    have:=HEL.out cb hm.symm;omega).trans (h2.trans H6.out)
   exact⟨by rw[cell_of_heap h4];rfl,by rw[cell_of_heap h5];rfl,by rw[cell_of_heap h5];rfl,by rw[cell_of_heap h5];rfl⟩
  have hs6:w.heap.size≤w6.heap.size:=by omega
  have HZ:Hid (∀(w7:World),an [some rb,ev.ownBlock] (w6.alloc (.cells #[.int .i64 0,.int .i64 0,.int .i64 0,.int .i64 0,.int .i64 0,.int .i64 0,.int .i64 0,.int .i64 0,.string {data:=#[]},.int .i64 0] 122)).drew w7→w7.heap[w6.heap.size]?=some (.cells #[.int .i64 0,.int .i64 0,.int .i64 0,.int .i64 0,.int .i64 0,.int .i64 0,.int .i64 0,.int .i64 0,.string {data:=#[]},.int .i64 0] 122 (0,0))):=fun w7 h3 =>
   (h3.block _ (by show w6.heap.size<(w6.alloc _).heap.size;simp) fun hm=>by
    simp only[Co,Cq,or_false,Option.some.injEq]at hm;rcases hm with hm|hm
    ·omega
    have:=HEL.out _ hm.symm;omega).trans (heap_alloc_new w6 _)
  have zf:∀(w7:World) o,an [some rb,ev.ownBlock] (w6.alloc (.cells #[.int .i64 0,.int .i64 0,.int .i64 0,.int .i64 0,.int .i64 0,.int .i64 0,.int .i64 0,.int .i64 0,.string {data:=#[]},.int .i64 0] 122)).drew w7→w7.frozen? ⟨w6.heap.size,o,none⟩=false:=fun w7 o h=>frozen_of_heap (HZ.out w7 h) o
  have z0:∀(w7:World),an [some rb,ev.ownBlock] (w6.alloc (.cells #[.int .i64 0,.int .i64 0,.int .i64 0,.int .i64 0,.int .i64 0,.int .i64 0,.int .i64 0,.int .i64 0,.string {data:=#[]},.int .i64 0] 122)).drew w7→w7.cell? ⟨w6.heap.size,0,none⟩=some (.int .i64 0):=fun w7 h=>by rw[cell_of_heap (HZ.out w7 h)];rfl
  have z1:∀(w7:World),an [some rb,ev.ownBlock] (w6.alloc (.cells #[.int .i64 0,.int .i64 0,.int .i64 0,.int .i64 0,.int .i64 0,.int .i64 0,.int .i64 0,.int .i64 0,.string {data:=#[]},.int .i64 0] 122)).drew w7→w7.cell? ⟨w6.heap.size,1,none⟩=some (.int .i64 0):=fun w7 h=>by rw[cell_of_heap (HZ.out w7 h)];rfl
  have z2:∀(w7:World),an [some rb,ev.ownBlock] (w6.alloc (.cells #[.int .i64 0,.int .i64 0,.int .i64 0,.int .i64 0,.int .i64 0,.int .i64 0,.int .i64 0,.int .i64 0,.string {data:=#[]},.int .i64 0] 122)).drew w7→w7.cell? ⟨w6.heap.size,2,none⟩=some (.int .i64 0):=fun w7 h=>by rw[cell_of_heap (HZ.out w7 h)];rfl
  have z3:∀(w7:World),an [some rb,ev.ownBlock] (w6.alloc (.cells #[.int .i64 0,.int .i64 0,.int .i64 0,.int .i64 0,.int .i64 0,.int .i64 0,.int .i64 0,.int .i64 0,.string {data:=#[]},.int .i64 0] 122)).drew w7→w7.cell? ⟨w6.heap.size,3,none⟩=some (.int .i64 0):=fun w7 h=>by rw[cell_of_heap (HZ.out w7 h)];rfl
  have z4:∀(w7:World),an [some rb,ev.ownBlock] (w6.alloc (.cells #[.int .i64 0,.int .i64 0,.int .i64 0,.int .i64 0,.int .i64 0,.int .i64 0,.int .i64 0,.int .i64 0,.string {data:=#[]},.int .i64 0] 122)).drew w7→w7.cell? ⟨w6.heap.size,4,none⟩=some (.int .i64 0):=fun w7 h=>by rw[cell_of_heap (HZ.out w7 h)];rfl
  have z5:∀(w7:World),an [some rb,ev.ownBlock] (w6.alloc (.cells #[.int .i64 0,.int .i64 0,.int .i64 0,.int .i64 0,.int .i64 0,.int .i64 0,.int .i64 0,.int .i64 0,.string {data:=#[]},.int .i64 0] 122)).drew w7→w7.cell? ⟨w6.heap.size,5,none⟩=some (.int .i64 0):=fun w7 h=>by rw[cell_of_heap (HZ.out w7 h)];rfl
  have z6:∀(w7:World),an [some rb,ev.ownBlock] (w6.alloc (.cells #[.int .i64 0,.int .i64 0,.int .i64 0,.int .i64 0,.int .i64 0,.int .i64 0,.int .i64 0,.int .i64 0,.string {data:=#[]},.int .i64 0] 122)).drew w7→w7.cell? ⟨w6.heap.size,6,none⟩=some (.int .i64 0):=fun w7 h=>by rw[cell_of_heap (HZ.out w7 h)];rfl
  have z7:∀(w7:World),an [some rb,ev.ownBlock] (w6.alloc (.cells #[.int .i64 0,.int .i64 0,.int .i64 0,.int .i64 0,.int .i64 0,.int .i64 0,.int .i64 0,.int .i64 0,.string {data:=#[]},.int .i64 0] 122)).drew w7→w7.cell? ⟨w6.heap.size,7,none⟩=some (.int .i64 0):=fun w7 h=>by rw[cell_of_heap (HZ.out w7 h)];rfl
  have z8:∀(w7:World),an [some rb,ev.ownBlock] (w6.alloc (.cells #[.int .i64 0,.int .i64 0,.int .i64 0,.int .i64 0,.int .i64 0,.int .i64 0,.int .i64 0,.int .i64 0,.string {data:=#[]},.int .i64 0] 122)).drew w7→w7.cell? ⟨w6.heap.size,8,none⟩=some (.string {data:=#[]}):=fun w7 h=>by rw[cell_of_heap (HZ.out w7 h)];rfl
  have z9:∀(w7:World),an [some rb,ev.ownBlock] (w6.alloc (.cells #[.int .i64 0,.int .i64 0,.int .i64 0,.int .i64 0,.int .i64 0,.int .i64 0,.int .i64 0,.int .i64 0,.string {data:=#[]},.int .i64 0] 122)).drew w7→w7.cell? ⟨w6.heap.size,9,none⟩=some (.int .i64 0):=fun w7 h=>by rw[cell_of_heap (HZ.out w7 h)];rfl
  have n1:rb≠w6.heap.size:=by omega
  have n2:cb≠w6.heap.size:=by omega
  have hmx:Tryz.prog.follows .mixedOrders=true:=by kernel_rfl
  have hS:(fun w':World=>w'.cell? ⟨rb,2,none⟩=some (.int .i64 (me:Int))∧w'.cell? ⟨cb,0,none⟩=some (.int .i64 (x.c.k.num:Int))∧w'.cell? ⟨cb,1,none⟩=some (.string x.c.word)∧w'.cell? ⟨cb,2,none⟩=some (.int .i64 (x.c.count:Int))) w6.drew:=⟨a2,b0,b1,b2⟩;refine wp_region_noPanic ?_;refine wp_region_held (S:=fun w':World=>w'.cell? ⟨rb,2,none⟩=some (.int .i64 (me:Int))∧w'.cell? ⟨cb,0,none⟩=some (.int .i64 (x.c.k.num:Int))∧w'.cell? ⟨cb,1,none⟩=some (.string x.c.word)∧w'.cell? ⟨cb,2,none⟩=some (.int .i64 (x.c.count:Int))) hmx ?_;clear HZ zf z0 z1 z2 z3 z4 z5 z6 z7 z8 z9;refine wpAnyH_take (i:=0) (v:=(.pointer (some ⟨rb,0,none⟩))) rfl (by kernel_rfl) (by kernel_rfl) (by kernel_rfl) (fun _ _ _ h=>h) (Or.inl ⟨by rfl,?_⟩) hS ?_
  ·intro w hSw;obtain⟨s0,s1,s2,s3⟩:=hSw;go_simp
  dsimp only[Ct,Cu,Cv];simp only[Act.put,Cw,Cs,Cx];refine wpAnyH_take (i:=1) (v:=(.pointer (some ⟨rb,0,none⟩))) rfl (by kernel_rfl) (by kernel_rfl) (by kernel_rfl) (fun _ _ _ h=>h) (Or.inl ⟨by rfl,?_⟩) hS ?_
  ·intro w hSw;obtain⟨s0,s1,s2,s3⟩:=hSw;go_simp
  dsimp only[Ct,Cu,Cv];simp only[Act.put,Cw,Cs,Cx];refine wpAnyH_take (i:=2) (v:=(.pointer (some ⟨rb,4,none⟩))) rfl (by kernel_rfl) (by kernel_rfl) (by kernel_rfl) (fun _ _ _ h=>h) (Or.inl ⟨by rfl,?_⟩) hS ?_
  ·intro w hSw;obtain⟨s0,s1,s2,s3⟩:=hSw;go_simp
  dsimp only[Ct,Cu,Cv];simp only[Act.put,Cw,Cs,Cx];refine wpAnyH_take (i:=3) (v:=(.pointer (some ⟨rb,0,none⟩))) rfl (by kernel_rfl) (by kernel_rfl) (by kernel_rfl) (fun _ _ _ h=>h) (Or.inl ⟨by rfl,?_⟩) hS ?_
  ·intro w hSw;obtain⟨s0,s1,s2,s3⟩:=hSw;go_simp
  dsimp only[Ct,Cu,Cv];simp only[Act.put,Cw,Cs,Cx];refine wpAnyH_take (i:=4) (v:=(.pointer (some ⟨rb,0,none⟩))) rfl (by kernel_rfl) (by kernel_rfl) (by kernel_rfl) (fun _ _ _ h=>h) (Or.inl ⟨by rfl,?_⟩) hS ?_
  ·intro w hSw;obtain⟨s0,s1,s2,s3⟩:=hSw;go_simp
  dsimp only[Ct,Cu,Cv];simp only[Act.put,Cw,Cs,Cx];refine wpAnyH_take (i:=5) (v:=(.pointer (some ⟨rb,2,none⟩))) rfl (by kernel_rfl) (by kernel_rfl) (by kernel_rfl) (fun _ _ _ h=>h) (Or.inl ⟨by rfl,?_⟩) hS ?_
  ·intro w hSw;obtain⟨s0,s1,s2,s3⟩:=hSw;go_simp
  dsimp only[Ct,Cu,Cv];simp only[Act.put,Cw,Cs,Cx];refine wpAnyH_take (i:=6) (v:=(.int .i64 (me:Int))) rfl (by kernel_rfl) (by kernel_rfl) (by kernel_rfl) (fun _ _ _ h=>h) (Or.inl ⟨by rfl,?_⟩) hS ?_
  ·intro w hSw;obtain⟨s0,s1,s2,s3⟩:=hSw;go_simp
  dsimp only[Ct,Cu,Cv];simp only[Act.put,Cw,Cs,Cx];refine wpAnyH_take (i:=7) (v:=(.agg #[.int .i64 (x.c.k.num:Int),.string x.c.word,.int .i64 (x.c.count:Int)])) rfl (by kernel_rfl) (by kernel_rfl) (by kernel_rfl) (fun _ _ _ h=>h) (Or.inl ⟨by rfl,?_⟩) hS ?_
  ·intro w hSw;obtain⟨s0,s1,s2,s3⟩:=hSw;go_simp
  dsimp only[Ct,Cu,Cv];simp only[Act.put,Cw,Cs,Cx];refine wpAnyH_ready (rs:=[8,9]) (by kernel_rfl) (by simp) ?_;refine AllReadyH.cons rfl (fun K hK=>?_) (AllReadyH.cons rfl (fun K hK=>?_) AllReadyH.nil)
  ·
   rw[if_pos (by rfl)];dsimp only[Ct,Cu,Cv];go_simp
   refine(HD.out _ HB7.out.drew).mono ?_;rintro e w7 ⟨rfl,g,cap,o1,o2,o3,o4,o5⟩
   have k7:=HS.out w6.drew w7 g cap hcl rfl o5 o4;refine hK.out _ _ k7 (fun _=>?_);clear hK K
   try simp only[Act.put,Cw,Cs,Cx]
   refine wpAnyH_ready (rs:=[9]) (by kernel_rfl) (by simp) ?_;refine AllReadyH.cons rfl (fun K hK=>?_) AllReadyH.nil;rw[if_pos (by rfl)];dsimp only[Ct,Cu,Cv];go_simp
   have hz:(w7.alloc (.cells #[.int .i64 0,.int .i64 0,.int .i64 0,.int .i64 0,.int .i64 0,.int .i64 0,.int .i64 0,.int .i64 0,.string {data:=#[]},.int .i64 0] 122)).heap[w7.heap.size]?=some (.cells #[.int .i64 0,.int .i64 0,.int .i64 0,.int .i64 0,.int .i64 0,.int .i64 0,.int .i64 0,.int .i64 0,.string {data:=#[]},.int .i64 0] 122 (0,0)):=heap_alloc_new w7 _;have k8:=(show(fun w':World=>w'.cell? ⟨rb,2,none⟩=some (.int .i64 (me:Int))∧w'.cell? ⟨cb,0,none⟩=some (.int .i64 (x.c.k.num:Int))∧w'.cell? ⟨cb,1,none⟩=some (.string x.c.word)∧w'.cell? ⟨cb,2,none⟩=some (.int .i64 (x.c.count:Int))) (w7.alloc (.cells #[.int .i64 0,.int .i64 0,.int .i64 0,.int .i64 0,.int .i64 0,.int .i64 0,.int .i64 0,.int .i64 0,.string {data:=#[]},.int .i64 0] 122)) from⟨dx _ _ _ _ k7.1,dx _ _ _ _ k7.2.1,dx _ _ _ _ k7.2.2.1,dx _ _ _ _ k7.2.2.2⟩)
   have u8:an [] w7 (w7.alloc (.cells #[.int .i64 0,.int .i64 0,.int .i64 0,.int .i64 0,.int .i64 0,.int .i64 0,.int .i64 0,.int .i64 0,.string {data:=#[]},.int .i64 0] 122)):=(an.refl _ w7).alloc _;have hs7:w6.heap.size≤w7.heap.size:=o5.size;have hg7:g<w7.heap.size:=(o1.lt g rfl).2;refine hK.out _ _ k8 (fun _=>?_);obtain⟨w8,hw8⟩:∃w8,w7.alloc (.cells #[.int .i64 0,.int .i64 0,.int .i64 0,.int .i64 0,.int .i64 0,.int .i64 0,.int .i64 0,.int .i64 0,.string {data:=#[]},.int .i64 0] 122)=w8:=⟨_,rfl⟩
   rw[hw8]at hz k8 u8 ⊢;clear hw8;generalize hebd:w7.heap.size=eb at *;have m1:rb≠eb:=by omega
   have m2:cb≠eb:=by omega
   have z0:w8.cell? ⟨eb,0,none⟩=some (.int .i64 0):=cell_of_heap hz _;have z1:w8.cell? ⟨eb,1,none⟩=some (.int .i64 0):=cell_of_heap hz _;have z2:w8.cell? ⟨eb,2,none⟩=some (.int .i64 0):=cell_of_heap hz _;have z3:w8.cell? ⟨eb,3,none⟩=some (.int .i64 0):=cell_of_heap hz _;have z4:w8.cell? ⟨eb,4,none⟩=some (.int .i64 0):=cell_of_heap hz _;have z5:w8.cell? ⟨eb,5,none⟩=some (.int .i64 0):=cell_of_heap hz _;have z6:w8.cell? ⟨eb,6,none⟩=some (.int .i64 0):=cell_of_heap hz _;have z7:w8.cell? ⟨eb,7,none⟩=some (.int .i64 0):=cell_of_heap hz _;have z8:w8.cell? ⟨eb,8,none⟩=some (.string {data:=#[]}):=cell_of_heap hz _;have z9:w8.cell? ⟨eb,9,none⟩=some (.int .i64 0):=cell_of_heap hz _;have zf:∀o,w8.frozen? ⟨eb,o,none⟩=false:=frozen_of_heap hz
   clear hK K
   try simp only[Act.put,Cw,Cs,Cx]
   refine wpAnyH_ready (rs:=[10]) (by kernel_rfl) (by simp) ?_;refine AllReadyH.cons rfl (fun K hK=>?_) AllReadyH.nil;rw[if_pos (by rfl)];dsimp only[Ct,Cu,Cv];go_simp
   refine hK.out _ _ ⟨dS _ _ _ _ _ _ _ _ _ _ _ _ _ _ m1 k8.1,dS _ _ _ _ _ _ _ _ _ _ _ _ _ _ m2 k8.2.1,dS _ _ _ _ _ _ _ _ _ _ _ _ _ _ m2 k8.2.2.1,dS _ _ _ _ _ _ _ _ _ _ _ _ _ _ m2 k8.2.2.2⟩ (fun _=>?_);clear hK K;refine wpAnyH_done (by kernel_rfl) ?_ _;refine NoPanic.normal ?_;have hsI:=kO (x:=x) (eb:=eb) HLk.out hrl HWL.out HB7.out.drew o1 o2 o3 o4 o5 (sM hz _ _ _ _ _ _ _ _ _ _).1 ((u8.mono (T:=[some eb]) (by simp)).trans (sM hz _ _ _ _ _ _ _ _ _ _).2 (fun i hi=>.inl hi)) (by omega) (by omega);go_wp2_with fail
   go_meet
   case rel=>exact⟨eb,g,cap,rfl,hsI⟩
  
  rw[if_pos (by rfl)];dsimp only[Ct,Cu,Cv];go_simp
  obtain⟨wx,hwx⟩:∃wx,(w6.alloc (.cells #[.int .i64 0,.int .i64 0,.int .i64 0,.int .i64 0,.int .i64 0,.int .i64 0,.int .i64 0,.int .i64 0,.string {data:=#[]},.int .i64 0] 122)).drew=wx:=⟨_,rfl⟩
  have hbx:Below w.heap.size (w.setCell ⟨rb,0,none⟩ (.int .i32 1)) wx:=by rw[←hwx];exact(HB7.out.alloc hs6 _).drew
  have hzx:wx.heap[w6.heap.size]?=some (.cells #[.int .i64 0,.int .i64 0,.int .i64 0,.int .i64 0,.int .i64 0,.int .i64 0,.int .i64 0,.int .i64 0,.string {data:=#[]},.int .i64 0] 122 (0,0)):=by rw[←hwx];exact heap_alloc_new w6 _
  have hcx:wx.heap[cb]?=w6.heap[cb]?:=by rw[←hwx];exact Below.heap_alloc w6 _ cb hcl
  have hsx:wx.heap.size=w6.heap.size+1:=by rw[←hwx];show(w6.alloc _).heap.size=_;simp
  have kx:(fun w':World=>w'.cell? ⟨rb,2,none⟩=some (.int .i64 (me:Int))∧w'.cell? ⟨cb,0,none⟩=some (.int .i64 (x.c.k.num:Int))∧w'.cell? ⟨cb,1,none⟩=some (.string x.c.word)∧w'.cell? ⟨cb,2,none⟩=some (.int .i64 (x.c.count:Int))) wx:=by rw[←hwx];exact⟨dx _ _ _ _ a2,dx _ _ _ _ b0,dx _ _ _ _ b1,dx _ _ _ _ b2⟩
  rw[hwx];refine hK.out _ _ kx (fun _=>?_);clear hwx;clear hK K
  try simp only[Act.put,Cw,Cs,Cx]
  refine wpAnyH_ready (rs:=[8]) (by kernel_rfl) (by simp) ?_;refine AllReadyH.cons rfl (fun K hK=>?_) AllReadyH.nil;rw[if_pos (by rfl)];dsimp only[Ct,Cu,Cv];go_simp
  refine(HD.out wx hbx).mono ?_;rintro e w7 ⟨rfl,g,cap,o1,o2,o3,o4,o5⟩
  have k8:=HS.out wx w7 g cap (by omega) hcx o5 o4;refine hK.out _ _ k8 (fun _=>?_);have hz:w7.heap[w6.heap.size]?=some (.cells #[.int .i64 0,.int .i64 0,.int .i64 0,.int .i64 0,.int .i64 0,.int .i64 0,.int .i64 0,.int .i64 0,.string {data:=#[]},.int .i64 0] 122 (0,0)):=(o5.block _ (by omega) fun hm=>by
   simp only[Co,Cq,or_false,Option.some.injEq]at hm;rcases hm with hm|hm
   ·omega
   have:=HEL.out _ hm.symm;omega).trans hzx
  have hge:g≠w6.heap.size:=by
   rcases o2 with h|h
   ·have:=HEL.out g h;omega
   omega
  generalize hebd:w6.heap.size=eb at *;have m1:rb≠eb:=by omega
  have m2:cb≠eb:=by omega
  have z0:w7.cell? ⟨eb,0,none⟩=some (.int .i64 0):=cell_of_heap hz _;have z1:w7.cell? ⟨eb,1,none⟩=some (.int .i64 0):=cell_of_heap hz _;have z2:w7.cell? ⟨eb,2,none⟩=some (.int .i64 0):=cell_of_heap hz _;have z3:w7.cell? ⟨eb,3,none⟩=some (.int .i64 0):=cell_of_heap hz _;have z4:w7.cell? ⟨eb,4,none⟩=some (.int .i64 0):=cell_of_heap hz _;have z5:w7.cell? ⟨eb,5,none⟩=some (.int .i64 0):=cell_of_heap hz _;have z6:w7.cell? ⟨eb,6,none⟩=some (.int .i64 0):=cell_of_heap hz _;have z7:w7.cell? ⟨eb,7,none⟩=some (.int .i64 0):=cell_of_heap hz _;have z8:w7.cell? ⟨eb,8,none⟩=some (.string {data:=#[]}):=cell_of_heap hz _;have z9:w7.cell? ⟨eb,9,none⟩=some (.int .i64 0):=cell_of_heap hz _;have zf:∀o,w7.frozen? ⟨eb,o,none⟩=false:=frozen_of_heap hz
  clear hK K
  try simp only[Act.put,Cw,Cs,Cx]
  refine wpAnyH_ready (rs:=[10]) (by kernel_rfl) (by simp) ?_;refine AllReadyH.cons rfl (fun K hK=>?_) AllReadyH.nil;rw[if_pos (by rfl)];dsimp only[Ct,Cu,Cv];go_simp
  refine hK.out _ _ ⟨dS _ _ _ _ _ _ _ _ _ _ _ _ _ _ m1 k8.1,dS _ _ _ _ _ _ _ _ _ _ _ _ _ _ m2 k8.2.1,dS _ _ _ _ _ _ _ _ _ _ _ _ _ _ m2 k8.2.2.1,dS _ _ _ _ _ _ _ _ _ _ _ _ _ _ m2 k8.2.2.2⟩ (fun _=>?_);clear hK K;refine wpAnyH_done (by kernel_rfl) ?_ _;refine NoPanic.normal ?_;have hsI:=kO (x:=x) (eb:=eb) HLk.out hrl HWL.out hbx o1 o2 o3 o4 o5 (sM hz _ _ _ _ _ _ _ _ _ _).1 (sM hz _ _ _ _ _ _ _ _ _ _).2 (by omega) hge;go_wp2_with fail
  go_meet
  case rel=>exact⟨eb,g,cap,rfl,hsI⟩
 case rest =>
  obtain⟨eb,g,cap,rfl,hI⟩:=hcut;clear a2 b0 b1 b2 H6 HB7 hcl hw26 HD;generalize Value.slice (some ⟨g,0,none⟩) (log.length+1) cap=ev' at *;have r3:wc.cell? ⟨rb,3,none⟩=some (.int .i64 (n:Int)):=cell_of_heap hI.out.rbk _;go_wp2
  go_loopw [45] (fun v wr=>∃(j:Nat) (wj:Value),j≤n∧v=.int .i64 (j:Int)∧Hid (gP w rb n me log x now its ow ev wv eb ev' j wr wj)) (fun v _=>n-(intOf v).toNat)
  case atStart=>exact⟨0,wv,by omega,rfl,hI⟩
  case round =>
   obtain⟨j,wj,hjn,rfl,hJ⟩:=hrel;have q2:wr.cell? ⟨rb,2,none⟩=some (.int .i64 (me:Int)):=cell_of_heap hJ.out.rbk _;by_cases hlt:j<n
   ·by_cases hjm:j=me
    ·have HN:Hid (gP w rb n me log x now its ow ev wv eb ev' (j+1) wr wj):=by
      have h:=hJ.out;subst hjm;exact⟨h.rbk,h.erow,h.eB,by rw[oa];exact h.row,h.wB,h.ent,h.ebl,h.upd⟩
     subst hjm;go_wp2
     go_roundw
     case rel=>exact⟨j+1,wj,by omega,by go_num,HN⟩
     case measure=>simp[intOf];omega
    have HB:Hid (Calls Tryz.prog 50 #[.pointer (some ⟨rb,10,none⟩),.int .i64 (j:Int),.agg #[.int .i64 (me:Int),.int .i64 (x.seq:Int),.int .i64 (x.ah.a:Int),.int .i64 (x.ah.b:Int),.int .i64 (x.ah.c:Int),.int .i64 (x.ah.d:Int),.int .i64 (x.ah.e:Int),.int .i64 (x.c.k.num:Int),.string x.c.word,.int .i64 (x.c.count:Int)]] wr.drew fun e w'=>e=.returned (.tuple #[])∧∃wj',gP w rb n me log x now its ow ev wv eb ev' (j+1) w' wj'):=hJ.out.drew.BQ hi hnow (by omega) HXO.out hrl hjm;have hji:¬ ((j:Int)=(me:Int)):=by omega
    have he:=hJ.out.ent;have e0:wr.cell? ⟨eb,0,none⟩=some (.int .i64 (me:Int)):=cell_of_heap he _;have e1:wr.cell? ⟨eb,1,none⟩=some (.int .i64 (x.seq:Int)):=cell_of_heap he _;have e2:wr.cell? ⟨eb,2,none⟩=some (.int .i64 (x.ah.a:Int)):=cell_of_heap he _;have e3:wr.cell? ⟨eb,3,none⟩=some (.int .i64 (x.ah.b:Int)):=cell_of_heap he _;have e4:wr.cell? ⟨eb,4,none⟩=some (.int .i64 (x.ah.c:Int)):=cell_of_heap he _;have e5:wr.cell? ⟨eb,5,none⟩=some (.int .i64 (x.ah.d:Int)):=cell_of_heap he _;have e6:wr.cell? ⟨eb,6,none⟩=some (.int .i64 (x.ah.e:Int)):=cell_of_heap he _;have e7:wr.cell? ⟨eb,7,none⟩=some (.int .i64 (x.c.k.num:Int)):=cell_of_heap he _;have e8:wr.cell? ⟨eb,8,none⟩=some (.string x.c.word):=cell_of_heap he _;have e9:wr.cell? ⟨eb,9,none⟩=some (.int .i64 (x.c.count:Int)):=cell_of_heap he _;clear he;go_upto_region 15 with fail
    go_region_held3 (fun w'=>w'.cell? ⟨eb,0,none⟩=some (.int .i64 (me:Int))∧w'.cell? ⟨eb,1,none⟩=some (.int .i64 (x.seq:Int))∧w'.cell? ⟨eb,2,none⟩=some (.int .i64 (x.ah.a:Int))∧w'.cell? ⟨eb,3,none⟩=some (.int .i64 (x.ah.b:Int))∧w'.cell? ⟨eb,4,none⟩=some (.int .i64 (x.ah.c:Int))∧w'.cell? ⟨eb,5,none⟩=some (.int .i64 (x.ah.d:Int))∧w'.cell? ⟨eb,6,none⟩=some (.int .i64 (x.ah.e:Int))∧w'.cell? ⟨eb,7,none⟩=some (.int .i64 (x.c.k.num:Int))∧w'.cell? ⟨eb,8,none⟩=some (.string x.c.word)∧w'.cell? ⟨eb,9,none⟩=some (.int .i64 (x.c.count:Int))) (first
      |exact⟨e0,e1,e2,e3,e4,e5,e6,e7,e8,e9⟩
      |exact⟨by rw[cell_of_heap hI2.ent];rfl,by rw[cell_of_heap hI2.ent];rfl,by rw[cell_of_heap hI2.ent];rfl,by rw[cell_of_heap hI2.ent];rfl,by rw[cell_of_heap hI2.ent];rfl,by rw[cell_of_heap hI2.ent];rfl,by rw[cell_of_heap hI2.ent];rfl,by rw[cell_of_heap hI2.ent];rfl,by rw[cell_of_heap hI2.ent];rfl,by rw[cell_of_heap hI2.ent];rfl⟩
      |fail) (first
      |(go_at_call 50;refine HB.out.mono ?_;rintro e w2 ⟨rfl,wj2,hI2⟩))
    have HI2:Hid (gP w rb n me log x now its ow ev wv eb ev' (j+1) w2 wj2):=hI2;clear hI2;go_wp2
    go_roundw
    case rel=>exact⟨j+1,wj2,by omega,by go_num,HI2⟩
    case measure=>simp[intOf];omega
   obtain rfl:j=n:=by omega
   go_wp2
   refine leaves_cons (f:=45) (args:=#[.pointer (some ⟨rb,0,none⟩)]) (by simp) (by simp[go_sem]) ?_;refine(unlock_deferred dQ ⟨rb,0,none⟩ .returning _ (by rw[cell_of_heap hJ.out.rbk];rfl) (frozen_of_heap hJ.out.rbk 0)).mono ?_;rintro e u' w'' ⟨rfl,rfl,rfl⟩
   obtain⟨its',r1,r2,r3⟩:=hJ.out.row;refine⟨_,results_tmp rfl _ _ _,rfl,hJ.out.upd.setCell (.inl (by simp)) _,ev',wj,its',⟨?_,?_,fun e=>(hJ.out.eB rb e).1 rfl,ai r1 (fun b hb=>(hJ.out.wB b hb).1) _,fun e=>(hJ.out.wB rb e).1 rfl,fun b hb=>(hJ.out.wB b hb).2.1,r3⟩,r2,fun b hb=>(hJ.out.eB b hb).2,fun b hb=>(hJ.out.wB b hb).2.2⟩
   ·rw[ae hJ.out.rbk,nR]
   rw[Cz];exact ai hJ.out.erow (fun b hb=>(hJ.out.eB b hb).1) _
end
section
open Go.RowKit Go.Proofs
variable {L:Lt} {Ls:List Lt} {f g:Nat→Nat} {its its0 ps rest:List It} {j m now:Nat} {p:It}
theorem ay.still{n:Nat}{S S':Nat→Sr}(hS:ay n S)(hl:∀i,i<n→(S' i).log=(S i).log)(hw:∀i,i<n→∀j,(bI (S' i).its j).Perm (bI (S i).its j))(ht:∀i,i<n→∀p∈(S' i).its,p.due≤(S' i).now+1)(ho:∀i,i<n→∀j,(S' i).owed j=true→(S i).owed j=true):ay n S':=by
 refine⟨fun i hi=>?_,fun i hi x hx=>?_,fun i hi j hj hji=>?_⟩
 ·have h:=hS.one i hi;refine⟨by rw[hl i hi];exact h.log,by rw[hl i hi];exact h.org,fun p hp=>?_,fun j=>?_,fun j hj=>h.owe j (ho i hi j hj)⟩
  ·obtain⟨q,hq,he,_⟩:=dh.1 ((hw i hi p.to).mem_iff.1 (dh.2 ⟨p,hp,rfl,rfl⟩));have:=h.to q hq;rw[he]at this
   exact⟨this.1,this.2.1,ht i hi p hp⟩
  rw[←bM,(hw i hi j).length_eq,bM];exact h.room j
 ·rw[hl i hi]at hx;have:=hS.src i hi x hx;rwa[hl _ ((hS.one i hi).org x hx)]
 obtain⟨a,h1,h2⟩:=hS.wait i hi j hj hji;rw[hl i hi,hl j hj];exact⟨a,h1,(hw i hi j).trans h2⟩
def aL(S:Nat→Sr)(D:List Lt):Nat→Sr:=D.foldl (fun S L=>bR S L.dst (dY (S L.dst) L)) S
theorem dB(S:Nat→Sr)(L:Lt)(D:List Lt):aL S (L::D)=aL (bR S L.dst (dY (S L.dst) L)) D:=rfl
theorem fC(S:Nat→Sr)(L:Lt)(i:Nat):∃l,(bR S L.dst (dY (S L.dst) L) i).log=(S i).log++l:=by
 by_cases e:i=L.dst
 ·subst e;rw[aD];exact fm _ _
 rw[az _ _ e];exact⟨[],by simp⟩
theorem dA(i:Nat):∀(D:List Lt) (S:Nat→Sr),∃l,(aL S D i).log=(S i).log++l
 |[],S=>⟨[],by simp[aL]⟩
 |L::D,S=>by
  obtain⟨l1,h1⟩:=fC S L i;obtain⟨l2,h2⟩:=dA i D (bR S L.dst (dY (S L.dst) L));exact⟨l1++l2,by rw[dB,h2,h1,De]⟩
theorem jr{n:Nat}:∀{D:List Lt} {S:Nat→Sr},ay n S→(∀L∈D,fB n S L)→ay n (aL S D)
 |[],_,h,_=>h
 |L::D,S,h,hD=>jr (D:=D) (h.take (hD L (by simp))) fun M hM=>h.lt (fun i _=>fC S L i) (hD M (by simp[hM]))
theorem pQ{n:Nat}{S:Nat→Sr}(hL:fB n S L)(i:Nat):bT i (bR S L.dst (dY (S L.dst) L) i).log=bT i (S i).log:=by
 by_cases e:i=L.dst
 ·subst e;rw[aD];exact jI fun x hx e=>hL.ne (e ▸ (hL.es x hx).2)
 rw[az _ _ e]
theorem iq{n:Nat}(i:Nat):∀{D:List Lt} {S:Nat→Sr},ay n S→(∀L∈D,fB n S L)→bT i (aL S D i).log=bT i (S i).log
 |[],_,_,_=>rfl
 |L::D,S,h,hD=>by
  rw[dB,iq i (D:=D) (h.take (hD L (by simp))) (fun M hM=>h.lt (fun i _=>fC S L i) (hD M (by simp[hM]))),pQ (hD L (by simp))]
theorem mF{S S':Nat→Sr}{i:Nat}(h:∃l,(S' i).log=(S i).log++l)(o:Nat):aq (S i).log o≤aq (S' i).log o:=by
 obtain⟨l,hl⟩:=h;rw[hl,bO];omega
theorem jQ{L:Lt}{x:En}(hx:x∈L.es):∀{D:List Lt} {S:Nat→Sr},L∈D→x.seq≤aq (S L.dst).log x.org+1→(∀o,x.ah.get o≤aq (S L.dst).log o)→x.seq≤aq (aL S D L.dst).log x.org
 |[],_,h,_,_=>by simp at h
 |M::D,S,h,h1,h2=>by
  rw[dB];rcases Co.1 h with rfl|h
  ·refine CC ?_ (mF (dA _ D _) _);rw[aD];exact iX hx h1 h2
  exact jQ hx (D:=D) h (CC h1 (Nat.succ_le_succ (mF (fC S M _) _))) fun o=>CC (h2 o) (mF (fC S M _) o)
theorem tw(S:Nat→Sr)(M:Lt)(i j:Nat)(h:(S i).owed j=true):(bR S M.dst (dY (S M.dst) M) i).owed j=true:=by
 by_cases e:i=M.dst
 ·subst e;rw[aD];unfold dY;dsimp only;split
  ·exact h
  dsimp only;split
  ·rfl
  exact h
 rw[az _ _ e];exact h
theorem fJ(i j:Nat):∀(D:List Lt) (S:Nat→Sr),(S i).owed j=true→(aL S D i).owed j=true
 |[],_,h=>h
 |M::D,S,h=>fJ i j D _ (tw S M i j h)
theorem jP{L:Lt}(hx:L.es≠[]):∀{D:List Lt} {S:Nat→Sr},L∈D→(aL S D L.dst).owed L.src=true
 |[],_,h=>by simp at h
 |M::D,S,h=>by
  rw[dB];rcases Co.1 h with rfl|h
  ·refine fJ _ _ D _ ?_;rw[aD];simp[dY,hx]
  exact jP hx (D:=D) h
theorem u4(S:Nat→Sr)(M:Lt)(i:Nat)(h:p∈(bR S M.dst (dY (S M.dst) M) i).its):p∈(S i).its:=by
 by_cases e:i=M.dst
 ·subst e;rw[aD]at h;exact(Dc.1 h).1
 rwa[az _ _ e]at h
theorem fV(i:Nat){p:It}:∀{D:List Lt} {S:Nat→Sr},p∈(aL S D i).its→p∈(S i).its
 |[],_,h=>h
 |M::D,S,h=>u4 S M i (fV i (D:=D) h)
theorem iu{L:Lt}{p:It}:∀{D:List Lt} {S:Nat→Sr},L∈D→p∈(aL S D L.dst).its→p.to=L.src→L.h<p.en.seq
 |[],_,h,_,_=>by simp at h
 |M::D,S,h,hp,ht=>by
  rw[dB]at hp;rcases Co.1 h with rfl|h
  ·have:=fV _ hp;rw[aD]at this
   have:=(Dc.1 this).2;unfold fK at this;simp[ht]at this
   omega
  exact iu (D:=D) h hp ht
structure iz(n:Nat)(S S':Nat→Sr)(Ls:List Lt):Prop where
 log:∀i,i<n→(S' i).log=(S i).log
 its:∀i,i<n→∀j,(bI (S' i).its j).Perm (bI (S i).its j)
 due:∀i,i<n→∀p∈(S' i).its,p.due≤(S' i).now+1
 none:∀i,i<n→∀j,(S' i).owed j=false
 ok:∀L∈Ls,fB n S L∧L.h=aq (S L.src).log L.dst
 all:∀i,i<n→∀p∈(S i).its,∃L∈Ls,L.src=i∧L.dst=p.to∧p.en∈L.es
 owed:∀i,i<n→∀j,(S i).owed j=true→∃L∈Ls,L.src=i∧L.dst=j
theorem iz.net{n:Nat}{S S':Nat→Sr}(h:iz n S S' Ls)(hS:ay n S):ay n S':=hS.still h.log h.its h.due fun i hi j hj=>by rw[h.none i hi j]at hj;simp at hj
theorem iz.lt{n:Nat}{S S':Nat→Sr}{Ls:List Lt}(h:iz n S S' Ls)(hS:ay n S){L:Lt}(hL:L∈Ls):fB n S' L:=hS.lt (fun i hi=>⟨[],by rw[h.log i hi];simp⟩) (h.ok L hL).1
def Rc.sum(r:Rc):Nat:=r.a+r.b+r.c+r.d+r.e
theorem yj{x y:Rc}(h:∀o,x.get o≤y.get o){o:Nat}(hl:x.get o<y.get o):x.sum<y.sum:=by
 have h0:=h 0;have h1:=h 1;have h2:=h 2;have h3:=h 3;have h4:=h 4;simp[Rc.get]at h0 h1 h2 h3 h4
 unfold Rc.get at hl;unfold Rc.sum
 repeat (split at hl;· omega)
 omega
theorem ay.least{n:Nat}{S:Nat→Sr}(hS:ay n S):∀(m:Nat) (x:En),x.ah.sum≤m→x.org<n→x∈(S x.org).log→x.seq=aq (S j).log x.org+1→∃y,y.org<n∧y∈(S y.org).log∧y.seq=aq (S j).log y.org+1∧∀o,y.ah.get o≤aq (S j).log o:=by
 intro m
 induction m with
 |zero =>
  intro x hx ho hm hs;refine⟨x,ho,hm,hs,fun o=>?_⟩;have:x.ah.get o=0:=by
   unfold Rc.sum at hx;unfold Rc.get
   repeat (split;· omega)
   rfl
  omega
 |succ m ih =>
  intro x hx ho hm hs;by_cases hc:∀o,x.ah.get o≤aq (S j).log o
  ·exact⟨x,ho,hm,hs,hc⟩
  simp only[Classical.not_forall,Nat.not_le]at hc;obtain⟨o,hlt⟩:=hc;obtain⟨pre,post,hsp⟩:=List.append_of_mem hm;have hL:=(hS.one _ ho).log;rw[hsp]at hL
  obtain⟨⟨_,_,h3⟩,hpre⟩:=hL.split;have hah:=h3 rfl;rw[hah,bD]at hlt
  obtain⟨z,hz,hzo,hzs⟩:=hpre.the (o:=o) (s:=aq (S j).log o+1) (by omega) (by omega);have hzl:z∈(S x.org).log:=by rw[hsp];exact C8 _ hz
  have hzn:=(hS.one _ ho).org z hzl;obtain⟨pre2,post2,hsp2⟩:=List.append_of_mem hz;rw[hsp2]at hpre
  obtain⟨⟨q1,q2,_⟩,_⟩:=hpre.split;refine ih z ?_ hzn (hS.src _ ho z hzl) (by rw[hzo];exact hzs);have:z.ah.sum<x.ah.sum:=by
   refine yj (o:=z.org) (fun o'=>?_) ?_
   ·rw[hah,bD,hsp2,bO];exact CC (q2 o') (Nat.le_add_right _ _)
   rw[hah,bD,hsp2,bO,kH,if_pos rfl];have:=q2 z.org;omega
  omega
def dJ(n:Nat)(f:Nat→Nat):Nat:=((List.range n).map f).sum
theorem bS(n:Nat)(f:Nat→Nat):dJ (n+1) f=dJ n f+f n:=by simp[dJ,List.range_succ]
theorem gn{n:Nat}(h:∀i,i<n→f i≤g i):dJ n f≤dJ n g:=by
 induction n with
 |zero=>exact Cl _
 |succ n ih=>rw[bS,bS];have:=ih fun i hi=>h i (by omega);have:=h n (by omega);omega
theorem vg{n:Nat}(h:∀i,i<n→f i≤g i){k:Nat}(hk:k<n)(hl:f k<g k):dJ n f<dJ n g:=by
 induction n with
 |zero=>omega
 |succ n ih =>
  rw[bS,bS];have h1:=h n (by omega);by_cases e:k=n
  ·subst e;have:=gn (n:=k) fun i hi=>h i (by omega);omega
  have:=ih (fun i hi=>h i (by omega)) (by omega);omega
theorem pR{n:Nat}(h:∀i,i<n→f i≤g i)(he:dJ n g≤dJ n f):∀i,i<n→f i=g i:=fun i hi=>by
 rcases Nat.lt_or_ge (f i) (g i) with hl|hl
 ·have:=vg h hi hl;omega
 have:=h i hi;omega
theorem j6(n:Nat)(f g:Nat→Nat):dJ n (fun i=>f i+g i)=dJ n f+dJ n g:=by
 induction n with
 |zero=>rfl
 |succ n ih=>rw[bS,bS,bS,ih];omega
theorem fh{n:Nat}(h:∀i,i<n→f i=g i):dJ n f=dJ n g:=Nat.le_antisymm (gn fun i hi=>Nat.le_of_eq (h i hi)) (gn fun i hi=>Nat.le_of_eq (h i hi).symm)
theorem nM(n k:Nat)(hk:k<n):dJ n (fun i=>if k=i then 1 else 0)=1:=by
 induction n with
 |zero=>omega
 |succ n ih =>
  rw[bS];by_cases e:k=n
  ·subst e;rw[if_pos rfl,fh (g:=fun _=>0) fun i hi=>if_neg (by omega)];have:∀m,dJ m (fun _=>0)=0:=fun m=>by induction m with
    |zero=>rfl
    |succ m ih=>rw[bS,ih]
   rw[this]
  rw[if_neg e,ih (by omega)]
theorem fI{n:Nat}:∀{log:List En},(∀x∈log,x.org<n)→log.length=dJ n (aq log)
 |[],_=>by
  have:∀m,dJ m (aq [])=0:=fun m=>by induction m with
   |zero=>rfl
   |succ m ih=>rw[bS,ih];rfl
  rw[this];rfl
 |x::l,h=>by
  have ih:=fI (log:=l) fun y hy=>h y (by simp[hy])
  have e:dJ n (aq (x::l))=dJ n (fun i=>(if x.org=i then 1 else 0)+aq l i):=fh fun i _=>kH x l i
  rw[e,j6,nM n _ (h x (by simp)),←ih,CR];omega
def bn(n:Nat)(S:Nat→Sr):Nat:=dJ n fun i=>aq (S i).log i
theorem ay.AW{n:Nat}{S:Nat→Sr}(hS:ay n S){i:Nat}(hi:i<n)(hj:j<n):aq (S j).log i≤aq (S i).log i:=by
 rcases Nat.eq_zero_or_pos (aq (S j).log i) with h|h
 ·omega
 obtain⟨x,hx,ho,hs⟩:=(hS.one j hj).log.the (o:=i) (s:=aq (S j).log i) h (Cl _);have:=hS.src j hj x hx;rw[ho]at this
 have:=((hS.one i hi).log.place this).2.1;rw[ho]at this
 omega
theorem ay.AN{n:Nat}{S:Nat→Sr}(hS:ay n S)(hj:j<n):(S j).log.length≤bn n S:=by
 rw[fI (hS.one j hj).org];exact gn fun i hi=>hS.AW hi hj
theorem ay.Ch{n:Nat}{S:Nat→Sr}(hS:ay n S)(hj:j<n):bn n S≤(S j).log.length+8*n:=by
 rw[fI (hS.one j hj).org];have h8:dJ n (fun _=>8)=8*n:=by
  have:∀m,dJ m (fun _=>8)=8*m:=fun m=>by induction m with
   |zero=>rfl
   |succ m ih=>rw[bS,ih];omega
  exact this n
 rw[←h8,←j6];refine gn fun i hi=>?_
 by_cases e:j=i
 ·subst e;omega
 obtain⟨a,ha,hp⟩:=hS.wait i hi j hj e;have:=hp.length_eq;rw[bM,List.length_drop,bZ]at this
 have:=(hS.one i hi).room j;omega
theorem iz.round{n:Nat}{S S':Nat→Sr}{D:List Lt}(h:iz n S S' Ls)(hS:ay n S)(hD:∀L∈D,L∈Ls)(hL:∀L∈Ls,L∈D):ay n (aL S' D)∧(∀i,i<n→bT i (aL S' D i).log=bT i (S i).log)∧bn n (aL S' D)=bn n S∧∀j,j<n→(S j).log.length<bn n S→(S j).log.length+1≤(aL S' D j).log.length:=by
 have hS':=h.net hS;have hok:∀L∈D,fB n S' L:=fun L hl=>h.lt hS (hD L hl)
 have hown:∀i,i<n→bT i (aL S' D i).log=bT i (S i).log:=fun i hi=>by rw[iq i hS' hok,h.log i hi]
 refine⟨jr hS' hok,hown,fh fun i hi=>by rw[←bZ,←bZ,hown i hi],fun j hj hlt=>?_⟩;have hex:∃i,i<n∧aq (S j).log i<aq (S i).log i:=by
  apply Classical.byContradiction
  intro hc;have:bn n S≤(S j).log.length:=by
   rw[fI (hS.one j hj).org];exact gn fun i hi=>Nat.le_of_not_lt fun hl=>hc ⟨i,hi,hl⟩
  omega
 obtain⟨i,hi,hil⟩:=hex;obtain⟨x0,h1,h2,h3⟩:=(hS.one i hi).log.the (o:=i) (s:=aq (S j).log i+1) (by omega) (by omega);obtain⟨x,ho,hm,hs,hc⟩:=hS.least (j:=j) x0.ah.sum x0 (Cl _) (by rw[h2];exact hi) (by rw[h2];exact h1) (by rw[h2];exact h3);have hxj:j≠x.org:=fun e=>by
  have:=((hS.one _ ho).log.place hm).2.1;rw[e]at hs
  omega
 obtain⟨a,ha,hp⟩:=hS.wait x.org ho j hj hxj;have hw:x∈bI (S x.org).its j:=by
  rw[hp.mem_iff];have:=((hS.one _ ho).log.place hm).2.2;exact List.mem_of_getElem? (i:=x.seq-1-a) (by rw[List.getElem?_drop,show a+(x.seq-1-a)=x.seq-1 by omega];exact this)
 obtain⟨p,hpm,hpt,hpe⟩:=dh.1 hw;obtain⟨L,hLm,hLs,hLd,hLe⟩:=h.all x.org ho p hpm;rw[hpe]at hLe
 rw[hpt]at hLd;have hlog:=h.log j hj;have hget:=jQ hLe (D:=D) (S:=S') (hL L hLm) (by rw[hLd,hlog];omega) (by rw[hLd,hlog];exact hc);rw[hLd]at hget
 obtain⟨l,hl⟩:=dA j D S';rw[hl,Cz,hlog];rw[hl,bO,hlog]at hget
 have:=fW l x.org;omega
def eC(s:Sr):Sr:=⟨s.log,s.now+1,s.its,s.owed⟩
def nD(n:Nat)(S S3:Nat→Sr):Prop:=∃S2 Ls D,iz n (fun i=>eC (S i)) S2 Ls∧(∀L∈D,L∈Ls)∧(∀L∈Ls,L∈D)∧S3=aL S2 D
theorem ay.tick{n:Nat}{S:Nat→Sr}(hS:ay n S):ay n (fun i=>eC (S i)):=hS.still (fun _ _=>rfl) (fun _ _ _=>Dw.refl _) (fun i hi p hp=>CC ((hS.one i hi).to p hp).2.2 (Dv _)) fun _ _ _ h=>h
theorem ay.BE{n:Nat}{S:Nat→Sr}(hS:ay n S)(k:Nat):ay n (bR S k (eC (S k))):=by
 have e:∀i,bR S k (eC (S k)) i=if i=k then eC (S i) else S i:=fun i=>by
  unfold bR;split
  ·subst_vars;rfl
  rfl
 refine hS.still (fun i hi=>?_) (fun i hi j=>?_) (fun i hi p hp=>?_) fun i hi j h=>?_
 ·rw[e];split <;> rfl
 ·rw[e];split <;> exact Dw.refl _
 ·rw[e]at hp ⊢;split at hp
  ·rw[if_pos (by assumption)];exact CC ((hS.one i hi).to p hp).2.2 (Dv _)
  rw[if_neg (by assumption)];exact((hS.one i hi).to p hp).2.2
 rw[e]at h;split at h <;> exact h
theorem nD.net{n:Nat}{S S3:Nat→Sr}(h:nD n S S3)(hS:ay n S):ay n S3∧(∀i,i<n→bT i (S3 i).log=bT i (S i).log)∧bn n S3=bn n S∧(∀j,j<n→(S j).log.length<bn n S→(S j).log.length+1≤(S3 j).log.length)∧∀j,j<n→∃l,(S3 j).log=(S j).log++l:=by
 obtain⟨S2,Ls,D,ht,h1,h2,rfl⟩:=h;obtain⟨q1,q2,q3,q4⟩:=ht.round hS.tick h1 h2;refine⟨q1,q2,q3,q4,fun j hj=>?_⟩;obtain⟨l,hl⟩:=dA j D S2;exact⟨l,by rw[hl,ht.log j hj];rfl⟩
def bX(n:Nat)(S:Nat→Sr):Prop:=∀j,j<n→(S j).log.length=bn n S
theorem bX.cnt{n:Nat}{S:Nat→Sr}(h:bX n S)(hS:ay n S){i:Nat}(hi:i<n)(hj:j<n):aq (S j).log i=aq (S i).log i:=by
 have e:=h j hj;rw[fI (hS.one j hj).org]at e
 exact pR (f:=aq (S j).log) (g:=fun i=>aq (S i).log i) (fun i hi=>hS.AW hi hj) (Nat.le_of_eq e.symm) i hi
theorem nD.AM{n:Nat}{S S3:Nat→Sr}(h:nD n S S3)(hS:ay n S)(ha:bX n S):bX n S3:=fun j hj=>by
 obtain⟨q1,q2,q3,q4,q5⟩:=h.net hS;obtain⟨l,hl⟩:=q5 j hj;have h1:=q1.AN hj;have h2:=ha j hj;rw[hl,Cz]at *
 omega
theorem nD.clear{n:Nat}{S S' S'':Nat→Sr}(h1:nD n S S')(h2:nD n S' S'')(hS:ay n S)(ha:bX n S):∀i,i<n→(S'' i).its=[]:=fun i hi=>by
 apply Classical.byContradiction
 intro hne;obtain⟨p,hp⟩:=List.exists_mem_of_ne_nil _ hne;have hS':=(h1.net hS).1;have hS'':=(h2.net hS').1;have ha':=h1.AM hS ha;have ha'':=h2.AM hS' ha';have hto:=(hS''.one i hi).to p hp;obtain⟨T2,Ls',D',ht',d1',d2',rfl⟩:=h2;obtain⟨S2,Ls,D,ht,d1,d2,rfl⟩:=h1;have hp2:=fV i hp;obtain⟨q,hq,hqt,hqe⟩:=dh.1 ((ht'.its i hi p.to).mem_iff.1 (dh.2 ⟨p,hp2,rfl,rfl⟩));have hq2:=fV i (show q∈(aL S2 D i).its from hq);obtain⟨r,hr,hrt,hre⟩:=dh.1 ((ht.its i hi q.to).mem_iff.1 (dh.2 ⟨q,hq2,rfl,rfl⟩));obtain⟨L,hL,hLs,hLd,hLe⟩:=ht.all i hi r hr;have how:=jP (L:=L) (fun e=>by rw[e]at hLe;simp at hLe) (S:=S2) (d2 L hL);rw[hLs,hLd,hrt,hqt]at how
 obtain⟨M,hM,hMs,hMd⟩:=ht'.owed p.to hto.1 i how;have hh:=(ht'.ok M hM).2;rw[hMs,hMd]at hh
 have hcl:=iu (L:=M) (p:=p) (S:=T2) (d2' M hM) (by rw[hMd];exact hp) hMs.symm;rw[hh]at hcl
 have hcnt:aq (eC (aL S2 D p.to)).log i=aq (eC (aL S2 D i)).log i:=bX.cnt (S:=aL S2 D) ha' hS' hi hto.1;rw[hcnt]at hcl
 obtain⟨a,_,hw⟩:=hS'.wait i hi p.to hto.1 hto.2.1;have hmem:p.en∈(bT i (aL S2 D i).log).drop a:=hw.mem_iff.1 (dh.2 ⟨q,hq,hqt,hqe⟩);have hm:=dR.1 (List.mem_of_mem_drop hmem);have:=((hS'.one i hi).log.place hm.1).2.1;rw[hm.2]at this
 have e:aq (eC (aL S2 D i)).log i=aq (aL S2 D i).log i:=rfl;omega
def gh(n:Nat):Nat→(Nat→Sr)→(Nat→Sr)→Prop
 |0,S,S'=>S'=S
 |r+1,S,S'=>∃T,nD n S T∧gh n r T S'
theorem gh.snoc{n:Nat}:∀{r:Nat} {S S' S'':Nat→Sr},gh n r S S'→nD n S' S''→gh n (r+1) S S''
 |0,S,S',S'',h,h2=>by cases h;exact⟨S'',h2,rfl⟩
 |r+1,S,S',S'',⟨T,h1,h2⟩,h3=>⟨T,h1,gh.snoc h2 h3⟩
theorem gh.net{n:Nat}:∀{r:Nat} {S S3:Nat→Sr},gh n r S S3→ay n S→ay n S3∧(∀i,i<n→bT i (S3 i).log=bT i (S i).log)∧bn n S3=bn n S∧(∀j,j<n→min (bn n S) ((S j).log.length+r)≤(S3 j).log.length)∧∀j,j<n→∃l,(S3 j).log=(S j).log++l
 |0,S,S3,h,hS=>by
  cases h;exact⟨hS,fun _ _=>rfl,rfl,fun j _=>Nat.min_le_right _ _,fun j _=>⟨[],by simp⟩⟩
 |r+1,S,S3,⟨T,h1,h2⟩,hS=>by
  obtain⟨a1,a2,a3,a4,a5⟩:=h1.net hS;obtain⟨b1,b2,b3,b4,b5⟩:=gh.net h2 a1;refine⟨b1,fun i hi=>(b2 i hi).trans (a2 i hi),b3.trans a3,fun j hj=>?_,fun j hj=>?_⟩
  ·have h4:=a4 j hj;have h5:=b4 j hj;obtain⟨l,hl⟩:=a5 j hj;have h6:=hS.AN hj;have h7:(T j).log.length=(S j).log.length+l.length:=by rw[hl,Cz]
   omega
  obtain⟨l,hl⟩:=a5 j hj;obtain⟨m,hm⟩:=b5 j hj;exact⟨l++m,by rw[hm,hl,De]⟩
theorem gh.all{n r:Nat}{S S3:Nat→Sr}(h:gh n r S S3)(hS:ay n S)(hr:8*n≤r):bX n S3:=fun j hj=>by
 obtain⟨h1,_,h3,h4,_⟩:=h.net hS;have:=h4 j hj;have:=hS.Ch hj;have:=h1.AN hj;omega
def Sr.empty:Sr:=⟨[],0,[],fun _=>false⟩
theorem ay.empty(n:Nat):ay n (fun _=>Sr.empty):=⟨fun _ _=>⟨trivial,by simp[Sr.empty],by simp[Sr.empty],by simp[Sr.empty,aX],by simp[Sr.empty]⟩,by simp[Sr.empty],fun _ _ _ _ _=>⟨0,CB _,by simp[Sr.empty,bI,bT]⟩⟩
def bE(now:Nat)(p:It):It:=if h:p.due≤now∧now+1<1152921504606846976 then⟨now+1,p.to,p.en,h.2,p.ht⟩ else p
theorem oi(now:Nat)(p:It):(bE now p).to=p.to∧(bE now p).en=p.en:=by
 unfold bE;split <;> exact⟨rfl,rfl⟩
theorem mn(h:p.due≤now+1):(bE now p).due≤now+1:=by
 unfold bE;split
 ·exact Cl _
 exact h
theorem fR(now:Nat)(its:List It)(j:Nat):bI (its.map (bE now)) j=bI its j:=by
 unfold bI;rw[List.filter_map,List.map_map];have h1:((fun p:It=>decide (p.to=j)) ∘ bE now)=fun p:It=>decide (p.to=j):=funext fun p=>by simp[(oi now p).1]
 have h2:((fun p:It=>p.en) ∘ bE now)=fun p:It=>p.en:=funext fun p=>by simp[(oi now p).2]
 rw[h1,h2]
theorem gA{a b:List It}(h:a.Perm b)(j:Nat):(bI a j).Perm (bI b j):=(h.filter _).map _
structure dU(n i:Nat)(s s':Sr)(Ls:List Lt):Prop where
 log:s'.log=s.log
 now:s'.now=s.now
 its:s'.its.Perm (s.its.map (bE s.now))
 none:∀j,s'.owed j=false
 ok:∀L∈Ls,L.src=i∧L.dst<n∧L.dst≠i∧L.h=aq s.log L.dst∧∀x∈L.es,x∈bI s.its L.dst
 all:∀p∈s.its,p.due≤s.now→∃L∈Ls,L.dst=p.to∧p.en∈L.es
 owed:∀j,s.owed j=true→∃L∈Ls,L.dst=j
theorem ay.AX{n:Nat}{S:Nat→Sr}(hS:ay n S){i:Nat}(hi:i<n){x:En}(hx:x∈bI (S i).its j):x∈(S i).log∧x.org=i:=by
 obtain⟨p,hp,ht,_⟩:=dh.1 hx;have h:=(hS.one i hi).to p hp;rw[ht]at h
 obtain⟨a,_,hw⟩:=hS.wait i hi j h.1 h.2.1;exact dR.1 (List.mem_of_mem_drop (hw.mem_iff.1 hx))
theorem ay.lets{n:Nat}{S:Nat→Sr}(hS:ay n S){i:Nat}(hi:i<n){s':Sr}(h:dU n i (S i) s' Ls):∀L∈Ls,fB n S L∧L.h=aq (S L.src).log L.dst:=fun L hL=>by
 obtain⟨h1,h2,h3,h4,h5⟩:=h.ok L hL;refine⟨⟨by omega,h2,by omega,by rw[h1];omega,fun x hx=>?_⟩,by rw[h1];exact h4⟩;rw[h1];exact hS.AX hi (h5 x hx)
theorem ay.AV{n:Nat}{S:Nat→Sr}(hS:ay n S){i:Nat}(hi:i<n){s':Sr}(h:dU n i (S i) s' Ls):ay n (bR S i s'):=by
 refine hS.still (fun k hk=>?_) (fun k hk j=>?_) (fun k hk p hp=>?_) fun k hk j hj=>?_
 ·by_cases e:k=i
  ·subst e;rw[aD];exact h.log
  rw[az _ _ e]
 ·by_cases e:k=i
  ·subst e;rw[aD];have:=gA h.its j;rwa[fR]at this
  rw[az _ _ e]
 ·by_cases e:k=i
  ·subst e;rw[aD]at hp ⊢
   have:=h.its.mem_iff.1 hp;rw[CO]at this
   obtain⟨q,hq,rfl⟩:=this;rw[h.now];exact mn ((hS.one k hk).to q hq).2.2
  rw[az _ _ e]at hp ⊢;exact((hS.one k hk).to p hp).2.2
 by_cases e:k=i
 ·subst e;rw[aD,h.none j]at hj;simp at hj
 rwa[az _ _ e]at hj
theorem wZ{n:Nat}{S:Nat→Sr}(hS:ay n S){i:Nat}{s':Sr}(hl:s'.log=(S i).log)(hL:fB n S L):fB n (bR S i s') L:=hS.lt (fun k _=>⟨[],by
 by_cases e:k=i
 ·subst e;rw[aD,hl];simp
 rw[az _ _ e];simp⟩) hL
structure cE(n m:Nat)(S S':Nat→Sr)(Ls:List Lt):Prop where
 did:∀i,i<m→∃Li,dU n i (S i) (S' i) Li∧∀L∈Li,L∈Ls
 rest:∀i,m≤i→S' i=S i
 from':∀L∈Ls,∃i,i<m∧∃Li,dU n i (S i) (S' i) Li∧L∈Li
theorem cE.start(n:Nat)(S:Nat→Sr):cE n 0 S S []:=⟨fun i hi=>by omega,fun _ _=>rfl,by simp⟩
theorem cE.step{n:Nat}{S S':Nat→Sr}(h:cE n m S S' Ls){s':Sr}{Lm:List Lt}(hf:dU n m (S' m) s' Lm):cE n (m+1) S (bR S' m s') (Ls++Lm):=by
 rw[h.rest m (Cl _)]at hf;refine⟨fun i hi=>?_,fun i hi=>?_,fun L hL=>?_⟩
 ·by_cases e:i=m
  ·subst e;rw[aD];exact⟨Lm,hf,fun L hL=>List.mem_append_right _ hL⟩
  rw[az _ _ e];obtain⟨Li,h1,h2⟩:=h.did i (by omega);exact⟨Li,h1,fun L hL=>C8 _ (h2 L hL)⟩
 ·rw[az _ _ (by omega)];exact h.rest i (by omega)
 rcases CP.1 hL with hL|hL
 ·obtain⟨i,hi,Li,h1,h2⟩:=h.from' L hL
  exact⟨i,by omega,Li,by rw[az _ _ (by omega)];exact h1,h2⟩
 exact⟨m,by omega,Lm,by rw[aD];exact hf,hL⟩
theorem cE.net{n:Nat}{S S':Nat→Sr}(h:cE n m S S' Ls)(hS:ay n S):ay n S'∧∀i,i<n→(S' i).log=(S i).log:=by
 have hlog:∀i,i<n→(S' i).log=(S i).log:=fun i hi=>by
  by_cases e:i<m
  ·obtain⟨Li,h1,_⟩:=h.did i e;exact h1.log
  rw[h.rest i (by omega)]
 refine⟨hS.still hlog (fun i hi j=>?_) (fun i hi p hp=>?_) fun i hi j hj=>?_,hlog⟩
 ·by_cases e:i<m
  ·obtain⟨Li,h1,_⟩:=h.did i e;have:=gA h1.its j;rwa[fR]at this
  rw[h.rest i (by omega)]
 ·by_cases e:i<m
  ·obtain⟨Li,h1,_⟩:=h.did i e;have:=h1.its.mem_iff.1 hp;rw[CO]at this
   obtain⟨q,hq,rfl⟩:=this;rw[h1.now];exact mn ((hS.one i hi).to q hq).2.2
  rw[h.rest i (by omega)]at hp ⊢;exact((hS.one i hi).to p hp).2.2
 by_cases e:i<m
 ·obtain⟨Li,h1,_⟩:=h.did i e;rw[h1.none j]at hj;simp at hj
 rwa[h.rest i (by omega)]at hj
theorem cE.lt{n:Nat}{S S':Nat→Sr}(h:cE n m S S' Ls)(hS:ay n S)(hm:m≤n):∀L∈Ls,fB n S L∧L.h=aq (S L.src).log L.dst:=fun L hL=>by
 obtain⟨i,hi,Li,h1,h2⟩:=h.from' L hL
 exact hS.lets (by omega) h1 L h2
theorem cE.told{n:Nat}{S S':Nat→Sr}(h:cE n n S S' Ls)(hS:ay n S)(hdue:∀i,i<n→∀p∈(S i).its,p.due≤(S i).now):iz n S S' Ls:=by
 obtain⟨hn,hl⟩:=h.net hS;refine⟨hl,fun i hi j=>?_,fun i hi p hp=>((hn.one i hi).to p hp).2.2,fun i hi j=>?_,h.lt hS (Cl _),fun i hi p hp=>?_,fun i hi j hj=>?_⟩
 ·obtain⟨Li,h1,_⟩:=h.did i hi;have:=gA h1.its j;rwa[fR]at this
 ·obtain⟨Li,h1,_⟩:=h.did i hi;exact h1.none j
 ·obtain⟨Li,h1,h2⟩:=h.did i hi;obtain⟨L,hL,q⟩:=h1.all p hp (hdue i hi p hp);exact⟨L,h2 L hL,(h1.ok L hL).1,q⟩
 obtain⟨Li,h1,h2⟩:=h.did i hi;obtain⟨L,hL,q⟩:=h1.owed j hj;exact⟨L,h2 L hL,(h1.ok L hL).1,q⟩
theorem uY{n:Nat}{S:Nat→Sr}(hS:ay n S):∀i,i<n→∀p∈(eC (S i)).its,p.due≤(eC (S i)).now:=fun i hi p hp=>((hS.one i hi).to p hp).2.2
structure fq(now:Nat)(its0 its:List It)(ps rest:List It):Prop where
 all:its0.Perm (ps++rest)
 cur:its.Perm (rest++ps.map (bE now))
 due:∀p∈ps,p.due≤now
theorem fq.start(now:Nat)(its:List It):fq now its its [] its:=⟨Dw.refl _,by simp,by simp⟩
theorem fq.step(hb:now+1<1152921504606846976)(h:fq now its0 its ps rest){x:It}{its1 its2:List It}(h1:(x::its1).Perm its)(hx:x.due≤now)(h2:its2.Perm (its1++[bE now x])):∃rest',fq now its0 its2 (ps++[x]) rest':=by
 have hm:x∈rest++ps.map (bE now):=(h1.trans h.cur).mem_iff.1 (by simp);have hr:x∈rest:=by
  rcases CP.1 hm with hm|hm
  ·exact hm
  rw[CO]at hm;obtain⟨q,hq,rfl⟩:=hm;have:bE now q=⟨now+1,q.to,q.en,hb,q.ht⟩:=dif_pos ⟨h.due q hq,hb⟩;rw[this]at hx
  simp at hx;omega
 obtain⟨r1,r2,hsp⟩:=List.append_of_mem hr;have hp:rest.Perm (x::(r1++r2)):=by rw[hsp];exact List.perm_middle
 refine⟨r1++r2,?_,?_,fun p hp'=>?_⟩
 ·refine h.all.trans ?_;rw[De];exact hp.append_left ps
 ·have hc:(x::its1).Perm (x::((r1++r2)++ps.map (bE now))):=h1.trans (h.cur.trans (hp.append_right _));have hc':=Dw.cons_inv hc;refine h2.trans ?_;rw[Du,←De];exact hc'.append_right _
 rcases CP.1 hp' with h'|h'
 ·exact h.due p h'
 simp at h';subst h';exact hx
theorem fq.done(h:fq now its0 its ps rest)(hd:∀p∈its,now<p.due):its.Perm (its0.map (bE now))∧∀p,p∈its0→(p∈ps↔p.due≤now):=by
 have hr:∀p∈rest,now<p.due:=fun p hp=>hd p (h.cur.mem_iff.2 (C8 _ hp))
 refine⟨?_,fun p hp=>⟨h.due p,fun hle=>?_⟩⟩
 ·refine h.cur.trans ?_;have e:rest=rest.map (bE now):=by
   conv=>lhs;rw[←List.map_id rest]
   refine List.map_congr_left fun p hp=>?_
   have:=hr p hp;unfold bE;rw[dif_neg (by omega)]
   rfl
  have:(rest++ps.map (bE now))=rest.map (bE now)++ps.map (bE now):=by rw[←e]
  rw[this,←Du];exact((List.perm_append_comm).trans h.all.symm).map _
 rcases CP.1 (h.all.mem_iff.1 hp) with h'|h'
 ·exact h'
 have:=hr p h';omega
def bU(ps:List It)(t:Nat):List En:=(ps.filter fun p=>decide (p.to=t)).map fun p=>p.en
theorem uk(ps:List It)(x:It)(t:Nat):bU (ps++[x]) t=bU ps t++if x.to=t then[x.en] else[]:=by
 unfold bU;rw[List.filter_append,Du];by_cases h:x.to=t <;> simp[h]
theorem lF(h:fq now its0 its ps rest)(t:Nat):(bU ps t).length≤aX its0 t:=by
 have e:(bU ps t).length=aX ps t:=by simp[bU,aX,List.countP_eq_length_filter]
 rw[e];unfold aX;rw[h.all.countP_eq,List.countP_append];omega
structure cU where
 rb:Nat→Nat
 ev:Nat→Value
 wv:Nat→Value
 its:Nat→List It
def cU.foot(d:cU)(i b:Nat):Prop:=b=d.rb i∨(d.ev i).ownBlock=some b∨(d.wv i).ownBlock=some b
def cU.upd(d:cU)(i:Nat)(ev wv:Value)(its:List It):cU:=⟨d.rb,fun k=>if k=i then ev else d.ev k,fun k=>if k=i then wv else d.wv k,fun k=>if k=i then its else d.its k⟩
def cU.far(d:cU)(n b:Nat):Prop:=∀j,j<n→¬ d.foot j b
structure gy(W:World)(n:Nat)(S:Nat→Sr)(d:cU):Prop where
 rep:∀i,i<n→bp W (d.rb i) n i 0 (S i).log (S i).now (d.its i) (S i).owed (d.ev i) (d.wv i)
 perm:∀i,i<n→(d.its i).Perm (S i).its
 apart:∀i j,i<n→j<n→i≠j→∀b,d.foot i b→¬ d.foot j b
structure fP(n:Nat)(W:World)(d:cU)(W':World)(d':cU):Prop where
 os:W'.os=W.os
 tape:W'.tape=W.tape
 output:W'.output=W.output
 size:W.heap.size≤W'.heap.size
 rb:∀i,d'.rb i=d.rb i
 block:∀b,b<W.heap.size→d.far n b→W'.heap[b]?=W.heap[b]?
 far:∀b,b<W.heap.size→d.far n b→d'.far n b
section
variable {W W' W'':World} {n:Nat} {S:Nat→Sr} {d d' d'':cU} {i:Nat}
theorem fP.below(hb:Below W.heap.size W W')(d:cU):fP n W d W' d:=⟨hb.os,hb.tape,hb.output,hb.size,fun _=>rfl,fun b h _=>hb.block b h,fun _ _ h=>h⟩
theorem gy.lt(h:gy W n S d)(hi:i<n){b:Nat}(hf:d.foot i b):b<W.heap.size:=by
 rcases hf with rfl|hf|hf
 ·exact(h.rep i hi).lt
 ·exact((h.rep i hi).erow.lt b hf).2
 exact((h.rep i hi).wrow.lt b hf).2
theorem gy.keep(h:gy W n S d){X:List (Option Nat)}(hu:an X W W')(hX:∀i,i<n→∀b,d.foot i b→some b∉X):gy W' n S d:=⟨fun i hi=>(h.rep i hi).keep hu (hX i hi _ (.inl rfl)) (fun b hb=>hX i hi b (.inr (.inl hb))) fun b hb=>hX i hi b (.inr (.inr hb)),h.perm,h.apart⟩
theorem gy.below(h:gy W n S d)(hb:Below W.heap.size W W'):gy W' n S d:=h.keep (an.of_below (S:=[]) hb) (by simp)
theorem gy.step(h:gy W n S d)(hi:i<n){s':Sr}{its':List It}{ev' wv':Value}(hu:an [some (d.rb i),(d.ev i).ownBlock,(d.wv i).ownBlock] W W')(hr:bp W' (d.rb i) n i 0 s'.log s'.now its' s'.owed ev' wv')(hp:its'.Perm s'.its)(he:∀b,ev'.ownBlock=some b→(d.ev i).ownBlock=some b∨W.heap.size≤b)(hw:∀b,wv'.ownBlock=some b→(d.wv i).ownBlock=some b∨W.heap.size≤b):gy W' n (bR S i s') (d.upd i ev' wv' its')∧fP n W d W' (d.upd i ev' wv' its'):=by
 have hmem:∀b,some b∈[some (d.rb i),(d.ev i).ownBlock,(d.wv i).ownBlock]↔d.foot i b:=fun b=>by
  simp only[Co,Cq,or_false,Option.some.injEq,cU.foot];exact⟨fun h=>h.imp id (Or.imp Eq.symm Eq.symm),fun h=>h.imp id (Or.imp Eq.symm Eq.symm)⟩
 have hfo:∀j,j≠i→∀b,(d.upd i ev' wv' its').foot j b↔d.foot j b:=fun j hj b=>by simp[cU.foot,cU.upd,hj]
 have hfi:∀b,(d.upd i ev' wv' its').foot i b→d.foot i b∨W.heap.size≤b:=fun b hf=>by
  simp only[cU.foot,cU.upd,if_pos]at hf;rcases hf with hf|hf|hf
  ·exact .inl (.inl hf)
  ·exact(he b hf).imp (fun h=>.inr (.inl h)) id
  exact(hw b hf).imp (fun h=>.inr (.inr h)) id
 refine⟨⟨fun j hj=>?_,fun j hj=>?_,fun j k hj hk hjk b hf hf'=>?_⟩,hu.os,hu.tape,hu.output,hu.size,fun _=>rfl,fun b hb hf=>hu.block b hb fun hm=>hf i hi ((hmem b).1 hm),fun b hb hf j hj hf'=>?_⟩
 ·by_cases e:j=i
  ·subst e;rw[aD];simp only[cU.upd,if_pos];exact hr
  rw[az _ _ e];simp only[cU.upd,if_neg e];exact(h.rep j hj).keep hu (fun hm=>h.apart j i hj hi e _ (.inl rfl) ((hmem _).1 hm)) (fun b hb hm=>h.apart j i hj hi e b (.inr (.inl hb)) ((hmem _).1 hm)) fun b hb hm=>h.apart j i hj hi e b (.inr (.inr hb)) ((hmem _).1 hm)
 ·by_cases e:j=i
  ·subst e;rw[aD];simp only[cU.upd,if_pos];exact hp
  rw[az _ _ e];simp only[cU.upd,if_neg e];exact h.perm j hj
 ·by_cases e:j=i
  ·subst e;have hf':=(hfo k (Ne.symm hjk) b).1 hf';rcases hfi b hf with hf|hf
   ·exact h.apart j k hj hk hjk b hf hf'
   have:=h.lt hk hf';omega
  have hg:=(hfo j e b).1 hf;by_cases e2:k=i
  ·subst e2;rcases hfi b hf' with hf'|hf'
   ·exact h.apart j k hj hk hjk b hg hf'
   have:=h.lt hj hg;omega
  exact h.apart j k hj hk hjk b hg ((hfo k e2 b).1 hf')
 by_cases e:j=i
 ·subst e;rcases hfi b hf' with h1|h1
  ·exact hf j hj h1
  omega
 exact hf j hj ((hfo j e b).1 hf')
end
end
section
open Go.Shelf Go.RowKit Go.Lib Go.Sort Go.Proofs
variable {g k:Nat} {w:World}
def nw(o:Option En)(f:En→Nat):Nat:=match o with|some x=>f x|none=>0
def zT(o:Option En):ByteArray:=match o with|some x=>x.c.word|none=>ByteArray.empty
def kD(o:Option En):List Value:=[.int .i64 ((nw o fun x=>x.org:Nat):Int),.int .i64 ((nw o fun x=>x.seq:Nat):Int),.int .i64 ((nw o fun x=>x.ah.a:Nat):Int),.int .i64 ((nw o fun x=>x.ah.b:Nat):Int),.int .i64 ((nw o fun x=>x.ah.c:Nat):Int),.int .i64 ((nw o fun x=>x.ah.d:Nat):Int),.int .i64 ((nw o fun x=>x.ah.e:Nat):Int),.int .i64 ((nw o fun x=>x.c.k.num:Nat):Int),.string (zT o),.int .i64 ((nw o fun x=>x.c.count:Nat):Int)]
def yT(x y:Option En):Int:=Lib.compareInt ((nw x fun x=>x.seq:Nat):Int) ((nw y fun x=>x.seq:Nat):Int)
theorem Ad(x y:Option En):ltOf yT x y=decide (((nw x fun x=>x.seq:Nat):Int)<((nw y fun x=>x.seq:Nat):Int)):=by
 unfold ltOf yT Lib.compareInt;generalize ((nw x fun x=>x.seq:Nat):Int)=a;generalize ((nw y fun x=>x.seq:Nat):Int)=b;by_cases h1:a<b
 ·simp[h1]
 by_cases h2:b<a <;> simp[h1,h2]
theorem zV:SWO (ltOf yT) where
 irrefl x:=by rw[Ad];simp
 trans x y z h1 h2:=by rw[Ad]at *;simp at *;omega
 ntrans x y z h1 h2:=by rw[Ad]at *;simp at *;omega
theorem wH(x y:Option En)(W:World):Calls Tryz.prog 140 #[.agg (kD x).toArray,.agg (kD y).toArray] W fun e w'=>e=.returned (.int .i64 (yT x y))∧∃q os',w'=grow (W.drewN q) os':=by
 have hcon:=fun W'=>AnyG.cmp_Compare_int Tryz.cmpInt ((nw x fun x=>x.seq:Nat):Int) ((nw y fun x=>x.seq:Nat):Int) W'
 change ∀W',Calls Tryz.prog 141 _ _ _ at hcon
 unfold yT;generalize Lib.compareInt ((nw x fun x=>x.seq:Nat):Int) ((nw y fun x=>x.seq:Nat):Int)=r at hcon ⊢;unfold kD;generalize nw x=ex at *;generalize nw y=ey at *;generalize zT x=wx at *;generalize zT y=wy at *;go_enter Tryz.func140,Tryz.ntmps140
 go_wp2_with (go_at_call 141;refine(hcon _).mono ?_;rintro e w' ⟨rfl,rfl⟩)
 go_ret
 exact⟨rfl,0,_,by rw[alloc_eq_grow,alloc_eq_grow,grow_grow];rfl⟩
theorem wG(blk off size:Nat)(w:World):CmpLays Tryz.prog 140 #[] kD 10 yT blk off size w:=fun _ _ _ _ x y=>wH x y _
theorem zw(n:Nat)(W:World)(h:n≤12):Calls Tryz.prog 161 #[.int .u64 n] W fun e w'=>(∃l:Int,e=.returned (.int .i64 l))∧w'=W:=(Any.bits_Len Tryz.bitsLen2 n W (by omega) (by omega)).mono fun _ _ ⟨he,hw⟩=>⟨⟨_,he⟩,hw⟩
theorem sY(es:List En){t:Nat}(ht:t<es.length*10):(aP es)[t]?=some ((flatK kD 10 (es.map some).toArray)[t]!):=by
 have hd:t / 10<es.length:=by omega
 have hm:t % 10<10:=Nat.mod_lt _ (by omega);have h1:=ou es hd hm;rw[Nat.div_add_mod' t 10]at h1
 rw[h1,get_flatK _ _ _ _ (by simpa using ht)];have h2:(es.map some).toArray[t / 10]! = some es[t / 10]:=by
  rw[getElem!_pos _ _ (by simpa using hd)];simp
 rw[h2];have h3:kD (some es[t / 10])=es[t / 10].cells:=rfl;rw[h3,getElem!_pos _ _ (by rw[En.Aw];exact hm),List.getElem?_eq_getElem (by rw[En.Aw];exact hm)]
theorem jK{os:Array Obj}(h:k<w.heap.size):(grow w os).heap[k]?=w.heap[k]?:=by
 unfold grow;exact Array.getElem?_append_left h
theorem kW{cur:Array Value}{T:TypeId}{fr:Nat×Nat}(h:w.heap[g]?=some (.cells cur T fr))(F:Array Value):(putRow id w g 0 F).heap[g]?=some (.cells (putCells id 0 F cur) T fr):=by
 unfold putRow mapBlock;simp[Array.getElem?_modify,h,onCells]
theorem my(hk:k≠g)(F:Array Value):(putRow id w g 0 F).heap[k]?=w.heap[k]?:=by
 unfold putRow mapBlock;simp[Array.getElem?_modify,Ne.symm hk]
theorem vp(B g cap:Nat)(es:List En)(hl:es.length≤12)(w:World)(ho:w.ownsRow B 122 10 (.slice (some ⟨g,0,none⟩) es.length cap) es.length (aP es)):Calls Tryz.prog 139 #[.slice (some ⟨g,0,none⟩) es.length cap,.func (.func 140) #[] #[]] w fun e w'=>e=.returned (.tuple #[])∧∃es',es'.Perm es∧w'.ownsRow B 122 10 (.slice (some ⟨g,0,none⟩) es.length cap) es.length (aP es')∧an [some g] w w':=by
 rcases ho.2 with⟨h1,-⟩|⟨g',cap',cur,h1,hb,hg,hle,hm,hs,ht⟩
 ·cases h1
 cases h1;have hH:HoldsK kD 10 w g 0 (es.map some).toArray:=fun j hj=>by
  have hj':j<es.length*10:=by simpa using hj
  refine⟨?_,frozen_of_heap hg _⟩;rw[cell_of_heap hg,CJ];have h2:cur.toList[j]?=(aP es)[j]?:=by rw[←ht,DA hj']
  rw[sY es hj',DI]at h2;exact h2
 have hsz:(es.map some).toArray.size=es.length:=by simp
 have hgl:=(Cn.1 hg).1;have eg:∀args w,(callFunc 140 args).run Tryz.prog w=.ok (.enter 140 args) w:=enters_of Tryz.func140 (by kernel_rfl) rfl
 have hcon:=AnyQ.slices_SortFunc_small_sorted Tryz.sortEn 10 Tryz.isAgg122 Tryz.sizeOf122 kD (fun _=>rfl) (fun x v hv=>by
  simp only[kD,Co,Cq,or_false]at hv;rcases hv with rfl|rfl|rfl|rfl|rfl|rfl|rfl|rfl|rfl|rfl <;> rfl) yT 140 #[] zV g 0 cap (es.map some).toArray w eg (wG g 0 _ w) hH hgl (by rw[hsz];exact hl) zw
 rw[hsz]at hcon;refine Calls.mono hcon ?_;rintro e w' ⟨rfl,d',n,os,hP,-,rfl⟩
 refine⟨rfl,?_⟩;obtain⟨hps,-,hpp⟩:=hP;rw[hsz]at hps
 have e1:(d'.extract 0 es.length).toList=d'.toList:=by rw[←hps];simp
 have e2:((es.map some).toArray.extract 0 es.length).toList=es.map some:=by
  have:((es.map some).toArray.extract 0 (es.map some).toArray.size).toList=es.map some:=by rw[Array.extract_size]
  rwa[hsz]at this
 rw[e1,e2]at hpp;obtain⟨es',he'⟩:∃es':List En,d'.toList=es'.map some:=by
  refine⟨d'.toList.filterMap id,?_⟩;have hall:∀o∈d'.toList,∃x,o=some x:=fun o ho=>by
   have:=hpp.mem_iff.1 ho;rw[CO]at this
   obtain⟨x,-,rfl⟩:=this;exact⟨x,rfl⟩
  generalize d'.toList=l at hall
  induction l with
  |nil=>rfl
  |cons o l ih =>
   obtain⟨x,rfl⟩:=hall o (by simp);simp;exact ih fun o ho=>hall o (by simp[ho])
 have hperm:es'.Perm es:=by
  rw[he']at hpp;have:=hpp.filterMap id;rw[List.filterMap_map,List.filterMap_map]at this
  simpa using this
 have hlen:=hperm.length_eq;have hd':d'=(es'.map some).toArray:=by rw[←he']
 subst hd';refine⟨es',hperm,⟨by rw[jO,hlen],.inr ⟨g,cap,putCells id 0 (flatK kD 10 (es'.map some).toArray) cur,rfl,hb,?_,hle,hm,?_,?_⟩⟩,?_⟩
 ·unfold sortWorldK putRowK;rw[jK]
  ·exact kW (show(Sort.ahead w n).heap[g]?=_ from hg) _
  have:=(Cn.1 (kW (show(Sort.ahead w n).heap[g]?=_ from hg) (flatK kD 10 (es'.map some).toArray))).1;exact this
 ·unfold putCells;rw[Array.size_mapIdx];exact hs
 ·apply List.ext_getElem?
  intro t;by_cases htt:t<es.length*10
  ·rw[DA htt,DI,sY es' (by rw[hlen];exact htt)];unfold putCells;rw[Array.getElem?_mapIdx];have hc:t<cur.size:=by have:es.length*10≤cap*10:=Nat.mul_le_mul_right _ hle;omega
   rw[Array.getElem?_eq_getElem hc];simp only[Option.map_some,CB,CJ,size_flatK,List.size_toArray,Dx,true_and,Nat.sub_zero,id];rw[if_pos (by rw[hlen];exact htt)]
  rw[List.getElem?_take_eq_none (by omega),List.getElem?_eq_none (by rw[jO,hlen];omega)]
 have hp:(putRow id (Sort.ahead w n) g 0 (flatK kD 10 (es'.map some).toArray)).heap.size=w.heap.size:=by unfold putRow mapBlock;simp[Sort.ahead]
 unfold sortWorldK putRowK;refine⟨rfl,rfl,rfl,?_,fun k hk hne=>?_⟩
 ·have:(grow (putRow id (Sort.ahead w n) g 0 (flatK kD 10 (es'.map some).toArray)) os).heap.size=w.heap.size+os.size:=by unfold grow;simp[hp]
  omega
 rw[jK (by rw[hp];exact hk),my (by simpa using hne)]
 rfl
theorem nr(fv:Value)(w:World):Calls Tryz.prog 188 #[.slice none 0 0,.int .i64 0,.int .i64 0,fv] w fun e w'=>e=.returned (.tuple #[])∧w'=w:=by
 go_enter Tryz.func188,Tryz.ntmps188
 go_wp2
 refine wp_loop_rounds 1 ?_;rw[rounds_succ];go_wp2
 go_end0
 exact⟨rfl,rfl⟩
theorem xo(l:Int)(fv:Value)(w:World):Calls Tryz.prog 165 #[.slice none 0 0,.int .i64 0,.int .i64 0,.int .i64 l,fv] w fun e w'=>e=.returned (.tuple #[])∧w'=w:=by
 have HX:Hid (Calls Tryz.prog 188 #[.slice none 0 0,.int .i64 0,.int .i64 0,fv] w fun e w'=>e=.returned (.tuple #[])∧w'=w):=nr fv w;go_enter Tryz.func165,Tryz.ntmps165
 go_wp2
 refine wp_loop_rounds 1 ?_;rw[rounds_succ];go_wp2_with (go_at_call 188;refine HX.out.mono ?_;rintro e w' ⟨rfl,rfl⟩)
 (try simp only[Exit.inBlock,Exit.then]);refine bodyPost_ret (results_none rfl _ _ _) rfl ?_;exact⟨rfl,rfl⟩
theorem vq(fv:Value)(w:World):Calls Tryz.prog 139 #[.slice none 0 0,fv] w fun e w'=>e=.returned (.tuple #[])∧w'=w:=by
 have HX:Hid (∀l,Calls Tryz.prog 165 #[.slice none 0 0,.int .i64 0,.int .i64 0,.int .i64 l,fv] w fun e w'=>e=.returned (.tuple #[])∧w'=w):=fun l=>xo l fv w
 have HL:Hid (Calls Tryz.prog 161 #[.int .u64 0] w fun e w'=>(∃l:Int,e=.returned (.int .i64 l))∧w'=w):=zw 0 w (by omega);go_enter Tryz.func139,Tryz.ntmps139
 go_wp2_with (first
  |(go_at_call 161;refine HL.out.mono ?_;rintro e w' ⟨⟨l,rfl⟩,rfl⟩)
  |(go_at_call 165;refine(HX.out _).mono ?_;rintro e w' ⟨rfl,rfl⟩))
 go_end0
 exact⟨rfl,rfl⟩
theorem zo(B:Nat)(v:Value)(es:List En)(hl:es.length≤12)(w:World)(ho:w.ownsRow B 122 10 v es.length (aP es)):Calls Tryz.prog 139 #[v,.func (.func 140) #[] #[]] w fun e w'=>e=.returned (.tuple #[])∧∃es',es'.Perm es∧w'.ownsRow B 122 10 v es.length (aP es')∧an [v.ownBlock] w w':=by
 rcases id ho.2 with⟨h1,h0⟩|⟨g,cap,cur,h1,-⟩
 ·subst h1;refine(vq _ w).mono ?_;rintro e w' ⟨rfl,rfl⟩
  exact⟨rfl,es,Dw.refl _,ho,an.refl _ _⟩
 subst h1;exact vp B g cap es hl w ho
end
section
open Go.RowKit Go.Proofs
variable {t:Nat}
structure eH(W:World)(db:Nat)(D:Nat→List En)(vs:Nat→Value):Prop where
 blk:W.heap[db]?=some (.cells #[vs 0,vs 1,vs 2,vs 3,vs 4] 196 (0,0))
 row:∀t,t<5→W.ownsRow (db+1) 122 10 (vs t) (D t).length (aP (D t))
 apart:∀t u,t<5→u<5→t≠u→∀b,(vs t).ownBlock=some b→(vs u).ownBlock≠some b
theorem qP(vs:Nat→Value)(h:t<5):(#[vs 0,vs 1,vs 2,vs 3,vs 4]:Array Value)[t]?=some (vs t):=by
 rcases(show t=0∨t=1∨t=2∨t=3∨t=4 by omega) with rfl|rfl|rfl|rfl|rfl <;> rfl
theorem wu(vs:Nat→Value)(h:t<5)(v:Value):(#[vs 0,vs 1,vs 2,vs 3,vs 4]:Array Value).setIfInBounds t v=#[if 0=t then v else vs 0,if 1=t then v else vs 1,if 2=t then v else vs 2,if 3=t then v else vs 3,if 4=t then v else vs 4]:=by
 rcases(show t=0∨t=1∨t=2∨t=3∨t=4 by omega) with rfl|rfl|rfl|rfl|rfl <;> simp
section
variable {W W':World} {db:Nat} {D:Nat→List En} {vs:Nat→Value}
theorem eH.keep(h:eH W db D vs){S:List (Option Nat)}(hu:an S W W')(h1:some db∉S)(h2:∀t,t<5→∀b,(vs t).ownBlock=some b→some b∉S):eH W' db D vs:=⟨(hu.block db (Cn.1 h.blk).1 h1).trans h.blk,fun t ht=>hu.owns (h.row t ht) (h2 t ht),h.apart⟩
theorem eH.cell(h:eH W db D vs){t:Nat}(ht:t<5):W.cell? ⟨db,t,none⟩=some (vs t):=by rw[cell_of_heap h.blk];exact qP vs ht
theorem eH.push(h:eH W db D vs)(ht:t<5){x:En}{g cap:Nat}(ho:W'.ownsRow (db+1) 122 10 (.slice (some ⟨g,0,none⟩) ((D t).length+1) cap) ((D t).length+1) (aP (D t)++x.cells))(hat:(vs t).ownBlock=some g∨W.heap.size≤g)(hu:an [(vs t).ownBlock] W W'):eH (W'.setCell ⟨db,t,none⟩ (.slice (some ⟨g,0,none⟩) ((D t).length+1) cap)) db (fun u=>if u=t then D t++[x] else D u) (fun u=>if u=t then .slice (some ⟨g,0,none⟩) ((D t).length+1) cap else vs u):=by
 have hdl:=(Cn.1 h.blk).1;have hgd:db<g:=by
  rcases hat with h1|h1
  ·exact aU (h.row t ht) h1
  omega
 have hdb:W'.heap[db]?=some (.cells #[vs 0,vs 1,vs 2,vs 3,vs 4] 196 (0,0)):=(hu.block db hdl fun hm=>by
  simp only[Co,Cq,or_false]at hm;have:=aU (h.row t ht) hm.symm;omega).trans h.blk
 refine⟨?_,fun u hu5=>?_,fun u v hu5 hv5 huv b hb=>?_⟩
 ·rw[ae hdb,wu vs ht]
 ·by_cases e:u=t
  ·subst e;simp only[if_pos];rw[Cz,jq];exact ai ho (fun b hb=>by cases hb;show g≠db;omega) _
  simp only[if_neg e];refine ai (hu.owns (h.row u hu5) fun b hb hm=>?_) (fun b hb=>by have:=aU (h.row u hu5) hb;show b≠db;omega) _;simp only[Co,Cq,or_false]at hm;exact h.apart u t hu5 ht e b hb hm.symm
 have hnew:∀w',w'<5→w'≠t→(vs w').ownBlock≠some g:=fun w' hw hne e=>by
  rcases hat with h1|h1
  ·exact h.apart w' t hw ht hne g e h1
  have:=(h.row w' hw).lt g e;omega
 by_cases eu:u=t
 ·subst eu;simp only[if_pos]at hb;have hbg:b=g:=by cases hb;rfl
  subst hbg;simp only[if_neg (Ne.symm huv)];exact hnew v hv5 (Ne.symm huv)
 simp only[if_neg eu]at hb;by_cases ev:v=t
 ·subst ev;simp only[if_pos];intro e;have:g=b:=by cases e;rfl
  subst this;exact hnew u hu5 eu hb
 simp only[if_neg ev];exact h.apart u v hu5 hv5 huv b hb
theorem eH.start(hb:W.heap[db]?=some (.cells #[.slice none 0 0,.slice none 0 0,.slice none 0 0,.slice none 0 0,.slice none 0 0] 196 (0,0))):eH W db (fun _=>[]) (fun _=>.slice none 0 0):=⟨hb,fun _ _=>⟨rfl,.inl ⟨rfl,rfl⟩⟩,fun _ _ _ _ _ _ hb=>by simp[Cp]at hb⟩
theorem eH.congr(h:eH W db D vs){D':Nat→List En}(he:∀t,t<5→D' t=D t):eH W db D' vs:=⟨h.blk,fun t ht=>by rw[he t ht];exact h.row t ht,h.apart⟩
end
structure eG(w:World)(rb:Nat)(C:Array Value)(T:TypeId)(wv0:Value)(now:Nat)(its0:List It)(db:Nat)(W:World)(its ps:List It)(wv:Value)(vs:Nat→Value):Prop where
 q:gQ W rb (C.setIfInBounds 11 wv) T wv its
 heap:aH 0 its.length (kF its)
 pop:∃rest,fq now its0 its ps rest
 own:∀b,wv.ownBlock=some b→wv0.ownBlock=some b∨db<b
 due:eH W db (bU ps) vs
 far:∀t,t<5→∀b,(vs t).ownBlock=some b→wv.ownBlock≠some b
 upd:an [some rb,wv0.ownBlock] w W
 res:W.heap[w.heap.size]?=some (.cells #[.slice none 0 0,.slice none 0 0,.slice none 0 0,.slice none 0 0,.slice none 0 0] 196 (0,0))
theorem fq.len{now:Nat}{its0 its ps rest:List It}(h:fq now its0 its ps rest):its.length=its0.length:=by
 rw[h.cur.length_eq,h.all.length_eq,Cz,Cz,Dx];omega
theorem gQ.drewN{w:World}{rb:Nat}{C:Array Value}{T:TypeId}{wv:Value}{its:List It}(h:gQ w rb C T wv its)(k:Nat):gQ (w.drewN k) rb C T wv its:=⟨h.rbk,h.c11,h.row,h.ne⟩
theorem eG.drewN{w:World}{rb:Nat}{C:Array Value}{T:TypeId}{wv0:Value}{now:Nat}{its0:List It}{db:Nat}{W:World}{its ps:List It}{wv:Value}{vs:Nat→Value}(h:eG w rb C T wv0 now its0 db W its ps wv vs)(k:Nat):eG w rb C T wv0 now its0 db (W.drewN k) its ps wv vs:=⟨h.q.drewN k,h.heap,h.pop,h.own,⟨h.due.blk,h.due.row,h.due.apart⟩,h.far,h.upd.drewN k,h.res⟩
def lenAt(W:World)(db t:Nat):Nat:=match W.cell? ⟨db,t,none⟩ with|some (.slice _ n _)=>n|_=>0
theorem eH.lenAt{W:World}{db:Nat}{D:Nat→List En}{vs:Nat→Value}(h:eH W db D vs){t:Nat}(ht:t<5):lenAt W db t=(D t).length:=by
 obtain⟨p,c,hv⟩:=aW (h.row t ht);unfold Go.Proofs.YtckmppkdpnhodaaGreatDoor.lenAt;rw[h.cell ht,hv]
theorem wo(ps:List It):(bU ps 0).length+(bU ps 1).length+(bU ps 2).length+(bU ps 3).length+(bU ps 4).length=ps.length:=by
 induction ps with
 |nil=>rfl
 |cons p ps ih =>
  have e:∀t,(bU (p::ps) t).length=(bU ps t).length+if p.to=t then 1 else 0:=fun t=>by
   unfold bU;rw[List.filter_cons];by_cases h:p.to=t <;> simp[h]
  rw[e,e,e,e,e,CR];have:=p.ht;rcases(show p.to=0∨p.to=1∨p.to=2∨p.to=3∨p.to=4 by omega) with h|h|h|h|h <;> simp[h] <;> omega
def popAt(W:World)(db:Nat):Nat:=lenAt W db 0+lenAt W db 1+lenAt W db 2+lenAt W db 3+lenAt W db 4
theorem eG.popAt{w:World}{rb:Nat}{C:Array Value}{T:TypeId}{wv0:Value}{now:Nat}{its0:List It}{db:Nat}{W:World}{its ps:List It}{wv:Value}{vs:Nat→Value}(h:eG w rb C T wv0 now its0 db W its ps wv vs):popAt W db=ps.length∧ps.length≤its0.length:=by
 refine⟨?_,?_⟩
 ·unfold Go.Proofs.YtckmppkdpnhodaaGreatDoor.popAt;rw[h.due.lenAt (by omega),h.due.lenAt (by omega),h.due.lenAt (by omega),h.due.lenAt (by omega),h.due.lenAt (by omega),wo]
 obtain⟨rest,hp⟩:=h.pop;rw[hp.all.length_eq,Cz];omega
theorem qz{its:List It}(hh:aH 0 its.length (kF its)){now:Nat}(h:its=[]∨now<kF its 0):∀p∈its,now<p.due:=fun p hp=>by
 rcases h with h|h
 ·rw[h]at hp;simp at hp
 obtain⟨i,hi,rfl⟩:=List.mem_iff_getElem.1 hp;have:=hh.root i hi;rw[fY hi]at this
 omega
section
variable {w w1 w2 w3 w6 w7 w8:World} {rb:Nat} {C:Array Value} {T:TypeId} {wv0:Value} {now:Nat} {its0:List It} {db:Nat} {its ps its1 its2:List It} {wv:Value} {vs:Nat→Value} {x:It} {g1 cap1 g5 cap5 m g8 cap8:Nat}
theorem eG.blocks(h:eG w rb C T wv0 now its0 db w1 its ps wv vs)(hrl:rb<w.heap.size)(hdb:w.heap.size≤db)(hwl:∀b,wv0.ownBlock=some b→b<w.heap.size)(q2:nE w1 rb (C.setIfInBounds 11 wv) T wv its1 g1 cap1 w2)(hs3:w3.heap.size=w2.heap.size+1)(hg5:(vs x.to).ownBlock=some g5∨w3.heap.size<g5):(wv0.ownBlock=some g1∨db<g1)∧g1≠db∧g1<w2.heap.size∧∀t,t<5→∀b,(if t=x.to then(Value.slice (some ⟨g5,0,none⟩) m cap5) else vs t).ownBlock=some b→db<b∧b≠g1∧b≠w2.heap.size:=by
 have hs2:=q2.upd.size;have hdl:db<w1.heap.size:=(Cn.1 h.due.blk).1;have hg1:g1<w2.heap.size:=(q2.row.lt g1 rfl).2;have ho1:wv0.ownBlock=some g1∨db<g1:=by
  rcases q2.own with h1|h1
  ·exact h.own g1 h1
  exact .inr (by omega)
 have hold:∀t,t<5→∀b,(vs t).ownBlock=some b→db<b∧b≠g1∧b≠w2.heap.size:=fun t ht b hb=>by
  have h1:=aU (h.due.row t ht) hb;have h2:=((h.due.row t ht).lt b hb).2;refine⟨h1,fun e=>?_,by omega⟩;subst e;rcases q2.own with h3|h3
  ·exact h.far t ht b hb h3
  omega
 refine⟨ho1,fun e=>?_,hg1,fun t ht b hb=>?_⟩
 ·rcases ho1 with h1|h1
  ·have:=hwl g1 h1;omega
  omega
 by_cases e:t=x.to
 ·rw[if_pos e]at hb;have hbg:b=g5:=by cases hb;rfl
  subst hbg;rcases hg5 with h5|h5
  ·exact hold x.to x.ht b h5
  exact⟨by omega,by omega,by omega⟩
 rw[if_neg e]at hb;exact hold t ht b hb
theorem eG.q7(h:eG w rb C T wv0 now its0 db w1 its ps wv vs)(hrl:rb<w.heap.size)(hdb:w.heap.size≤db)(hwl:∀b,wv0.ownBlock=some b→b<w.heap.size)(q2:nE w1 rb (C.setIfInBounds 11 wv) T wv its1 g1 cap1 w2)(hs3:w3.heap.size=w2.heap.size+1)(hq3:gQ w3 rb (C.setIfInBounds 11 (.slice (some ⟨g1,0,none⟩) its1.length cap1)) T (.slice (some ⟨g1,0,none⟩) its1.length cap1) its1)(u6:an [(vs x.to).ownBlock,some db] w3 w6)(u7:an [some w2.heap.size] w6 w7):gQ w6 rb (C.setIfInBounds 11 (.slice (some ⟨g1,0,none⟩) its1.length cap1)) T (.slice (some ⟨g1,0,none⟩) its1.length cap1) its1∧gQ w7 rb (C.setIfInBounds 11 (.slice (some ⟨g1,0,none⟩) its1.length cap1)) T (.slice (some ⟨g1,0,none⟩) its1.length cap1) its1:=by
 have hs2:=q2.upd.size;have hdl:db<w1.heap.size:=(Cn.1 h.due.blk).1;obtain⟨b1,b2,b3,b4⟩:=h.blocks (m:=0) (cap5:=0) (x:=x) (g5:=w3.heap.size+1) hrl hdb hwl q2 hs3 (.inr (by omega));have hold:∀b,(vs x.to).ownBlock=some b→db<b∧b≠g1:=fun b hb=>by
  have h1:=aU (h.due.row x.to x.ht) hb;have h2:=((h.due.row x.to x.ht).lt b hb).2;refine⟨h1,fun e=>?_⟩;subst e;rcases q2.own with h3|h3
  ·exact h.far x.to x.ht b hb h3
  omega
 have q6:gQ w6 rb (C.setIfInBounds 11 (.slice (some ⟨g1,0,none⟩) its1.length cap1)) T (.slice (some ⟨g1,0,none⟩) its1.length cap1) its1:=by
  refine⟨(u6.block rb (by omega) fun hm=>?_).trans hq3.rbk,hq3.c11,u6.owns hq3.row fun b hb hm=>?_,hq3.ne⟩
  ·simp only[Co,Cq,or_false,Option.some.injEq]at hm;rcases hm with hm|hm
   ·have:=(hold rb hm.symm).1;omega
   omega
  have hbg:b=g1:=by cases hb;rfl
  subst hbg;simp only[Co,Cq,or_false,Option.some.injEq]at hm;rcases hm with hm|hm
  ·exact(hold b hm.symm).2 rfl
  exact b2 hm
 refine⟨q6,(u7.block rb (by have:=u6.size;omega) (by simp;omega)).trans q6.rbk,q6.c11,u7.owns q6.row fun b hb hm=>?_,q6.ne⟩;have hbg:b=g1:=by cases hb;rfl
 subst hbg;simp at hm;omega
theorem eG.step(h:eG w rb C T wv0 now its0 db w1 its ps wv vs)(hrl:rb<w.heap.size)(hdb:w.heap.size<db)(hwl:∀b,wv0.ownBlock=some b→b<w.heap.size)(hnow:now+1<1152921504606846976)(hCs:11<C.size)(q2:nE w1 rb (C.setIfInBounds 11 wv) T wv its1 g1 cap1 w2)(qp:(x::its1).Perm its)(qd:x.due≤now)(hbl3:Below w2.heap.size w2 w3)(hs3:w3.heap.size=w2.heap.size+1)(hD6:eH w6 db (bU (ps++[x])) (fun u=>if u=x.to then .slice (some ⟨g5,0,none⟩) m cap5 else vs u))(u6:an [(vs x.to).ownBlock,some db] w3 w6)(hg5:(vs x.to).ownBlock=some g5∨w3.heap.size<g5)(u7:an [some w2.heap.size] w6 w7)(q8:nE w7 rb (C.setIfInBounds 11 (.slice (some ⟨g1,0,none⟩) its1.length cap1)) T (.slice (some ⟨g1,0,none⟩) its1.length cap1) its2 g8 cap8 w8)(p8:its2.Perm (its1++[bE now x]))(h8:aH 0 its2.length (kF its2)):eG w rb C T wv0 now its0 db w8 its2 (ps++[x]) (.slice (some ⟨g8,0,none⟩) its2.length cap8) (fun u=>if u=x.to then .slice (some ⟨g5,0,none⟩) m cap5 else vs u):=by
 have hs2:=q2.upd.size;have s6:=u6.size;have s7:=u7.size;have hdl:db<w1.heap.size:=(Cn.1 h.due.blk).1;obtain⟨b1,b2,b3,b4⟩:=h.blocks (m:=m) (cap5:=cap5) (x:=x) (g5:=g5) hrl (by omega) hwl q2 hs3 hg5;obtain⟨rest,hp⟩:=h.pop;have hD7:eH w7 db (bU (ps++[x])) (fun u=>if u=x.to then .slice (some ⟨g5,0,none⟩) m cap5 else vs u):=hD6.keep u7 (by simp;omega) fun t ht b hb=>by
  have:=(b4 t ht b hb).2.2;simpa using this
 have hg8:g8=g1∨w7.heap.size≤g8:=by
  rcases q8.own with h1|h1
  ·cases h1;exact .inl rfl
  exact .inr h1
 refine⟨?_,h8,hp.step hnow qp qd p8,fun b hb=>?_,hD7.keep q8.upd (fun hm=>?_) fun t ht b hb hm=>?_,fun t ht b hb e=>?_,?_,?_⟩
 ·have:=q8.at (by rw[Array.size_setIfInBounds];exact hCs);rwa[Array.setIfInBounds_setIfInBounds]at this
 ·have hbg:b=g8:=by cases hb;rfl
  subst hbg;rcases hg8 with e|e
  ·rw[e];exact b1
  exact .inr (by omega)
 ·simp only[Co,Cq,or_false,Option.some.injEq,Cp]at hm;rcases hm with hm|hm
  ·omega
  exact b2 hm.symm
 ·simp only[Co,Cq,or_false,Option.some.injEq,Cp]at hm;have:=b4 t ht b hb;rcases hm with hm|hm
  ·omega
  exact this.2.1 hm
 ·have hbg:b=g8:=by cases e;rfl
  subst hbg;rcases hg8 with e|e
  ·exact(b4 t ht b hb).2.1 e
  have:=((hD7.row t ht).lt b hb).2;omega
 ·have v2:an [some rb,wv0.ownBlock] w w2:=h.upd.trans q2.upd fun i hi=>by
   simp only[Co,Cq,or_false,Option.some.injEq]at hi;rcases hi with hi|hi
   ·exact .inl (by simp[hi])
   rcases h.own i hi.symm with h1|h1
   ·exact .inl (by simp[h1])
   exact .inr (by omega)
  have v3:an [some rb,wv0.ownBlock] w w3:=v2.below hbl3;have v6:an [some rb,wv0.ownBlock] w w6:=v3.trans u6 fun i hi=>by
   simp only[Co,Cq,or_false,Option.some.injEq]at hi;rcases hi with hi|hi
   ·have:=aU (h.due.row x.to x.ht) hi.symm;exact .inr (by omega)
   exact .inr (by omega)
  have v7:an [some rb,wv0.ownBlock] w w7:=v6.trans u7 fun i hi=>by simp at hi;exact .inr (by have:=h.upd.size;omega)
  exact v7.trans q8.upd fun i hi=>by
   simp only[Co,Cq,or_false,Option.some.injEq,Cp]at hi;rcases hi with hi|hi
   ·exact .inl (by simp[hi])
   subst hi;rcases b1 with h1|h1
   ·exact .inl (by simp[h1])
   exact .inr (by omega)
 have hA:=h.upd.size;have a2:w2.heap[w.heap.size]?=_:=(q2.upd.block _ (by omega) fun hm=>by
  simp only[Co,Cq,or_false,Option.some.injEq]at hm;rcases hm with hm|hm
  ·omega
  rcases h.own _ hm.symm with h1|h1
  ·have:=hwl _ h1;omega
  omega).trans h.res
 have a3:=(hbl3.block w.heap.size (by omega)).trans a2;have a6:=(u6.block w.heap.size (by omega) fun hm=>by
  simp only[Co,Cq,or_false,Option.some.injEq]at hm;rcases hm with hm|hm
  ·have:=aU (h.due.row x.to x.ht) hm.symm;omega
  omega).trans a3
 have a7:=(u7.block w.heap.size (by omega) (by simp;omega)).trans a6;exact(q8.upd.block w.heap.size (by omega) fun hm=>by
  simp only[Co,Cq,or_false,Option.some.injEq,Cp]at hm;rcases hm with hm|hm
  ·omega
  rcases b1 with h1|h1
  ·have:=hwl _ h1;omega
  omega).trans a7
end
end
end Go.Proofs.YtckmppkdpnhodaaGreatDoor
