import Derived.Defers
import Derived.Maps.OwnSet
import Derived.Maps.OwnIn
import Derived.StringKeys
import Derived.Sort.KeysCollected
import Derived.RangeFuncNested
import Derived.RangeFuncBound
import Derived.RangeFuncCalls
import Derived.RangeFuncLeaves
import Derived.Shelf.Abstract
import Derived.Shelf.RegionOpen
import Derived.OwnWalkIn
import Derived.TacticsInMore
import Derived.LoopNIn
import Derived.LoopIn
import Derived.OrdersIn
import Derived.OrdersHeld
import Derived.Test.YtckmppkdpnhodaaGreatDoorT12
import Derived.Test.YtckmppkdpnhodaaGreatDoorT00
set_option maxRecDepth 100000
set_option maxHeartbeats 8000000
set_option linter.unusedVariables false
set_option linter.unusedSimpArgs false
open Array renaming getElem?_eq_some_iff→Cn,getElem?_setIfInBounds_ne→CY
open Go.RowKit.Below renaming heap_setCell→CD,heap_alloc→CF,refl→Ck
open Nat renaming le_refl→Cl,le_succ→Dv
open ByteArray renaming empty→CL
namespace Go.Proofs.YtckmppkdpnhodaaGreatDoor
section
open Go.RowKit Go.Proofs Go.MuLone
variable {rb:Nat} {w:World}
theorem aj(w:World)(a:Addr)(v:Value):(w.setCell a v).heap.size=w.heap.size:=by simp[World.setCell]
theorem relock{w2:World}{C:Array Value}{T:TypeId}(h:w.heap[rb]?=some (.cells C T (0,0)))(h0:C[0]?=some (.int .i32 0))(hb:Below w.heap.size (w.setCell ⟨rb,0,none⟩ (.int .i32 1)) w2):Below w.heap.size w (w2.setCell ⟨rb,0,none⟩ (.int .i32 0)):=by
 have hl:=(Cn.1 h).1;have hs:w.heap.size≤w2.heap.size:=by have:=hb.size;rwa[aj]at this
 refine⟨hb.os,hb.tape,hb.output,by rw[aj];exact hs,fun b hbl=>?_⟩;by_cases hbr:b=rb
 ·subst hbr;have h1:w2.heap[b]?=some (.cells (C.setIfInBounds 0 (.int .i32 1)) T (0,0)):=(hb.block b hbl).trans (ae h _);rw[ae h1,h];congr 2
  apply Array.ext_getElem?
  intro i;have hc:=(Cn.1 h0).1;by_cases hi:i=0
  ·subst hi;rw[Array.getElem?_setIfInBounds_self_of_lt (by simpa using hc),h0]
  rw[CY (fun e=>hi e.symm),CY (fun e=>hi e.symm)]
 rw[CD _ _ _ _ hbr,hb.block b hbl,CD _ _ _ _ hbr]
theorem ba.lock(h:ba w)(hr:rb≠0)(v:Value)(o:Nat):ba (w.setCell ⟨rb,o,none⟩ v):=fun k=>by
 have:=h k;rw[←this];exact World.cell?_of_block (a:=⟨0,k.num,none⟩) (CD _ _ _ _ (fun e=>hr e.symm))
end
section
open Go.RowKit Go.Proofs Go.Maps
variable {b n:Nat} {e t:TypeId} {f:List UInt8→Option Value} {w w':World} {z:Value}
def oq:Value→Option (DataW Value×List MemPlace):=fun v=>some (.held v,[])
def bh(w:World)(b n:Nat)(f:List UInt8→Option Value):Prop:=∃D:DataW Value,w.ownsMap Tryz.prog 9 oq b n D∧(∀s,has D (.string s)=(f s).isSome)∧∀s v,f s=some v→∀z,D.atKey (.string s) z=.held v
theorem iC:Keyed Tryz.prog 9:=string_keyed Tryz.underlying9
theorem bh.made(w:World):bh (w.alloc (.map #[] 0)) w.heap.size 0 (fun _=>none):=⟨.map [],World.ownsMap_made w _ _ _,fun _=>rfl,fun _ _ h=>by cases h⟩
theorem bh.lt{w:World}{b n:Nat}{f:List UInt8→Option Value}(h:bh w b n f):b<w.heap.size:=by
 obtain⟨D,hD,-⟩:=h;exact hD.lt
theorem bh.same(h:bh w b n f)(hs:w'.heap[b]?=w.heap[b]?):bh w' b n f:=by
 obtain⟨D,⟨es,clock,hb,F,hn,hD⟩,h2,h3⟩:=h;exact⟨D,⟨es,clock,hs.trans hb,F,hn,hD⟩,h2,h3⟩
theorem bh.below(h:bh w b n f)(hb:Below w.heap.size w w'):bh w' b n f:=h.same (hb.block b h.lt)
theorem bh.mono{w:World}{b n n':Nat}{f:List UInt8→Option Value}(h:bh w b n f)(hn:n≤n'):bh w b n' f:=by
 obtain⟨D,hD,h2,h3⟩:=h;exact⟨D,hD.mono hn,h2,h3⟩
theorem qL{D:DataW Value}(h2:∀s,has D (.string s)=(f s).isSome)(h3:∀s v,f s=some v→∀z,D.atKey (.string s) z=.held v){v:Value}{ps:List MemPlace}{s:List UInt8}(hv:oq v=some (D.atKey (.string s) (.held z),ps)):v=(f s).getD z:=by
 simp only[oq,Option.some.injEq,Prod.mk.injEq]at hv;have hv1:=hv.1;cases hf:f s with
 |none =>
  have hh:=h2 s;rw[hf]at hh
  rw[atKey_of_not_has hh]at hv1;simpa using hv1
 |some y =>
  rw[h3 _ _ hf]at hv1;simpa using hv1
theorem iH(s:List UInt8):WideAt.IsKeyLit (.string s):=trivial
theorem bh.look(h:bh w b n f)(ht:Tryz.prog.underlying t=some (.map 9 e))(hz:(zeroValue e).run Tryz.prog w=.ok z w)(s:ByteArray)(hs:s.size≤maxLen):(Instr.lookup t (.map (some b)) (.string s) false).run Tryz.prog w=.ok ((f s.data.toList).getD z) w:=by
 obtain⟨D,hD,h2,h3⟩:=h;obtain⟨v,ps,hr,hv⟩:=hD.lookup iC ht hz (zd:=.held z) (zp:=[]) rfl (WideMaps.keyOf_string_mk Tryz.underlying9 hs);rw[hr,qL h2 h3 hv]
theorem bh.Bl(h:bh w b n f)(ht:Tryz.prog.underlying t=some (.map 9 e))(hz:(zeroValue e).run Tryz.prog w=.ok z w)(s:ByteArray)(hs:s.size≤maxLen):(Instr.lookup t (.map (some b)) (.string s) true).run Tryz.prog w=.ok (.tuple #[(f s.data.toList).getD z,.bool (f s.data.toList).isSome]) w:=by
 obtain⟨D,hD,h2,h3⟩:=h;obtain⟨v,ps,hr,hv⟩:=hD.look_ok iC ht hz (zd:=.held z) (zp:=[]) rfl (WideMaps.keyOf_string_mk Tryz.underlying9 hs);rw[hr,h2,qL h2 h3 hv]
def iP(f:List UInt8→Option Value)(s:List UInt8)(v:Value):List UInt8→Option Value:=fun x=>if x=s then some v else f x
theorem bh.put(h:bh w b n f)(ht:Tryz.prog.underlying t=some (.map 9 e))(hn:n<maxLen)(s:ByteArray)(hs:s.size≤maxLen)(v:Value):∃w',(Instr.mapUpdate t (.map (some b)) (.string s) v).run Tryz.prog w=.ok () w'∧bh w' b (n+1) (iP f s.data.toList v)∧w.grownBy w' (some b):=by
 obtain⟨D,hD,h2,h3⟩:=h;obtain⟨w',hr,hD',hg⟩:=hD.update iC ht hn (WideMaps.keyOf_string_mk Tryz.underlying9 hs) (d:=.held v) (ps:=[]) rfl;have hm:=hD.isMap;refine⟨w',hr,⟨_,hD',fun x=>?_,fun x y hy z=>?_⟩,hg⟩
 ·by_cases hx:x=s.data.toList
  ·subst hx;rw[has_put_same hm (iH _)];simp[iP]
  rw[has_put_other (fun e=>hx (by cases e;rfl)),h2];simp[iP,hx]
 by_cases hx:x=s.data.toList
 ·subst hx;simp only[iP,if_pos,Option.some.injEq]at hy;rw[atKey_put_same hm (iH _),hy]
 simp only[iP,if_neg hx]at hy;rw[atKey_put_other (fun e=>hx (by cases e;rfl)),h3 x y hy]
theorem bh.keys(h:bh w b n f):∃D:DataW Value,w.ownsMap Tryz.prog 9 oq b n D∧Maps.size D≤n∧(strKeys D).Nodup∧∀s,s∈strKeys D↔(f s).isSome=true:=by
 obtain⟨D,hD,h2,h3⟩:=h;obtain⟨es,hes,hap⟩:=hD.tidy iC;obtain⟨es',hes',hk'⟩:=hD.keysOf;have he:es'=es:=by rw[hes]at hes';injection hes' with h;exact h.symm
 subst he;have hk:∀p∈es',∃x,p.1=.string x:=fun p hp=>by
  obtain⟨v,hv⟩:=hk' p hp;obtain⟨x,-,hx,-⟩:=Maps.keyOf_str Tryz.underlying9 hv;exact⟨x,hx⟩
 refine⟨D,hD,hD.size_le,?_,fun s=>?_⟩
 ·rw[hes];show(es'.map fun p=>Go.strOf p.1).Nodup
  refine List.pairwise_map.2 (hap.imp_of_mem fun {p q} hp' hq' hne e=>hne ?_);obtain⟨a,ha⟩:=hk p hp';obtain⟨b,hb⟩:=hk q hq';rw[ha,hb]at e ⊢
  exact congrArg _ e
 rw[←h2,hes,has_eq,List.any_eq_true];show s∈es'.map (fun p=>Go.strOf p.1)↔_
 rw[List.mem_map];refine⟨fun⟨p,hp,e⟩=>⟨p,hp,?_⟩,fun⟨p,hp,e⟩=>⟨p,hp,?_⟩⟩
 ·obtain⟨a,ha⟩:=hk p hp;rw[ha]at e ⊢
  simp only[Go.strOf]at e;subst e;exact WideAt.sameKey_self (iH _)
 obtain⟨a,ha⟩:=hk p hp;have:=(WideAt.sameKey_iff (iH s)).1 e;rw[this];rfl
end
section
open Go.RowKit Go.Proofs Go.Shelf
attribute [local go_sem] Oper.semAt_some
theorem rB(a:Option Addr)(len cap:Nat)(w:World):Calls Tryz.prog 93 #[.slice a len cap] w fun e w'=>e=.returned (.func (.func 131) #[] #[.pointer (some ⟨w.heap.size,0,none⟩)])∧w'=w.alloc (.cells #[.slice a len cap] 101):=by
 go_enter Tryz.func93,Tryz.ntmps93
 go_wp2
 go_ret
 exact⟨rfl,rfl⟩
theorem xK(rb:Nat)(a:Option Addr)(len cap:Nat)(w:World)(h4:w.cell? ⟨rb,4,none⟩=some (.slice a len cap)):Calls Tryz.prog 52 #[.pointer (some ⟨rb,4,none⟩)] w fun e w'=>e=.returned (.func (.func 131) #[] #[.pointer (some ⟨w.heap.size,0,none⟩)])∧w'=w.alloc (.cells #[.slice a len cap] 101):=by
 go_enter Tryz.func52,Tryz.ntmps52
 go_wp2_with (go_at_call 93;refine(rB _ _ _ _).mono ?_;rintro e w' ⟨rfl,rfl⟩)
 go_ret
 exact⟨rfl,rfl⟩
end
section
open Go.RowKit Go.Proofs
attribute [local go_sem ↓] Go.wp_at_zero Go.wp_at_succ
def yZ(a0 a1 a2 a3 a4:Nat):Value:=.agg #[.int .i64 (a0:Int),.int .i64 (a1:Int),.int .i64 (a2:Int),.int .i64 (a3:Int),.int .i64 (a4:Int)]
theorem vU(a0 a1 a2 a3 a4 b0 b1 b2 b3 b4:Nat)(w:World):Calls Tryz.prog 129 #[.agg #[.int .i64 (a0:Int),.int .i64 (a1:Int),.int .i64 (a2:Int),.int .i64 (a3:Int),.int .i64 (a4:Int)],.agg #[.int .i64 (b0:Int),.int .i64 (b1:Int),.int .i64 (b2:Int),.int .i64 (b3:Int),.int .i64 (b4:Int)]] w fun e w' =>
   e=.returned (yZ (max a0 b0) (max a1 b1) (max a2 b2) (max a3 b3) (max a4 b4))∧Below w.heap.size w w':=by
 have i0:∀w,(Instr.index 102 (.agg #[.int .i64 (b0:Int),.int .i64 (b1:Int),.int .i64 (b2:Int),.int .i64 (b3:Int),.int .i64 (b4:Int)]) (.int .i64 0)).run Tryz.prog w=.ok (.int .i64 (b0:Int)) w:=fun _=>by kernel_rfl
 have i1:∀w,(Instr.index 102 (.agg #[.int .i64 (b0:Int),.int .i64 (b1:Int),.int .i64 (b2:Int),.int .i64 (b3:Int),.int .i64 (b4:Int)]) (.int .i64 1)).run Tryz.prog w=.ok (.int .i64 (b1:Int)) w:=fun _=>by kernel_rfl
 have i2:∀w,(Instr.index 102 (.agg #[.int .i64 (b0:Int),.int .i64 (b1:Int),.int .i64 (b2:Int),.int .i64 (b3:Int),.int .i64 (b4:Int)]) (.int .i64 2)).run Tryz.prog w=.ok (.int .i64 (b2:Int)) w:=fun _=>by kernel_rfl
 have i3:∀w,(Instr.index 102 (.agg #[.int .i64 (b0:Int),.int .i64 (b1:Int),.int .i64 (b2:Int),.int .i64 (b3:Int),.int .i64 (b4:Int)]) (.int .i64 3)).run Tryz.prog w=.ok (.int .i64 (b3:Int)) w:=fun _=>by kernel_rfl
 have i4:∀w,(Instr.index 102 (.agg #[.int .i64 (b0:Int),.int .i64 (b1:Int),.int .i64 (b2:Int),.int .i64 (b3:Int),.int .i64 (b4:Int)]) (.int .i64 4)).run Tryz.prog w=.ok (.int .i64 (b4:Int)) w:=fun _=>by kernel_rfl
 go_enter Tryz.func129,Tryz.ntmps129
 go_wp2
 go_loopw [9] (fun v wr=>∃j:Nat,j≤5∧v=.int .i64 j∧Hid (wr.heap[w.heap.size]?=some (.cells #[.int .i64 ((if 0<j then max a0 b0 else a0:Nat):Int),.int .i64 ((if 1<j then max a1 b1 else a1:Nat):Int),.int .i64 ((if 2<j then max a2 b2 else a2:Nat):Int),.int .i64 ((if 3<j then max a3 b3 else a3:Nat):Int),.int .i64 ((if 4<j then max a4 b4 else a4:Nat):Int)] 104 (0,0))∧wr.heap[w.heap.size+2]?=some (.cells #[.int .i64 0,.int .i64 0,.int .i64 0,.int .i64 0,.int .i64 0] 104 (0,0))∧Below w.heap.size w wr)) (fun v _=>5-(intOf v).toNat)
 case atStart =>
  refine⟨0,by omega,rfl,?_,?_,?_⟩
  ·exact(CF _ _ _ (by simp;omega)).trans ((CF _ _ _ (by simp)).trans (heap_alloc_new w _))
  ·have:=heap_alloc_new ((w.alloc (.cells #[.int .i64 (a0:Int),.int .i64 (a1:Int),.int .i64 (a2:Int),.int .i64 (a3:Int),.int .i64 (a4:Int)] 104)).alloc (.cells #[.int .i64 (b0:Int),.int .i64 (b1:Int),.int .i64 (b2:Int),.int .i64 (b3:Int),.int .i64 (b4:Int)] 104)) (.cells #[.int .i64 0,.int .i64 0,.int .i64 0,.int .i64 0,.int .i64 0] 104);simpa only[World.size_alloc] using this
  exact(((Ck _ w).alloc (Cl _) _).alloc (by simp) _).alloc (by simp;omega) _
 case round =>
  obtain⟨j,hj,rfl,hH⟩:=hrel;obtain⟨h1,h2,h3⟩:=hH.out;rcases(show j=0∨j=1∨j=2∨j=3∨j=4∨j=5 by omega) with rfl|rfl|rfl|rfl|rfl|rfl
  ·have c0:wr.cell? ⟨w.heap.size,0,none⟩=some (.int .i64 (a0:Int)):=cell_of_heap h1 _;have f0:wr.frozen? ⟨w.heap.size,0,none⟩=false:=frozen_of_heap h1 0;have hm:((max a0 b0:Nat):Int)=max (a0:Int) (b0:Int):=by omega
   have HS:Hid ((wr.setCell ⟨w.heap.size,0,none⟩ (.int .i64 (max (a0:Int) (b0:Int)))).heap[w.heap.size]?=some (.cells #[.int .i64 ((if 0<1 then max a0 b0 else a0:Nat):Int),.int .i64 ((if 1<1 then max a1 b1 else a1:Nat):Int),.int .i64 ((if 2<1 then max a2 b2 else a2:Nat):Int),.int .i64 ((if 3<1 then max a3 b3 else a3:Nat):Int),.int .i64 ((if 4<1 then max a4 b4 else a4:Nat):Int)] 104 (0,0))∧(wr.setCell ⟨w.heap.size,0,none⟩ (.int .i64 (max (a0:Int) (b0:Int)))).heap[w.heap.size+2]?=some (.cells #[.int .i64 0,.int .i64 0,.int .i64 0,.int .i64 0,.int .i64 0] 104 (0,0))∧Below w.heap.size w (wr.setCell ⟨w.heap.size,0,none⟩ (.int .i64 (max (a0:Int) (b0:Int))))):=by
    refine⟨?_,?_,?_⟩
    ·rw[←hm,ae h1];rfl
    ·rw[CD _ _ _ _ (by simp)];exact h2
    exact h3.setCell (by simp) _
   clear h1 h2 h3 hm;go_wp2
   go_roundw
   case rel=>exact⟨1,by omega,rfl,HS⟩
   case measure=>simp[intOf]
  ·have c0:wr.cell? ⟨w.heap.size,1,none⟩=some (.int .i64 (a1:Int)):=cell_of_heap h1 _;have f0:wr.frozen? ⟨w.heap.size,1,none⟩=false:=frozen_of_heap h1 1;have hm:((max a1 b1:Nat):Int)=max (a1:Int) (b1:Int):=by omega
   have HS:Hid ((wr.setCell ⟨w.heap.size,1,none⟩ (.int .i64 (max (a1:Int) (b1:Int)))).heap[w.heap.size]?=some (.cells #[.int .i64 ((if 0<2 then max a0 b0 else a0:Nat):Int),.int .i64 ((if 1<2 then max a1 b1 else a1:Nat):Int),.int .i64 ((if 2<2 then max a2 b2 else a2:Nat):Int),.int .i64 ((if 3<2 then max a3 b3 else a3:Nat):Int),.int .i64 ((if 4<2 then max a4 b4 else a4:Nat):Int)] 104 (0,0))∧(wr.setCell ⟨w.heap.size,1,none⟩ (.int .i64 (max (a1:Int) (b1:Int)))).heap[w.heap.size+2]?=some (.cells #[.int .i64 0,.int .i64 0,.int .i64 0,.int .i64 0,.int .i64 0] 104 (0,0))∧Below w.heap.size w (wr.setCell ⟨w.heap.size,1,none⟩ (.int .i64 (max (a1:Int) (b1:Int))))):=by
    refine⟨?_,?_,?_⟩
    ·rw[←hm,ae h1];rfl
    ·rw[CD _ _ _ _ (by simp)];exact h2
    exact h3.setCell (by simp) _
   clear h1 h2 h3 hm;go_wp2
   go_roundw
   case rel=>exact⟨2,by omega,rfl,HS⟩
   case measure=>simp[intOf]
  ·have c0:wr.cell? ⟨w.heap.size,2,none⟩=some (.int .i64 (a2:Int)):=cell_of_heap h1 _;have f0:wr.frozen? ⟨w.heap.size,2,none⟩=false:=frozen_of_heap h1 2;have hm:((max a2 b2:Nat):Int)=max (a2:Int) (b2:Int):=by omega
   have HS:Hid ((wr.setCell ⟨w.heap.size,2,none⟩ (.int .i64 (max (a2:Int) (b2:Int)))).heap[w.heap.size]?=some (.cells #[.int .i64 ((if 0<3 then max a0 b0 else a0:Nat):Int),.int .i64 ((if 1<3 then max a1 b1 else a1:Nat):Int),.int .i64 ((if 2<3 then max a2 b2 else a2:Nat):Int),.int .i64 ((if 3<3 then max a3 b3 else a3:Nat):Int),.int .i64 ((if 4<3 then max a4 b4 else a4:Nat):Int)] 104 (0,0))∧(wr.setCell ⟨w.heap.size,2,none⟩ (.int .i64 (max (a2:Int) (b2:Int)))).heap[w.heap.size+2]?=some (.cells #[.int .i64 0,.int .i64 0,.int .i64 0,.int .i64 0,.int .i64 0] 104 (0,0))∧Below w.heap.size w (wr.setCell ⟨w.heap.size,2,none⟩ (.int .i64 (max (a2:Int) (b2:Int))))):=by
    refine⟨?_,?_,?_⟩
    ·rw[←hm,ae h1];rfl
    ·rw[CD _ _ _ _ (by simp)];exact h2
    exact h3.setCell (by simp) _
   clear h1 h2 h3 hm;go_wp2
   go_roundw
   case rel=>exact⟨3,by omega,rfl,HS⟩
   case measure=>simp[intOf]
  ·have c0:wr.cell? ⟨w.heap.size,3,none⟩=some (.int .i64 (a3:Int)):=cell_of_heap h1 _;have f0:wr.frozen? ⟨w.heap.size,3,none⟩=false:=frozen_of_heap h1 3;have hm:((max a3 b3:Nat):Int)=max (a3:Int) (b3:Int):=by omega
   have HS:Hid ((wr.setCell ⟨w.heap.size,3,none⟩ (.int .i64 (max (a3:Int) (b3:Int)))).heap[w.heap.size]?=some (.cells #[.int .i64 ((if 0<4 then max a0 b0 else a0:Nat):Int),.int .i64 ((if 1<4 then max a1 b1 else a1:Nat):Int),.int .i64 ((if 2<4 then max a2 b2 else a2:Nat):Int),.int .i64 ((if 3<4 then max a3 b3 else a3:Nat):Int),.int .i64 ((if 4<4 then max a4 b4 else a4:Nat):Int)] 104 (0,0))∧(wr.setCell ⟨w.heap.size,3,none⟩ (.int .i64 (max (a3:Int) (b3:Int)))).heap[w.heap.size+2]?=some (.cells #[.int .i64 0,.int .i64 0,.int .i64 0,.int .i64 0,.int .i64 0] 104 (0,0))∧Below w.heap.size w (wr.setCell ⟨w.heap.size,3,none⟩ (.int .i64 (max (a3:Int) (b3:Int))))):=by
    refine⟨?_,?_,?_⟩
    ·rw[←hm,ae h1];rfl
    ·rw[CD _ _ _ _ (by simp)];exact h2
    exact h3.setCell (by simp) _
   clear h1 h2 h3 hm;go_wp2
   go_roundw
   case rel=>exact⟨4,by omega,rfl,HS⟩
   case measure=>simp[intOf]
  ·have c0:wr.cell? ⟨w.heap.size,4,none⟩=some (.int .i64 (a4:Int)):=cell_of_heap h1 _;have f0:wr.frozen? ⟨w.heap.size,4,none⟩=false:=frozen_of_heap h1 4;have hm:((max a4 b4:Nat):Int)=max (a4:Int) (b4:Int):=by omega
   have HS:Hid ((wr.setCell ⟨w.heap.size,4,none⟩ (.int .i64 (max (a4:Int) (b4:Int)))).heap[w.heap.size]?=some (.cells #[.int .i64 ((if 0<5 then max a0 b0 else a0:Nat):Int),.int .i64 ((if 1<5 then max a1 b1 else a1:Nat):Int),.int .i64 ((if 2<5 then max a2 b2 else a2:Nat):Int),.int .i64 ((if 3<5 then max a3 b3 else a3:Nat):Int),.int .i64 ((if 4<5 then max a4 b4 else a4:Nat):Int)] 104 (0,0))∧(wr.setCell ⟨w.heap.size,4,none⟩ (.int .i64 (max (a4:Int) (b4:Int)))).heap[w.heap.size+2]?=some (.cells #[.int .i64 0,.int .i64 0,.int .i64 0,.int .i64 0,.int .i64 0] 104 (0,0))∧Below w.heap.size w (wr.setCell ⟨w.heap.size,4,none⟩ (.int .i64 (max (a4:Int) (b4:Int))))):=by
    refine⟨?_,?_,?_⟩
    ·rw[←hm,ae h1];rfl
    ·rw[CD _ _ _ _ (by simp)];exact h2
    exact h3.setCell (by simp) _
   clear h1 h2 h3 hm;go_wp2
   go_roundw
   case rel=>exact⟨5,by omega,rfl,HS⟩
   case measure=>simp[intOf]
  have c0:wr.cell? ⟨w.heap.size,0,none⟩=some (.int .i64 ((max a0 b0:Nat):Int)):=cell_of_heap h1 _;have c1:wr.cell? ⟨w.heap.size,1,none⟩=some (.int .i64 ((max a1 b1:Nat):Int)):=cell_of_heap h1 _;have c2:wr.cell? ⟨w.heap.size,2,none⟩=some (.int .i64 ((max a2 b2:Nat):Int)):=cell_of_heap h1 _;have c3:wr.cell? ⟨w.heap.size,3,none⟩=some (.int .i64 ((max a3 b3:Nat):Int)):=cell_of_heap h1 _;have c4:wr.cell? ⟨w.heap.size,4,none⟩=some (.int .i64 ((max a4 b4:Nat):Int)):=cell_of_heap h1 _;have d0:wr.cell? ⟨w.heap.size+2,0,none⟩=some (.int .i64 0):=cell_of_heap h2 _;have d1:wr.cell? ⟨w.heap.size+2,1,none⟩=some (.int .i64 0):=cell_of_heap h2 _;have d2:wr.cell? ⟨w.heap.size+2,2,none⟩=some (.int .i64 0):=cell_of_heap h2 _;have d3:wr.cell? ⟨w.heap.size+2,3,none⟩=some (.int .i64 0):=cell_of_heap h2 _;have d4:wr.cell? ⟨w.heap.size+2,4,none⟩=some (.int .i64 0):=cell_of_heap h2 _
  have g0:wr.frozen? ⟨w.heap.size+2,0,none⟩=false:=frozen_of_heap h2 0;have g1:wr.frozen? ⟨w.heap.size+2,1,none⟩=false:=frozen_of_heap h2 1;have g2:wr.frozen? ⟨w.heap.size+2,2,none⟩=false:=frozen_of_heap h2 2;have g3:wr.frozen? ⟨w.heap.size+2,3,none⟩=false:=frozen_of_heap h2 3;have g4:wr.frozen? ⟨w.heap.size+2,4,none⟩=false:=frozen_of_heap h2 4;clear h1 h2;generalize hq0:max a0 b0=m0 at *;have HQ0:Hid (max a0 b0=m0):=hq0;clear hq0;generalize hq1:max a1 b1=m1 at *;have HQ1:Hid (max a1 b1=m1):=hq1;clear hq1;generalize hq2:max a2 b2=m2 at *;have HQ2:Hid (max a2 b2=m2):=hq2;clear hq2;generalize hq3:max a3 b3=m3 at *;have HQ3:Hid (max a3 b3=m3):=hq3;clear hq3;generalize hq4:max a4 b4=m4 at *;have HQ4:Hid (max a4 b4=m4):=hq4;clear hq4;go_wp2
  exact bodyPost_ret (v:=.agg #[.int .i64 (m0:Int),.int .i64 (m1:Int),.int .i64 (m2:Int),.int .i64 (m3:Int),.int .i64 (m4:Int)]) (by simp[results,Tryz.results129,go_sem,d0,d1,d2,d3,d4]) rfl ⟨by rw[HQ0.out,HQ1.out,HQ2.out,HQ3.out,HQ4.out];rfl,by repeat' first|exact h3|refine Below.setCell ?_ (by first|(simp;done)|(simp;omega)) _⟩
theorem oU(a0 a1 a2 a3 a4 me s:Nat)(hme:me<5)(m:Nat)(hm:[a0,a1,a2,a3,a4][me]?=some m)(w:World):Calls Tryz.prog 130 #[.agg #[.int .i64 (a0:Int),.int .i64 (a1:Int),.int .i64 (a2:Int),.int .i64 (a3:Int),.int .i64 (a4:Int)],.int .i64 (me:Int),.int .i64 (s:Int)] w fun e w' =>
   e=.returned (.bool (decide (s≤m)))∧Below w.heap.size w w':=by
 have hc:∀(cs:Array Value) (t:TypeId),cs[me]?=some (.int .i64 (m:Int))→(w.alloc (.cells cs t)).cell? ⟨w.heap.size,me,none⟩=some (.int .i64 (m:Int)):=fun cs t h=>by
  rw[cell_of_heap (heap_alloc_new w (.cells cs t))];exact h
 have hc':=hc #[.int .i64 (a0:Int),.int .i64 (a1:Int),.int .i64 (a2:Int),.int .i64 (a3:Int),.int .i64 (a4:Int)] 104 (by
  rcases(show me=0∨me=1∨me=2∨me=3∨me=4 by omega) with rfl|rfl|rfl|rfl|rfl <;> (simp at hm;subst hm;rfl))
 have k0:(0:Int)≤(me:Int):=by omega
 have k5:(me:Int)<5:=by omega
 clear hc hm;go_enter Tryz.func130,Tryz.ntmps130
 go_wp2
 go_ret
 exact⟨aF (by simp),(Ck _ w).alloc (Cl _) _⟩
end
section
open Go.RowKit Go.Proofs
variable {K:Act→World→Prop} {a:Act} {w:World}
section
variable {P:Program} {md:Region.Mode} {ops:Array Oper} {Q:Exit→Act→World→Prop} {l n:Nat}
theorem tB{row:String}{args:Array Value}{R:Value→World→Prop}(h:Rows P row args w R):RowsIn (Fence.wide.inRound l) n P row args w R:=fun c cs _=>let ⟨v,w',r,s⟩:=h c cs;⟨v,w',r,stepsIn_wide.2 s⟩
theorem tO{o:Oper}(hd:∀c,o.op≠.defer c)(h:o.wp P a w K Q):o.wpIn (Fence.wide.inRound l) n P a w K Q:=by
 refine⟨fun _ _=>trivial,?_⟩;rw[Fence.inRound_round,Oper.semAt_some l _ _ hd];unfold Oper.wp at h;generalize (execOp a.eval o).run P w=r at *;have hdp:(Fence.wide.inRound l).depth.isSome=true→1≤n:=fun e=>by cases e
 cases r with
 |ok x w' =>
  cases x <;> simp only[Oper.upon,Oper.uponIn]at h ⊢ <;>
   first
    |exact h
    |exact⟨hdp,CallsIn.inRound l (callsIn_wide.2 h)⟩
    |exact⟨hdp,tB h⟩
    |exact h.elim
 |halt x w'=>cases x <;> simp only[Oper.upon,Oper.uponIn]at h ⊢ <;> exact h
theorem xr(hQ:¬ LetsOut Q){i:Nat}(hd:∀o,ops[i]?=some o→∀c,o.op≠.defer c){K':Act→World→Prop}(hK:∀a w,K a w→K' a w)(h:wpOp P ops Q i K a w):wpOpIn (Fence.wide.inRound l) n P ops Q i K' a w:=by
 unfold wpOp at h;unfold wpOpIn;cases ho:ops[i]? with
 |none=>rw[ho]at h;exact hK _ _ h
 |some o =>
  rw[ho]at h;simp only at h ⊢;split at h
  ·rename_i hw;rw[if_pos hw];rcases h with h|h
   ·exact(tO (hd o ho) h).imp id (fun h'=>(Oper.wpIn_mono hK ⟨fun _ _=>trivial,h'⟩).2)
   exact absurd h.2 hQ
  rename_i hw;rw[if_neg hw];exact⟨fun _ _=>trivial,hK _ _ h⟩
theorem rr(hQ:¬ LetsOut Q)(hd:∀(i:Nat) (o:Oper),ops[i]?=some o→∀c,o.op≠.defer c):∀(fuel:Nat) (listed:Array Bool) (a:Act) (w:World),wpAny P md ops Q fuel listed a w→wpAnyIn (Fence.wide.inRound l) n P md ops Q fuel listed a w
 |0,_,_,_,h=>h
 |fuel+1,listed,a,w,h=>⟨h.1,fun i hi=>xr hQ (hd i) (fun a' w' h'=>rr hQ hd fuel _ a' w' h') (h.2 i hi)⟩
def noDefer(ops:Array Oper):Bool:=ops.toList.all fun o=>match o.op with|.defer _=>false|_=>true
theorem o7(h:noDefer ops=true):∀(i:Nat) (o:Oper),ops[i]?=some o→∀c,o.op≠.defer c:=fun i o ho c e=>by
 simp only[noDefer,List.all_eq_true]at h;have:=h o (by
  obtain⟨hi,rfl⟩:=Cn.1 ho;simp)
 rw[e]at this;cases this
theorem iU{S:World→Prop}{id:Nat}(hm:P.follows .mixedOrders=true)(hQ:¬ LetsOut Q)(hd:noDefer ops=true)(h:wpAnyH P .any ops Q S ops.size (Array.replicate ops.size false) a w.drew):(Code.region id ops true).wpIn (Fence.wide.inRound l) n P Q a w:=wpIn_region_any hm (rr hQ (o7 hd) _ _ _ _ (wpAny_of_held _ _ _ _ h))
end
end
section
open Go.RowKit Go.Proofs Go.Shelf
attribute [local go_sem] Oper.semAt_some
theorem eD{W W':World}(h:Below W.heap.size W W'):KeepsOthers W W':=⟨h.size,fun k o ho _=>(h.block k (Cn.1 ho).1).trans ho⟩
end
section
open Go.RowKit Go.Proofs
variable {b1 b2 b3 n:Nat} {c:Cm} {w w' w1:World}
structure dG where
 it:List UInt8→Option Nat
 cp:List UInt8→Bool
 no:List UInt8→Bool
def dG.empty:dG:=⟨fun _=>none,fun _=>false,fun _=>false⟩
def uP(g:List UInt8→Option Nat):List UInt8→Option Value:=fun s=>(g s).map fun m=>.int .i64 (m:Int)
def pZ(h:List UInt8→Bool):List UInt8→Option Value:=fun s=>if h s then some (.agg #[]) else none
def putC(S:dG)(c:Cm):dG:=match c.k with
 |.closed=>⟨fun s=>if s=c.word.data.toList then some (min ((S.it c.word.data.toList).getD 0+c.count) 999) else S.it s,S.cp,S.no⟩
 |.established=>⟨S.it,fun s=>if s=c.word.data.toList then true else S.cp s,S.no⟩
 |.closeWait=>⟨S.it,S.cp,fun s=>if s=c.word.data.toList then true else S.no s⟩
 |_=>S
theorem xw(g:List UInt8→Option Nat)(s:List UInt8)(m:Nat):iP (uP g) s (.int .i64 (m:Int))=uP (fun x=>if x=s then some m else g x):=by
 funext x;simp only[iP,uP];split <;> rfl
theorem sN(h:List UInt8→Bool)(s:List UInt8):iP (pZ h) s (.agg #[])=pZ (fun x=>if x=s then true else h x):=by
 funext x;simp only[iP,pZ];split <;> rfl
theorem mu(g:List UInt8→Option Nat)(s:List UInt8):((uP g s).getD (.int .i64 0))=.int .i64 (((g s).getD 0:Nat):Int):=by
 unfold uP;cases g s <;> rfl
structure cW(w:World)(b1 b2 b3 n:Nat)(S:dG):Prop where
 m1:bh w b1 n (uP S.it)
 m2:bh w b2 n (pZ S.cp)
 m3:bh w b3 n (pZ S.no)
 le:∀s m,S.it s=some m→m≤999
theorem cW.below{w w':World}{b1 b2 b3 n:Nat}{S:dG}(h:cW w b1 b2 b3 n S)(hb:Below w.heap.size w w'):cW w' b1 b2 b3 n S:=⟨h.m1.below hb,h.m2.below hb,h.m3.below hb,h.le⟩
structure jd(w:World)(b1 b2 b3 n:Nat)(S:dG)(w':World):Prop where
 cart:cW w' b1 b2 b3 n S
 grown:∃w1 row,Below w.heap.size w w1∧w1.grownBy w' row∧∀r,row=some r→r=b1∨r=b2∨r=b3
theorem yw{S:dG}(h:cW w b1 b2 b3 n S)(h12:b1≠b2)(h13:b1≠b3)(hb:Below w.heap.size w w1)(hg:w1.grownBy w' (some b1))(hk:c.k=.closed)(hm:bh w' b1 (n+1) (iP (uP S.it) c.word.data.toList (.int .i64 ((min ((S.it c.word.data.toList).getD 0+c.count) 999:Nat):Int)))):jd w b1 b2 b3 (n+1) (putC S c) w':=by
 have hc:=h.below hb;have k:∀b,b≠b1→b<w1.heap.size→w'.heap[b]?=w1.heap[b]?:=fun b hb hl=>hg.block b hl (fun e=>hb (by cases e;rfl))
 refine⟨⟨?_,?_,?_,?_⟩,w1,some b1,hb,hg,fun r e=>by cases e;exact .inl rfl⟩
 ·rw[xw]at hm;simpa[putC,hk] using hm
 ·have:=(hc.m2.same (k _ (Ne.symm h12) hc.m2.lt)).mono (Dv n);simpa[putC,hk] using this
 ·have:=(hc.m3.same (k _ (Ne.symm h13) hc.m3.lt)).mono (Dv n);simpa[putC,hk] using this
 intro s m hs;simp only[putC,hk]at hs;split at hs
 ·cases hs;omega
 exact h.le s m hs
theorem yu{S:dG}(h:cW w b1 b2 b3 n S)(h12:b1≠b2)(h23:b2≠b3)(hb:Below w.heap.size w w1)(hg:w1.grownBy w' (some b2))(hk:c.k=.established)(hm:bh w' b2 (n+1) (iP (pZ S.cp) c.word.data.toList (.agg #[]))):jd w b1 b2 b3 (n+1) (putC S c) w':=by
 have hc:=h.below hb;have k:∀b,b≠b2→b<w1.heap.size→w'.heap[b]?=w1.heap[b]?:=fun b hb hl=>hg.block b hl (fun e=>hb (by cases e;rfl))
 refine⟨⟨?_,?_,?_,?_⟩,w1,some b2,hb,hg,fun r e=>by cases e;exact .inr (.inl rfl)⟩
 ·have:=(hc.m1.same (k _ h12 hc.m1.lt)).mono (Dv n);simpa[putC,hk] using this
 ·rw[sN]at hm;simpa[putC,hk] using hm
 ·have:=(hc.m3.same (k _ (Ne.symm h23) hc.m3.lt)).mono (Dv n);simpa[putC,hk] using this
 intro s m hs;simp only[putC,hk]at hs;exact h.le s m hs
theorem yt{S:dG}(h:cW w b1 b2 b3 n S)(h13:b1≠b3)(h23:b2≠b3)(hb:Below w.heap.size w w1)(hg:w1.grownBy w' (some b3))(hk:c.k=.closeWait)(hm:bh w' b3 (n+1) (iP (pZ S.no) c.word.data.toList (.agg #[]))):jd w b1 b2 b3 (n+1) (putC S c) w':=by
 have hc:=h.below hb;have k:∀b,b≠b3→b<w1.heap.size→w'.heap[b]?=w1.heap[b]?:=fun b hb hl=>hg.block b hl (fun e=>hb (by cases e;rfl))
 refine⟨⟨?_,?_,?_,?_⟩,w1,some b3,hb,hg,fun r e=>by cases e;exact .inr (.inr rfl)⟩
 ·have:=(hc.m1.same (k _ h13 hc.m1.lt)).mono (Dv n);simpa[putC,hk] using this
 ·have:=(hc.m2.same (k _ h23 hc.m2.lt)).mono (Dv n);simpa[putC,hk] using this
 ·rw[sN]at hm;simpa[putC,hk] using hm
 intro s m hs;simp only[putC,hk]at hs;exact h.le s m hs
theorem vC{S:dG}(h:cW w b1 b2 b3 n S)(hb:Below w.heap.size w w1)(hk:putC S c=S):jd w b1 b2 b3 (n+1) (putC S c) w1:=by
 have hc:=h.below hb;rw[hk];exact⟨⟨hc.m1.mono (Dv n),hc.m2.mono (Dv n),hc.m3.mono (Dv n),h.le⟩,w1,none,hb,World.grownBy.refl _ _,fun r e=>by cases e⟩
attribute [local go_sem ↓] Go.wp_at_zero Go.wp_at_succ
theorem xm(b1 b2 b3 n:Nat)(h12:b1≠b2)(h13:b1≠b3)(h23:b2≠b3)(hn:n<4294967297)(S:dG)(c:Cm)(hc:nF c)(w:World)(h:cW w b1 b2 b3 n S):Calls Tryz.prog 92 #[.agg #[.map (some b1),.map (some b2),.map (some b3)],.agg #[.int .i64 (c.k.num:Int),.string c.word,.int .i64 (c.count:Int)]] w fun e w'=>e=.returned (.tuple #[])∧jd w b1 b2 b3 (n+1) (putC S c) w':=by
 have hw8:c.word.size≤maxLen:=by
  have:=hc.word;simp only[bd,Bool.and_eq_true,decide_eq_true_eq]at this;unfold maxLen;omega
 have hnm:n<maxLen:=by unfold maxLen;omega
 have B2:∀o1 o2,Below w.heap.size w ((w.alloc o1).alloc o2):=fun o1 o2=>((Ck _ w).alloc (Cl _) _).alloc (by simp) _
 have HH:=hid h;cases hk:c.k with
 |listen =>
  have HP:Hid (putC S c=S):=by show _=_;simp[putC,hk]
  simp only[Kd.num];go_enter Tryz.func92,Tryz.ntmps92
  go_wp2
  go_end0
  exact⟨rfl,vC HH.out (B2 _ _) HP.out⟩
 |finWait =>
  have HP:Hid (putC S c=S):=by show _=_;simp[putC,hk]
  simp only[Kd.num];go_enter Tryz.func92,Tryz.ntmps92
  go_wp2
  go_end0
  exact⟨rfl,vC HH.out (B2 _ _) HP.out⟩
 |closeWait =>
  obtain⟨w',L,hm,hg⟩:=(h.below (B2 (.cells #[.map (some b1),.map (some b2),.map (some b3)] 128) (.cells #[.int .i64 4,.string c.word,.int .i64 (c.count:Int)] 116))).m3.put Tryz.underlying126 hnm c.word hw8 (.agg #[]);have HP:Hid (jd w b1 b2 b3 (n+1) (putC S c) w'):=yt h h13 h23 (B2 _ _) hg hk hm;clear h hm hg B2 HH;simp only[Kd.num];go_enter Tryz.func92,Tryz.ntmps92
  go_wp2
  go_end0
  exact⟨rfl,HP.out⟩
 |established =>
  obtain⟨w',L,hm,hg⟩:=(h.below (B2 (.cells #[.map (some b1),.map (some b2),.map (some b3)] 128) (.cells #[.int .i64 2,.string c.word,.int .i64 (c.count:Int)] 116))).m2.put Tryz.underlying126 hnm c.word hw8 (.agg #[]);have HP:Hid (jd w b1 b2 b3 (n+1) (putC S c) w'):=yu h h12 h23 (B2 _ _) hg hk hm;clear h hm hg B2 HH;simp only[Kd.num];go_enter Tryz.func92,Tryz.ntmps92
  go_wp2
  go_end0
  exact⟨rfl,HP.out⟩
 |closed =>
  have hle:(S.it c.word.data.toList).getD 0≤999:=by
   cases hs:S.it c.word.data.toList with
   |none=>simp
   |some m=>exact h.le _ m hs
  have hct:=(hc.add hk).2;have hb:=h.below (B2 (.cells #[.map (some b1),.map (some b2),.map (some b3)] 128) (.cells #[.int .i64 0,.string c.word,.int .i64 (c.count:Int)] 116));have L1:=hb.m1.look Tryz.underlying125 (Tryz.zeroValue3 _) c.word hw8;rw[mu]at L1
  obtain⟨w',L,hm,hg⟩:=hb.m1.put Tryz.underlying125 hnm c.word hw8 (.int .i64 ((min ((S.it c.word.data.toList).getD 0+c.count) 999:Nat):Int));have HP:Hid (jd w b1 b2 b3 (n+1) (putC S c) w'):=yw h h12 h13 (B2 _ _) hg hk hm;clear h hm hg B2 HH hb;generalize (S.it c.word.data.toList).getD 0=m at *;rw[show((min (m+c.count) 999:Nat):Int)=min ((m:Int)+(c.count:Int)) 999 by omega]at L
  simp only[Kd.num];go_enter Tryz.func92,Tryz.ntmps92
  go_wp2
  go_end0
  exact⟨rfl,HP.out⟩
theorem qN(b1 b2 b3 n:Nat)(S:dG)(s:ByteArray)(hs:s.size≤maxLen)(w:World)(h:cW w b1 b2 b3 n S):Calls Tryz.prog 85 #[.agg #[.map (some b1),.map (some b2),.map (some b3)],.string s] w fun e w'=>e=.returned (.bool (S.it s.data.toList).isSome)∧Below w.heap.size w w':=by
 have B1:Below w.heap.size w (w.alloc (.cells #[.map (some b1),.map (some b2),.map (some b3)] 128)):=(Ck _ w).alloc (Cl _) _;have L1:=(h.below B1).m1.Bl Tryz.underlying125 (Tryz.zeroValue3 _) s hs;rw[mu,show(uP S.it s.data.toList).isSome=(S.it s.data.toList).isSome by unfold uP;cases S.it s.data.toList <;> rfl]at L1
 clear h;generalize (S.it s.data.toList).isSome=p at *;generalize (S.it s.data.toList).getD 0=m at *;go_enter Tryz.func85,Tryz.ntmps85
 go_wp2
 go_ret
 exact⟨rfl,B1⟩
theorem nt(b1 b2 b3 n:Nat)(S:dG)(s:ByteArray)(hs:s.size≤maxLen)(w:World)(h:cW w b1 b2 b3 n S):Calls Tryz.prog 86 #[.agg #[.map (some b1),.map (some b2),.map (some b3)],.string s] w fun e w'=>e=.returned (.bool (S.cp s.data.toList))∧Below w.heap.size w w':=by
 have B1:Below w.heap.size w (w.alloc (.cells #[.map (some b1),.map (some b2),.map (some b3)] 128)):=(Ck _ w).alloc (Cl _) _;have L1:=(h.below B1).m2.Bl Tryz.underlying126 (Tryz.zeroValue94 _) s hs;rw[show(pZ S.cp s.data.toList).getD (.agg #[])=.agg #[] by unfold pZ;split <;> rfl,show(pZ S.cp s.data.toList).isSome=S.cp s.data.toList by unfold pZ;split <;> simp_all]at L1
 clear h;generalize S.cp s.data.toList=p at *;go_enter Tryz.func86,Tryz.ntmps86
 go_wp2
 go_ret
 exact⟨rfl,B1.alloc (by simp) _⟩
end
section
open Go.RowKit Go.Proofs
attribute [local go_sem ↓] Go.wp_at_zero Go.wp_at_succ
theorem Tryz.AE:(Tryz.prog.info? 122).map (fun i=>(i.zero,i.size,i.bytes))=some (some (.agg #[.int .i64 0,.int .i64 0,.int .i64 0,.int .i64 0,.int .i64 0,.int .i64 0,.int .i64 0,.int .i64 0,.string CL,.int .i64 0]),10,88):=by kernel_rfl
theorem Tryz.Bb:(Tryz.prog.info? 171).map (fun i=>(i.zero,i.size,i.bytes))=some (some (.agg #[.int .i64 0,.int .i64 0,.int .i64 0,.int .i64 0,.int .i64 0,.int .i64 0,.int .i64 0,.int .i64 0,.int .i64 0,.int .i64 0,.string CL,.int .i64 0]),12,104):=by kernel_rfl
theorem kp (rb : Nat) (W : World) (a : Option Addr) (n c : Nat) (h : W.cell? ⟨rb, 11, none⟩ = some (.slice a n c)) : (method 409 175 (.pointer (some ⟨rb, 11, none⟩)) "Less").run Tryz.prog W = .ok (232, .slice a n c) W := by
 have e1 : (method 409 175 (.pointer (some ⟨rb, 11, none⟩)) "Less").run Tryz.prog W = ((receiverAt 175 (.val (.pointer (some ⟨rb, 11, none⟩))) false (some "Less") >>= fun v => pure (232, v)) : Sem (FuncId × Value)).run Tryz.prog W := by kernel_rfl
 have e2 : (receiverAt 175 (.val (.pointer (some ⟨rb, 11, none⟩))) false (some "Less")).run Tryz.prog W = (loadVar 108 ⟨rb, 11, none⟩).run Tryz.prog W := by kernel_rfl
 have e3:(loadVar 108 ⟨rb,11,none⟩).run Tryz.prog W=.ok (.slice a n c) W:=by go_simp
 rw[e1];have e4:=e2.trans e3;simp[go_sem,e4]
theorem jF (rb : Nat) (W : World) (a : Option Addr) (n c : Nat) (h : W.cell? ⟨rb, 11, none⟩ = some (.slice a n c)) : (method 409 175 (.pointer (some ⟨rb, 11, none⟩)) "Len").run Tryz.prog W = .ok (231, .slice a n c) W := by
 have e1 : (method 409 175 (.pointer (some ⟨rb, 11, none⟩)) "Len").run Tryz.prog W = ((receiverAt 175 (.val (.pointer (some ⟨rb, 11, none⟩))) false (some "Len") >>= fun v => pure (231, v)) : Sem (FuncId × Value)).run Tryz.prog W := by kernel_rfl
 have e2 : (receiverAt 175 (.val (.pointer (some ⟨rb, 11, none⟩))) false (some "Len")).run Tryz.prog W = (loadVar 108 ⟨rb, 11, none⟩).run Tryz.prog W := by kernel_rfl
 have e3:(loadVar 108 ⟨rb,11,none⟩).run Tryz.prog W=.ok (.slice a n c) W:=by go_simp
 rw[e1];have e4:=e2.trans e3;simp[go_sem,e4]
theorem tQ (rb : Nat) (W : World) : (method 409 175 (.pointer (some ⟨rb, 11, none⟩)) "Push").run Tryz.prog W = .ok (235, .pointer (some ⟨rb, 11, none⟩)) W := by kernel_rfl
theorem lD(a:Option Addr)(n c:Nat)(w:World):Calls Tryz.prog 231 #[.slice a n c] w fun e w'=>e=.returned (.int .i64 (n:Int))∧w'=w:=by
 go_enter Tryz.func231,Tryz.ntmps231
 go_wp2
 go_ret
 exact⟨rfl,rfl⟩
end
end Go.Proofs.YtckmppkdpnhodaaGreatDoor
