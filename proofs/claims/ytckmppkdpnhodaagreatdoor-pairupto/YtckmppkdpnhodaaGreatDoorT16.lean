import Derived.Test.YtckmppkdpnhodaaGreatDoorT13
import Derived.Shelf.Strings.BuilderK
import Derived.Test.YtckmppkdpnhodaaGreatDoorIter
import Derived.Test.YtckmppkdpnhodaaGreatDoorT00
set_option maxRecDepth 100000
set_option maxHeartbeats 8000000
set_option linter.unusedVariables false
set_option linter.unusedSimpArgs false
open List renaming length_eq_zero_iff→DH,mem_filter→Dc,mem_cons→Co,flatMap_cons→CV,map_cons→Dp,mem_cons_of_mem→CQ,mem_cons_self→Db,mem_map→CO,length_append→Cz
open ByteArray renaming toList→Dl,mk→CU,size_append→C7
open Go.ByteArray renaming toList_eq→CZ
open Go.RowKit.Below renaming refl→Ck
open Array renaming getElem?_eq_some_iff→Cn
namespace Go.Proofs.YtckmppkdpnhodaaGreatDoor
section
open Go.RowKit Go.Proofs Go.Shelf
attribute [local go_sem ↓] Go.wp_at_zero Go.wp_at_succ
def dt(S:dG)(c:Cm):Bool:=match c.k with
 |.listen=>(S.it c.word.data.toList).isSome
 |.finWait=>S.cp c.word.data.toList
 |_=>true
end
section
open Go.RowKit Go.Proofs
variable {known:List Nat} {tr:List Dn} {x:ByteArray}
theorem gY{α:Type}{P:List α→Prop}(h0:P [])(h1:∀l a,P l→P (l++[a])):∀l,P l:=fun l=>by
 have:∀n (l:List α),l.length=n→P l:=by
  intro n
  induction n with
  |zero=>intro l hl;rw[DH.1 hl];exact h0
  |succ n ih =>
   intro l hl;have hne:l≠[]:=fun e=>by rw[e]at hl;simp at hl
   rw[←List.dropLast_concat_getLast hne];exact h1 _ _ (ih _ (by simp[hl]))
 exact this _ l rfl
theorem iL{a b:ByteArray}(h:a.data.toList=b.data.toList):a=b:=by
 cases a;cases b;simp only[ByteArray.mk.injEq];exact Array.toList_inj.1 h
section
variable (me:Nat) {log:List Cm} {h8:log.length≤8} {hok:∀c∈log,nF c}
end
def bF(kind:List UInt8)(s:List UInt8):List UInt8:=kind++s++[10]
def bB(S:dG)(s:List UInt8):List UInt8:=om++s++[32]++(dE ((S.it s).getD 0)).data.toList++[10]
def dp(S:dG)(s:ByteArray):Prop:=∃xi xc xn:List (List UInt8),(xi.Pairwise (· < ·)∧∀x,x∈xi↔(S.it x).isSome=true)∧(xc.Pairwise (· < ·)∧∀x,x∈xc↔S.cp x=true)∧(xn.Pairwise (· < ·)∧∀x,x∈xn↔S.no x=true)∧s.data.toList=xi.flatMap (bB S)++xc.flatMap (bF fe)++xn.flatMap (bF qy)
theorem ja:∀ws:List Wd,∃out:List Wd,out.Pairwise (· < ·)∧∀x,x∈out↔x∈ws
 |[]=>⟨[],.nil,fun _=>Iff.rfl⟩
 |a::r=>by
  obtain⟨out,h1,h2⟩:=ja r;refine⟨out.filter (fun y=>decide (y<a))++(a::out.filter (fun y=>decide (a<y))),?_,fun x=>?_⟩
  ·refine List.pairwise_append.2 ⟨h1.filter _,List.pairwise_cons.2 ⟨fun y hy=>?_,h1.filter _⟩,fun x hx y hy=>?_⟩
   ·simpa using (Dc.1 hy).2
   have hxa:x<a:=by simpa using (Dc.1 hx).2
   rcases Co.1 hy with rfl|hy
   ·exact hxa
   have hay:a<y:=by simpa using (Dc.1 hy).2
   exact fF hxa hay
  simp only[List.mem_append,Dc,decide_eq_true_eq,Co,h2]
  constructor
  ·rintro (h|h|h)
   ·exact .inr h.1
   ·exact .inl h
   exact .inr h.1
  rintro (h|h)
  ·exact .inr (.inl h)
  by_cases hl:x<a
  ·exact .inl ⟨h,hl⟩
  by_cases hg:a<x
  ·exact .inr (.inr ⟨h,hg⟩)
  exact .inr (.inl (lL hl hg))
theorem filter_flatMap{α β:Type}(p:α→Bool)(g:α→List β):∀l:List α,(l.filter p).flatMap g=l.flatMap fun x=>if p x=true then g x else[]
 |[]=>rfl
 |a::r=>by
  by_cases h:p a=true
  ·rw[List.filter_cons_of_pos h,CV,CV,filter_flatMap p g r,if_pos h]
  rw[List.filter_cons_of_neg h,CV,filter_flatMap p g r,if_neg h,List.nil_append]
theorem jH{α β γ:Type}(f:α→β)(g:β→List γ):∀l:List α,(l.map f).flatMap g=l.flatMap fun x=>g (f x)
 |[]=>rfl
 |a::r=>by rw[Dp,CV,CV,jH f g r]
theorem qw(h:bw tr known x≠0):x.toList∈bu tr known:=by
 have hs:sumOf tr known x known≠0:=fun e=>h (by unfold bw;omega)
 have:∀l:List Nat,sumOf tr known x l≠0→∃a∈l,(cT tr a).word=x:=by
  intro l
  induction l with
  |nil=>intro h;simp[sumOf]at h
  |cons a r ih =>
   intro h;by_cases ha:nB tr known x a=0
   ·have:sumOf tr known x r≠0:=fun e=>h (by simp only[sumOf,Dp,List.sum_cons]at e ⊢;omega)
    obtain⟨b,hb,e⟩:=ih this;exact⟨b,CQ _ hb,e⟩
   refine⟨a,Db ..,?_⟩;by_cases e:(cT tr a).word=x
   ·exact e
   exact absurd (if_neg (fun hh=>e hh.2.1)) ha
 obtain⟨a,ha,e⟩:=this known hs;exact CO.2 ⟨a,ha,by rw[e]⟩
theorem qM{k:Kd}(h:hasB tr known k x=true):x.toList∈bu tr known:=by
 obtain⟨a,ha,e⟩:=List.any_eq_true.1 h;simp only[dz,Bool.and_eq_true,decide_eq_true_eq]at e;exact CO.2 ⟨a,ha,by rw[e.1.2]⟩
theorem mm{xs:List (List UInt8)}{out:List ByteArray}{p:ByteArray→Bool}{g:List UInt8→List UInt8}{g':ByteArray→List UInt8}(ho:(out.map Dl).Pairwise (· < ·))(hx:xs.Pairwise (· < ·))(hm:∀x:ByteArray,x.data.toList∈xs↔p x=true)(hin:∀x:ByteArray,p x=true→x.toList∈out.map Dl)(hg:∀x:ByteArray,g' x=if p x=true then g x.data.toList else[]):xs.flatMap g=out.flatMap g':=by
 have e:xs=(out.filter p).map Dl:=by
  refine dH _ _ hx ?_ fun x=>?_
  ·exact List.Pairwise.sublist (List.Sublist.map _ List.filter_sublist) ho
  rw[CO];have hxx:x=(CU x.toArray).data.toList:=rfl
  constructor
  ·intro h;have hp:p ⟨x.toArray⟩=true:=(hm ⟨x.toArray⟩).1 h;obtain⟨y,hy,hyx⟩:=CO.1 (hin _ hp);have:y=⟨x.toArray⟩:=toList_inj hyx;subst this;exact⟨_,Dc.2 ⟨hy,hp⟩,by rw[CZ]⟩
  rintro ⟨y,hy,rfl⟩
  rw[CZ];exact(hm y).2 (Dc.1 hy).2
 rw[e,jH,filter_flatMap];congr 1
 funext x
 rw[hg x,CZ]
section
variable {me:Nat} {log:List Cm} {h8:log.length≤8} {hok:∀c∈log,nF c}
end
theorem Tryz.BK:(Tryz.prog.info? 185).map (·.size)=some 2:=by kernel_rfl
theorem Tryz.Ca:liesAt Tryz.prog Tryz.prog.depth 185 (2 / Tryz.prog.cellsOf 185) 0 185 1=true:=by kernel_rfl
theorem Tryz.Br:(Tryz.prog.info? 5).map (fun i=>(i.zero,i.size,i.bytes))=some (some (.int .u8 0),1,1):=by kernel_rfl
theorem mE(b:Nat)(w:World)(h0:w.cell? ⟨b,0,none⟩=some (.pointer (some ⟨b,0,none⟩))):Calls Tryz.prog 135 #[.pointer (some ⟨b,0,none⟩)] w fun e w'=>e=.returned (.tuple #[])∧w'=w:=by
 obtain⟨j,hj,_⟩:=Option.map_eq_some_iff.1 Tryz.BK;go_enter Tryz.func135,Tryz.ntmps135
 go_wp2
 rw[Lib.run_neq_ptr_same w _ Tryz.underlying183 hj];go_wp2
 go_end0
 exact⟨rfl,rfl⟩
theorem lz(b:Nat)(w:World)(h0:w.cell? ⟨b,0,none⟩=some (.pointer none))(hsh:w.shape? b=some (185,2))(hfz:w.frozen? ⟨b,0,none⟩=false):Calls Tryz.prog 135 #[.pointer (some ⟨b,0,none⟩)] w fun e w'=>e=.returned (.tuple #[])∧w'=w.setCell ⟨b,0,none⟩ (.pointer (some ⟨b,0,none⟩)):=by
 obtain⟨j,hj,hjs⟩:=Option.map_eq_some_iff.1 Tryz.BK;go_enter Tryz.func135,Tryz.ntmps135
 go_wp2
 rw[Lib.run_to_unsafe w ⟨b,0,none⟩ Tryz.underlying183 Tryz.underlying218 hj (by rw[hjs];decide) hsh (Nat.zero_lt_succ 1)];simp only[Result.andThen];rw[Oper.upon_value];go_wp2
 rw[run_callFunc_extern Tryz.func162 (by kernel_rfl) (by kernel_rfl) (by kernel_rfl) (e:=Extern.AbiNoEscape.same) (by kernel_rfl)];rw[Lib.run_noEscape];simp only[Result.andThen];rw[Oper.upon_value];go_wp2
 rw[Lib.run_from_unsafe w ⟨b,0,none⟩ Tryz.underlying218 Tryz.underlying183 hj hsh Tryz.Ca];simp only[Result.andThen];rw[Oper.upon_value];go_wp2
 go_end0
 exact⟨rfl,rfl⟩
theorem qU(B b:Nat)(bs:List Value)(w:World)(h:Lib.IsBuilderF 185 5 B b bs w):Calls Tryz.prog 135 #[.pointer (some ⟨b,0,none⟩)] w fun e w'=>e=.returned (.tuple #[])∧(Lib.BuilderAtF 185 5 B b (.pointer (some ⟨b,0,none⟩)) bs w'∧Below B w w'∧Lib.OthersKept 5 (some b) w w'):=by
 rcases h with h|h
 ·refine(lz b w h.cell0 h.shape h.frozen0).mono ?_;rintro e w' ⟨rfl,rfl⟩
  exact⟨rfl,h.used _,(Ck B w).setCell (p:=⟨b,0,none⟩) h.1 _,(Lib.OthersKept.refl _ _ w).setCell ⟨b,0,none⟩ rfl _⟩
 refine(mE b w h.cell0).mono ?_;rintro e w' ⟨rfl,rfl⟩
 exact⟨rfl,h,Ck B _,Lib.OthersKept.refl _ _ _⟩
theorem iQ(B b:Nat)(bs:List Value)(s:ByteArray)(w:World)(h:Lib.IsBuilderF 185 5 B b bs w)(hlen:bs.length+s.size≤140737488355328)(hBw:B≤w.heap.size):Calls Tryz.prog 96 #[.pointer (some ⟨b,0,none⟩),.string s] w fun e w'=>e=.returned (.tuple #[.int .i64 s.size,.nilIface])∧(Lib.BuilderAtF 185 5 B b (.pointer (some ⟨b,0,none⟩)) (bs++Lib.strCells s) w'∧Below B w w'∧Lib.OthersKept 5 (some b) w w'):=by
 obtain⟨i0,hi,hz0,hz1,hz2⟩:=info_parts Tryz.Br;go_enter Tryz.func96,Tryz.ntmps96
 go_wp2_with (go_at_call 135;refine(qU B b bs _ h).mono ?_)
 rintro e w1 ⟨rfl,h1,hb1,hk1⟩
 obtain⟨hB,v,hbk,hown,hne⟩:=h1;have c0:w1.cell? ⟨b,0,none⟩=some (.pointer (some ⟨b,0,none⟩)):=by rw[Lib.cell_of_heap hbk];rfl
 have c1:w1.cell? ⟨b,1,none⟩=some v:=by rw[Lib.cell_of_heap hbk];rfl
 go_wp2_with (at_builtin;refine Lib.wpList_append_own_stringF _ rfl _ _ 55 9 rfl B 5 i0 Tryz.underlying55 Tryz.underlying9 hi hz0 hz1 hz2 _ _ _ rfl hown s rfl ?c3 ?c4 ?c5 ?_)
 case c3=>unfold maxLen;omega
 case c4=>omega
 case c5=>have:=hb1.size;omega
 intro v' w2 hown' hgrow _;have hlt:b<w1.heap.size:=by
  rcases Nat.lt_or_ge b w1.heap.size with h'|h'
  ·exact h'
  simp[Array.getElem?_eq_none h']at hbk
 have hb2:w2.heap[b]?=some (.cells #[.pointer (some ⟨b,0,none⟩),v] 185 (0,0)):=by
  rw[hgrow.block b hlt (fun e=>hne e.symm)];exact hbk
 have d0:w2.cell? ⟨b,0,none⟩=some (.pointer (some ⟨b,0,none⟩)):=by rw[Lib.cell_of_heap hb2];rfl
 have d1:w2.cell? ⟨b,1,none⟩=some v:=by rw[Lib.cell_of_heap hb2];rfl
 have f1:w2.frozen? ⟨b,1,none⟩=false:=Lib.frozen_of_heap hb2 1;obtain⟨ao,n',cap,rfl⟩:∃ao n' cap,v'=.slice ao n' cap:=by
  rcases hown'.2 with⟨hv,_⟩|⟨g,cap,cur,fz,hv,_⟩
  ·exact⟨_,_,_,hv⟩
  exact⟨_,_,_,hv⟩
 go_wp2
 go_ret2
 refine⟨rfl,?_,?_,(hk1.grown hgrow (Lib.ownsRowF_kind hown)).setCell ⟨b,1,none⟩ rfl _⟩
 ·exact Lib.BuilderAtF.put (T:=185) (e:=5) hB hb2 (bs':=bs++Lib.strCells s) (by simpa[Lib.strCells_length] using hown') (by decide)
 exact(hb1.grown hgrow (by have:=hb1.size;omega) (fun k hk=>(hown.lt k hk).1)).setCell (p:=⟨b,1,none⟩) hB _
end
section
open Go.RowKit Go.Proofs Go.Shelf Go.Sort Go.Maps
variable {B b n:Nat} {bs:List Value} {e:TypeId} {v:Value} {w w':World} {xs:List (List UInt8)}
def gT(w:World)(v:Value)(xs:List (List UInt8)):Prop:=∃p cap,v=.slice p xs.length cap∧∀(i:Nat) (x:List UInt8),xs[i]?=some x→∃(g:Nat) (cur:Array Value),p=some ⟨g,0,none⟩∧w.heap[g]?=some (.cells cur 9 (0,0))∧cur[i]?=some (Value.string ⟨x.toArray⟩)
theorem gT.Au{base:Nat}(hn:n=xs.length)(h:w.ownsRow base 9 1 v n (xs.map encStr)):gT w v xs:=by
 subst hn;rcases h.2 with⟨rfl,h0⟩|⟨g,cap,cur,hv,hb,hg,h1,h2,h3,h4⟩
 ·have:xs=[]:=DH.1 h0;subst this;exact⟨none,0,rfl,fun i x hx=>by simp at hx⟩
 refine⟨some ⟨g,0,none⟩,cap,hv,fun i x hx=>⟨g,cur,rfl,hg,?_⟩⟩;have hi:i<xs.length:=(List.getElem?_eq_some_iff.1 hx).1;rw[←Array.getElem?_toList];have:(cur.toList.take (xs.length*1))[i]?=(xs.map encStr)[i]?:=by rw[h4]
 rw[List.getElem?_take_of_lt (by omega)]at this;rw[this,List.getElem?_map,hx]
 rfl
theorem gT.kept(h:gT w v xs)(hb:Lib.IsBuilderF 185 5 B b bs w)(hk:Lib.OthersKept 5 (some b) w w'):gT w' v xs:=by
 obtain⟨p,cap,hv,hc⟩:=h;refine⟨p,cap,hv,fun i x hx=>?_⟩;obtain⟨g,cur,h1,h2,h3⟩:=hc i x hx;refine⟨g,cur,h1,hk g _ h2 (fun e=>?_) (fun c fz e=>by cases e),h3⟩;cases e;rcases hb with⟨-,u,hu,-⟩|⟨-,u,hu,-⟩ <;> (rw[h2]at hu;cases hu)
theorem gT.below(h:gT w v xs)(hb:Below w.heap.size w w'):gT w' v xs:=by
 obtain⟨p,cap,hv,hc⟩:=h;refine⟨p,cap,hv,fun i x hx=>?_⟩;obtain⟨g,cur,h1,h2,h3⟩:=hc i x hx;exact⟨g,cur,h1,(hb.block g (Cn.1 h2).1).trans h2,h3⟩
theorem rG{xs:List Value}(h:w.ownsRowF B e 1 v n xs)(hb:Below w.heap.size w w'):w'.ownsRowF B e 1 v n xs:=by
 obtain⟨h0,h⟩:=h;refine⟨h0,?_⟩;rcases h with h|⟨g,cap,cur,fz,h1,h2,h3,h4⟩
 ·exact .inl h
 exact .inr ⟨g,cap,cur,fz,h1,h2,(hb.block g (Cn.1 h3).1).trans h3,h4⟩
theorem gg{T:TypeId}(h:Lib.IsBuilderF T e B b bs w)(hb:Below w.heap.size w w'):Lib.IsBuilderF T e B b bs w':=by
 have k:∀p,Lib.BuilderAtF T e B b p bs w→Lib.BuilderAtF T e B b p bs w':=fun p ⟨h1,v,h2,h3,h4⟩ =>
  ⟨h1,v,(hb.block b (Cn.1 h2).1).trans h2,rG h3 hb,h4⟩
 exact h.elim (fun x=>.inl (k _ x)) (fun x=>.inr (k _ x))
theorem nP{ss ks:List (List UInt8)}(hp:ss.Perm ks)(hn:ks.Nodup):(ss.mergeSort (fun x y=>decide (x≤y))).Pairwise (· < ·)∧∀s,s∈ss.mergeSort (fun x y=>decide (x≤y))↔s∈ks:=by
 have hperm:(ss.mergeSort (fun x y=>decide (x≤y))).Perm ks:=(List.mergeSort_perm ss _).trans hp;have h1:(ss.mergeSort (fun x y=>decide (x≤y))).Pairwise (fun a b=>decide (a≤b)=true):=List.pairwise_mergeSort (fun a b c hab hbc=>by simp only[decide_eq_true_eq]at *;exact List.le_trans hab hbc) (fun a b=>by simp only[Bool.or_eq_true,decide_eq_true_eq];exact List.le_total a b) ss;have h2:(ss.mergeSort (fun x y=>decide (x≤y))).Nodup:=hperm.nodup_iff.2 hn;refine⟨(h1.and h2).imp fun {a b} h=>?_,fun s=>hperm.mem_iff⟩;have hle:a≤b:=by simpa using h.1
 by_cases hlt:a<b
 ·exact hlt
 exact absurd (lL hlt (List.not_lt.2 hle)) h.2
theorem iR(kind:List UInt8)(hk:kind.length≤10)(xs:List (List UInt8))(h8:∀s∈xs,s.length≤8):(xs.flatMap (bF kind)).length≤19*xs.length:=by
 induction xs with
 |nil=>simp
 |cons x r ih =>
  have:=ih (fun s hs=>h8 s (CQ _ hs));have hx:=h8 x (Db ..);simp only[CV,Cz,bF,List.length_cons,List.length_nil]at *;omega
theorem oy(l:List UInt8)(s:ByteArray):Lib.byteCells l++Lib.strCells s=Lib.byteCells (l++s.data.toList):=by
 simp[Lib.byteCells,Lib.strCells]
theorem gV(B b mb n:Nat)(kind:ByteArray)(hkd:kind.size≤10)(l:List UInt8)(hl:l.length≤1099511627776)(f:List UInt8→Option Value)(h8:∀s,(f s).isSome=true→s.length≤8)(hn:n≤4294967296)(w:World)(hI:Lib.IsBuilderF 185 5 B b (Lib.byteCells l) w)(hB:B≤w.heap.size)(hm:bh w mb n f):Calls Tryz.prog 98 #[.pointer (some ⟨b,0,none⟩),.string kind,.map (some mb)] w fun e w'=>e=.returned (.tuple #[])∧∃xs:List (List UInt8),xs.Pairwise (· < ·)∧(∀s,s∈xs↔(f s).isSome=true)∧xs.length≤n∧Lib.IsBuilderF 185 5 B b (Lib.byteCells (l++xs.flatMap (bF kind.data.toList))) w'∧Below B w w':=by
 obtain⟨D,hD,hsz,hnd,hks⟩:=hm.keys;have HK:Hid (∀W,Calls Tryz.prog 137 #[.map (some mb)] W fun e w'=>e=.returned (.func (.func 164) #[] #[.pointer (some ⟨W.heap.size,0,none⟩)])∧w'=W.alloc (.cells #[.map (some mb)] 126)):=fun W=>callsIn_wide.1 (Tryz.maps_Keys_137 (some mb) W)
 have HS:Hid (Calls Tryz.prog 94 #[.func (.func 164) #[] #[.pointer (some ⟨w.heap.size,0,none⟩)]] (w.alloc (.cells #[.map (some mb)] 126)) fun e w'=>∃(p:Option Addr) (cap:Nat) (xs:List (List UInt8)),e=.returned (.slice p xs.length cap)∧gT w' (.slice p xs.length cap) xs∧xs.Pairwise (· < ·)∧(∀s,s∈xs↔(f s).isSome=true)∧xs.length≤n∧Below w.heap.size w w'):=by
  refine(callsIn_wide.1 (Tryz.slices_Sorted_keys_94_137 mb n D oq w hD (by unfold maxLen;omega) (by omega))).mono ?_;rintro e w' ⟨v,ss,rfl,hS,hrow,-,hb⟩
  obtain⟨g1,g2⟩:=nP hS hnd;have hlen:(ss.mergeSort (fun x y=>decide (x≤y))).length=ss.length:=List.length_mergeSort ss;have hst:=gT.Au hlen.symm hrow;obtain⟨p,cap,rfl,-⟩:=id hst;refine⟨p,cap,_,rfl,hst,g1,fun s=>(g2 s).trans (hks s),?_,((Ck _ w).alloc (Nat.le_refl _) _).trans (hb.mono (by simp))⟩;rw[hlen,hS.length_eq];have:(strKeys D).length=Maps.size D:=by cases D <;> simp[strKeys,Maps.size]
  omega
 have HW:Hid (∀W (l':List UInt8) (s:ByteArray),Lib.IsBuilderF 185 5 B b (Lib.byteCells l') W→l'.length+s.size≤140737488355328→B≤W.heap.size→Calls Tryz.prog 96 #[.pointer (some ⟨b,0,none⟩),.string s] W fun e w'=>e=.returned (.tuple #[.int .i64 s.size,.nilIface])∧Lib.IsBuilderF 185 5 B b (Lib.byteCells (l'++s.data.toList)) w'∧Below B W w'∧Lib.OthersKept 5 (some b) W w'):=fun W l' s h1 h2 h3=>(iQ B b (Lib.byteCells l') s W h1 (by rw[Lib.byteCells_length];exact h2) h3).mono (by
   rintro e w' ⟨rfl,g1,g2,g3⟩
   rw[oy]at g1;exact⟨rfl,.inr g1,g2,g3⟩)
 have HI:=hid hI;have hmb:=hm.lt;clear hI hm hD hks hnd hsz;go_enter Tryz.func98,Tryz.ntmps98
 go_wp2_with (first
  |(go_at_call 137;refine(HK.out _).mono ?_;rintro e w0 ⟨rfl,rfl⟩)
  |(go_at_call 94;refine HS.out.mono ?_;rintro e w1 ⟨p,cap,xs,rfl,hK,hsort,hmem,hxl,hb1⟩))
 have hI1:Lib.IsBuilderF 185 5 B b (Lib.byteCells l) w1:=gg HI.out hb1;have hx8:∀s∈xs,s.length≤8:=fun s hs=>h8 s ((hmem s).1 hs)
 have HM:Hid ((∀s,s∈xs↔(f s).isSome=true)∧xs.Pairwise (· < ·)):=⟨hmem,hsort⟩;have hs1:=hb1.size;clear hmem hsort;go_loopw [12] (fun i wr=>∃k:Nat,k≤xs.length∧i=.int .i64 k∧Hid (Lib.IsBuilderF 185 5 B b (Lib.byteCells (l++(xs.take k).flatMap (bF kind.data.toList))) wr∧gT wr (.slice p xs.length cap) xs∧Below B w wr)) (fun i _=>xs.length-(intOf i).toNat)
 case atStart=>exact⟨0,Nat.zero_le _,rfl,by simpa using hI1,hK,hb1.mono hB⟩
 case round =>
  obtain⟨k,hk',rfl,HR⟩:=hrel;obtain⟨r1,r2,r3⟩:=HR.out;have hrs:=r3.size;by_cases hlt:k<xs.length
  ·obtain⟨p',cap',hp',hcs⟩:=id r2;obtain⟨g,cur,hg,hgb,hgc⟩:=hcs k xs[k] (List.getElem?_eq_getElem hlt);obtain⟨rfl,-,rfl⟩:p=p'∧True∧cap=cap':=by simpa using hp'
   subst hg;have ck:wr.cell? ⟨g,k,none⟩=some (.string ⟨xs[k].toArray⟩):=by rw[cell_of_heap hgb];exact hgc
   clear hp' hcs hgb hgc;have hx8':(CU xs[k].toArray).size≤8:=hx8 _ (List.getElem_mem hlt);have hkx:(kind++⟨xs[k].toArray⟩:ByteArray).size≤18:=by rw[C7];omega
   have HSN:Hid ((xs.take (k+1)).flatMap (bF kind.data.toList)=(xs.take k).flatMap (bF kind.data.toList)++bF kind.data.toList xs[k]):=fA xs k hlt _;have hpl:((xs.take k).flatMap (bF kind.data.toList)).length≤19*k:=by
    have:=iR kind.data.toList (show kind.data.toList.length≤10 from Array.length_toList ▸ hkd) (xs.take k) (fun s hs=>hx8 s (List.mem_of_mem_take hs));rw[List.length_take]at this
    omega
   have HWk:Hid (Calls Tryz.prog 96 #[.pointer (some ⟨b,0,none⟩),.string (kind++⟨xs[k].toArray⟩++⟨#[10]⟩)] wr fun e w'=>(∃z,e=.returned (.tuple #[.int .i64 z,.nilIface]))∧Lib.IsBuilderF 185 5 B b (Lib.byteCells (l++(xs.take (k+1)).flatMap (bF kind.data.toList))) w'∧gT w' (.slice (some ⟨g,0,none⟩) xs.length cap) xs∧Below B w w'):=by
    have hq:(l++(xs.take k).flatMap (bF kind.data.toList)).length+(kind++⟨xs[k].toArray⟩++⟨#[10]⟩:ByteArray).size≤140737488355328:=by
     rw[C7,C7,Cz];have e3:(CU #[10]).size=1:=rfl;omega
    have hc:=HW.out wr (l++(xs.take k).flatMap (bF kind.data.toList)) (kind++⟨xs[k].toArray⟩++⟨#[10]⟩) r1 hq (Nat.le_trans hB hrs);have hd:(kind++⟨xs[k].toArray⟩++⟨#[10]⟩:ByteArray).data.toList=bF kind.data.toList xs[k]:=by simp[bF,ByteArray.data_append]
    generalize (kind++⟨xs[k].toArray⟩++⟨#[10]⟩:ByteArray)=kk at *;refine Calls.mono hc ?_;rintro e w' ⟨he,g1,g2,g3⟩
    refine⟨⟨_,he⟩,?_,r2.kept r1 g3,r3.trans g2⟩;rw[HSN.out,←List.append_assoc,←hd];exact g1
   clear r1 r2 r3 HR;generalize (CU xs[k].toArray)=x at *;go_wp2_with (go_at_call 96;refine HWk.out.mono ?_;rintro e w2 ⟨⟨z,rfl⟩,g1,g2,g3⟩)
   go_roundw
   case rel=>exact⟨k+1,by omega,by go_num,g1,g2,g3⟩
   case measure=>simp[intOf];omega
  have hke:xs.take k=xs:=List.take_of_length_le (by omega);rw[hke]at r1
  have HF:Hid (Lib.IsBuilderF 185 5 B b (Lib.byteCells (l++xs.flatMap (bF kind.data.toList))) wr∧Below B w wr):=⟨r1,r3⟩;clear r1 r2 r3 HR hke;go_wp2
  go_end0
  exact⟨rfl,xs,HM.out.2,HM.out.1,hxl,HF.out.1,HF.out.2⟩
end
end Go.Proofs.YtckmppkdpnhodaaGreatDoor
