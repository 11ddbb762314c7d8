import Derived.Test.YtckmppkdpnhodaaGreatDoorT07
set_option maxRecDepth 100000
set_option maxHeartbeats 8000000
set_option linter.unusedVariables false
set_option linter.unusedSimpArgs false
open Go.Value renaming ownBlock→Cp
open List renaming getElem?_eq_getElem→Cr
open Nat renaming zero_add→CJ
namespace Go.Proofs.YtckmppkdpnhodaaGreatDoor
section
open Go.RowKit Go.Proofs
section
variable {tr tr':List Dn} {φ:Nat→Nat} {ids':List Nat}
end
def aQ(c:Cm):ByteArray:=c.k.bs++⟨#[32]⟩++c.word++(if c.k=.closed then⟨#[32]⟩++dE c.count else ByteArray.empty)
structure nF(c:Cm):Prop where
 word:bd c.word=true
 add:c.k=.closed→1≤c.count∧c.count≤99
 other:c.k≠.closed→c.count=0
def fU(tr:List Dn)(k m:Nat):List Nat:=(List.range m).filter fun p=>decide ((dq tr p).org=k)
def own(tr:List Dn)(k:Nat):List Nat:=fU tr k tr.length
theorem rN(tr:List Dn)(k m:Nat):fU tr k (m+1)=fU tr k m++if(dq tr m).org=k then[m] else[]:=by
 unfold fU;rw[List.range_succ,List.filter_append];by_cases h:(dq tr m).org=k <;> simp[h]
theorem tR{tr:List Dn}{k m p:Nat}:p∈fU tr k m↔p<m∧(dq tr p).org=k:=by
 simp[fU]
theorem qq(tr:List Dn)(k m:Nat):(fU tr k m).Nodup:=List.Pairwise.filter _ List.nodup_range
end
section
open Go.RowKit
variable {Q:Exit→Act→World→Prop} {a:Act} {o:Oper}
section
variable {P:Program} (w:World)
theorem ly(t ty:TypeId)(e:TypeId)(i:TypeInfo)(z:Value)(ht:P.underlying t=some (.slice e))(hi:P.info? e=some i)(hz:i.zero=some z)(hsize:i.size=1)(hby:i.bytes=8)(hzs:z.cells.size=1)(u:Value)(ids:List Nat)(hu:aT w u ids)(hl:ids.length≤10000000000):∃v w',(Builtin.append_ #[t,t] ty #[.slice none 0 0,u]).run P w=.ok v w'∧aT w' v ids∧Below w.heap.size w w'∧∀b,v.ownBlock=some b→b=w.heap.size∧b<w'.heap.size:=by
 obtain⟨p,cap,rfl,hc⟩:=hu;cases ids with
 |nil =>
  refine⟨.slice none 0 0,w,?_,⟨none,0,rfl,fun i x hx=>by simp at hx⟩,Below.refl _ _,fun b hb=>by simp[Cp]at hb⟩;cases p <;> simp[Builtin.append_,run_underlying ht,sizeOf,typeInfo,hi,Builtin.lenOf,Builtin.firstCells,loadCells,loadCellsFrom]
 |cons y l =>
  obtain⟨g,rfl,-⟩:=hc 0 y rfl;have hnews:∀j v,(ints (y::l))[j]?=some v→w.cell? ((⟨g,0,none⟩:Addr).add j)=some v:=fun j v hv=>by
   have hj:j<(y::l).length:=by
    have:=(List.getElem?_eq_some_iff.1 hv).1;simpa[ints] using this
   obtain⟨g',hg',hcell⟩:=hc j (y::l)[j] (Cr hj);simp only[Option.some.injEq,Addr.mk.injEq,and_true]at hg';subst hg';rw[Addr.add_mid,CJ,hcell];rw[←hv,ints,List.getElem?_map,Cr hj]
   rfl
  obtain⟨g',cap',w',hr,h2,-,h4,h5⟩:=hZ (P:=P) w t ty 0 e i z 1 8 ht hi hz hsize hby hzs (by omega) (.slice none 0 0) 0 [] (World.ownsRow_nil ..) ⟨g,0,none⟩ (y::l).length cap (ints (y::l)) (by simp[ints]) hnews (by intro v hv;simp only[ints,List.mem_map]at hv;obtain⟨x,-,rfl⟩:=hv;rfl) (by simp) (by unfold maxLen;omega) (by omega) (by omega) w.heap.size rfl;rw[List.nil_append,CJ]at h2
  rw[CJ]at hr;refine⟨_,w',hr,aT.Au h2,?_,fun b hb=>?_⟩
  ·rcases h4 with⟨h,_⟩|⟨_,h⟩
   ·cases h
   exact h
  simp only[Cp,Option.some.injEq]at hb;rcases h4 with⟨h,_⟩|⟨h,_⟩
  ·cases h
  omega
theorem lK{K:Act→World→Prop}(s x:Operand)(t:TypeId)(ho:o.op=.call {callee:=.builtin .append,args:=#[s,x],argTypes:=#[t,t]})(e:TypeId)(i:TypeInfo)(z:Value)(ht:P.underlying t=some (.slice e))(hi:P.info? e=some i)(hz:i.zero=some z)(hsize:i.size=1)(hby:i.bytes=8)(hzs:z.cells.size=1)(hs:a.eval s=.slice none 0 0)(u:Value)(hx:a.eval x=u)(ids:List Nat)(hu:aT w u ids)(hl:ids.length≤10000000000)(h:∀v w',aT w' v ids→Below w.heap.size w w'→(∀b,v.ownBlock=some b→b=w.heap.size∧b<w'.heap.size)→K (a.put o.dst v) w'):o.wp P a w K Q:=by
 obtain⟨v,w',hr,h2,h3,h4⟩:=ly (P:=P) w t o.type e i z ht hi hz hsize hby hzs u ids hu hl;unfold Oper.wp execOp;simp only[ho,resolve,invoke,builtin,Sem.run_bind,Sem.run_pure,Result.andThen_ok,List.map_toArray,List.map_cons,List.map_nil,hs,hx,hr];exact h v w' h2 h3 h4
theorem je{ops:Array Oper}{rest:List Oper}(hgd:o.guard=none)(s x:Operand)(t:TypeId)(ho:o.op=.call {callee:=.builtin .append,args:=#[s,x],argTypes:=#[t,t]})(e:TypeId)(i:TypeInfo)(z:Value)(ht:P.underlying t=some (.slice e))(hi:P.info? e=some i)(hz:i.zero=some z)(hsize:i.size=1)(hby:i.bytes=8)(hzs:z.cells.size=1)(hs:a.eval s=.slice none 0 0)(u:Value)(hx:a.eval x=u)(ids:List Nat)(hu:aT w u ids)(hl:ids.length≤10000000000)(h:∀v w',aT w' v ids→Below w.heap.size w w'→(∀b,v.ownBlock=some b→b=w.heap.size∧b<w'.heap.size)→wpList P ops Q rest (a.put o.dst v) w'):wpList P ops Q (o::rest) a w:=wpList_plain hgd fun _ hK=>lK w s x t ho e i z ht hi hz hsize hby hzs hs u hx ids hu hl fun v w' h2 h3 h4=>hK _ _ (h v w' h2 h3 h4)
end
theorem nV{w:World}{base:Nat}{e:TypeId}{g n cap:Nat}{xs:List Value}(h:w.ownsRow base e 1 (.slice (some ⟨g,0,none⟩) n cap) n xs)(i:Nat)(x:Value):(w.setCell ⟨g,i,none⟩ x).ownsRow base e 1 (.slice (some ⟨g,0,none⟩) n cap) n (xs.set i x):=by
 rcases h.2 with⟨h1,_⟩|⟨g',cap2,cur2,hv,hb,hg,h1,h2,h3,h4⟩
 ·cases h1
 simp only[Value.slice.injEq,Option.some.injEq,Addr.mk.injEq,and_true,true_and]at hv;obtain⟨rfl,rfl⟩:=hv;refine⟨by simp[h.1],.inr ⟨g,cap,_,rfl,hb,ae hg x,h1,h2,by simp[h3],?_⟩⟩;simp only[Array.toList_setIfInBounds,List.take_set,h4]
end
end Go.Proofs.YtckmppkdpnhodaaGreatDoor
