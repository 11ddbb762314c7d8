import Derived.Test.YtckmppkdpnhodaaGreatDoorT30
set_option maxRecDepth 100000
set_option maxHeartbeats 8000000
set_option linter.unusedVariables false
set_option linter.unusedSimpArgs false
namespace Go.Proofs.YtckmppkdpnhodaaGreatDoor
open Go.RowKit Go.Proofs
variable {P:Program} {w:World}
theorem qV(a b:List It)(t:Nat):aX (a++b) t=aX a t+aX b t:=by simp[aX]
theorem vK{n i:Nat}(hn:n≤5){s:Sr}(x:En)(hnow:s.now<1152921504606846976):bj (uQ n i s x).its≤bj s.its+1:=by
 have h1:∀t,aX (de i s.now x n) t≤1:=fun t=>by
  by_cases ht:t<n∧t≠i
  ·rw[←bM,kS hnow hn ht.1 ht.2];exact Nat.le_refl _
  have:aX (de i s.now x n) t=0:=by
   unfold aX;rw[List.countP_eq_zero];intro p hp hc;have:=lZ hnow hn hp;simp at hc;omega
  omega
 have h2:∀t,aX (uQ n i s x).its t≤aX s.its t+1:=fun t=>by
  show aX (s.its++de i s.now x n) t≤_
  rw[qV];have:=h1 t;omega
 have:=h2 0;have:=h2 1;have:=h2 2;have:=h2 3;have:=h2 4;unfold bj;omega
theorem j8(base:Nat)(t ty e:TypeId)(i:TypeInfo)(size:Nat)(ht:P.underlying t=some (.slice e))(hi:P.info? e=some i)(v:Value)(n:Nat)(xs:List Value)(hown:w.ownsRow base e size v n xs)(p:Option Addr)(c:Nat):(Builtin.append_ #[t,t] ty #[v,.slice p 0 c]).run P w=.ok v w:=by
 rcases hown.2 with⟨rfl,rfl⟩|⟨g,cap,cur,rfl,_,_,hnc,_⟩ <;> cases p
 ·simp[Builtin.append_,run_underlying ht,sizeOf,typeInfo,hi,Builtin.lenOf,Builtin.firstCells]
 ·simp[Builtin.append_,run_underlying ht,sizeOf,typeInfo,hi,Builtin.lenOf,Builtin.firstCells,loadCells,loadCellsFrom]
 ·simp[Builtin.append_,run_underlying ht,sizeOf,typeInfo,hi,Builtin.lenOf,Builtin.firstCells,hnc,storeCells]
 simp[Builtin.append_,run_underlying ht,sizeOf,typeInfo,hi,Builtin.lenOf,Builtin.firstCells,hnc,storeCells,loadCells,loadCellsFrom]
theorem dI{ops:Array Oper}{rest:List Oper}{o:Oper}{a:Act}{Q:Exit→Act→World→Prop}(hgd:o.guard=none)(s x:Operand)(t:TypeId)(ho:o.op=.call {callee:=.builtin .append,args:=#[s,x],argTypes:=#[t,t]})(base:Nat)(e:TypeId)(i:TypeInfo)(z:Value)(size bytes:Nat)(ht:P.underlying t=some (.slice e))(hi:P.info? e=some i)(hz:i.zero=some z)(hsize:i.size=size)(hby:i.bytes=bytes)(hzs:z.cells.size=size)(hsz:0<size)(v:Value)(n:Nat)(xs:List Value)(hs:a.eval s=v)(hown:w.ownsRow base e size v n xs)(p2:Option Addr)(m c:Nat)(hx:a.eval x=.slice p2 m c)(R:Value→World→Prop)(h0:m=0→R v w)(h1:0<m→∃ad news,p2=some ad∧news.length=m*size∧(∀j u,news[j]?=some u→w.cell? (ad.add j)=some u)∧(∀u∈news,u.oneCell'=true)∧∀g cap w',w'.ownsRow base e size (.slice (some ⟨g,0,none⟩) (n+m) cap) (n+m) (xs++news)→w.grownBy w' v.ownBlock→(v.ownBlock=some g∨g=w.heap.size)→R (.slice (some ⟨g,0,none⟩) (n+m) cap) w')(h63:n+m≤maxLen)(hbytes:(n+m)*bytes≤140737488355328)(hbase:base≤w.heap.size)(h:∀v' w',R v' w'→wpList P ops Q rest (a.put o.dst v') w'):wpList P ops Q (o::rest) a w:=by
 rcases Nat.eq_zero_or_pos m with rfl|hm
 ·refine wpList_plain hgd fun K hK=>?_
  have hrun:=j8 (P:=P) (w:=w) base t o.type e i size ht hi v n xs hown p2 c;unfold Oper.wp;simp[execOp,ho,resolve,invoke,builtin,hs,hx,hrun,Result.andThen];exact hK _ _ (h v w (h0 rfl))
 obtain⟨ad,news,rfl,hl,hn,h1c,hR⟩:=h1 hm;exact wpList_append_lies w hgd s x t ho base e i z size bytes ht hi hz hsize hby hzs hsz v n xs hs hown ad m c news hx hl hn h1c hm h63 hbytes hbase w.heap.size rfl fun g cap w' a1 a2 a3 _=>h _ _ (hR g cap w' a1 a2 a3)
section
variable {w0 W:World} {n gb pb pc:Nat} {rbs:Nat→Nat} {k done m:Nat} {v:Value}
end
end Go.Proofs.YtckmppkdpnhodaaGreatDoor
