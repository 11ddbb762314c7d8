import Derived.Test.YtckmppkdpnhodaaGreatDoorT06
import Derived.Test.YtckmppkdpnhodaaGreatDoorT02
set_option maxRecDepth 100000
set_option maxHeartbeats 8000000
set_option linter.unusedVariables false
set_option linter.unusedSimpArgs false
open List renaming mem_cons_self→Db,mem_cons→Co,mem_cons_of_mem→CQ
open ByteArray renaming toList→Dl
namespace Go.Proofs.YtckmppkdpnhodaaGreatDoor
section
open Go.RowKit Go.Proofs
variable {R:World→Nat→Nat→Nat→List Cm→(Nat→Prop)→Prop}
theorem dH:∀(a b:List Wd),a.Pairwise (· < ·)→b.Pairwise (· < ·)→(∀x,x∈a↔x∈b)→a=b
 |[],[],_,_,_=>rfl
 |[],y::b,_,_,h=>by have:=(h y).2 (Db ..);simp at this
 |x::a,[],_,_,h=>by have:=(h x).1 (Db ..);simp at this
 |x::a,y::b,ha,hb,h=>by
  obtain⟨ha1,ha2⟩:=List.pairwise_cons.1 ha;obtain⟨hb1,hb2⟩:=List.pairwise_cons.1 hb;have exy:x=y:=by
   rcases Co.1 ((h x).1 (Db ..)) with e|e
   ·exact e
   rcases Co.1 ((h y).2 (Db ..)) with e'|e'
   ·exact e'.symm
   exact absurd (fF (hb1 x e) (ha1 y e')) (eA _)
  subst exy;congr 1
  refine dH a b ha2 hb2 fun z=>⟨fun hz=>?_,fun hz=>?_⟩
  ·rcases Co.1 ((h z).1 (CQ _ hz)) with e|e
   ·subst e;exact absurd (ha1 z hz) (eA _)
   exact e
  rcases Co.1 ((h z).2 (CQ _ hz)) with e|e
  ·subst e;exact absurd (hb1 z hz) (eA _)
  exact e
theorem map_toList_inj:∀(a b:List ByteArray),a.map Dl=b.map Dl→a=b
 |[],[],_=>rfl
 |[],_::_,h=>by simp at h
 |_::_,[],h=>by simp at h
 |x::a,y::b,h=>by
  simp only[List.map_cons,List.cons.injEq]at h;rw[toList_inj h.1,map_toList_inj a b h.2]
theorem gK.unique{tr:List Dn}{known:List Nat}{s t:ByteArray}(hs:gK tr known s)(ht:gK tr known t):s=t:=by
 obtain⟨a,a1,a2,a3⟩:=hs;obtain⟨b,b1,b2,b3⟩:=ht;have e:a=b:=map_toList_inj a b (dH _ _ a1 b1 fun x=>(a2 x).trans (b2 x).symm);subst e;exact ByteArray.ext (Array.toList_inj.1 (a3.trans b3.symm))
end
section
open Go.RowKit Go.Proofs
variable {R:World→Nat→Nat→Nat→List Cm→(Nat→Prop)→Prop}
attribute [local go_sem ↓] Go.wp_at_zero Go.wp_at_succ
def kV(tr:List Dn)(ids:List Nat)(cm:Cm):Bool:=(decide (cm.k=.listen) && decide (bw tr ids cm.word=0)) || (decide (cm.k=.finWait) && !hasB tr ids .established cm.word)
end
end Go.Proofs.YtckmppkdpnhodaaGreatDoor
