import Derived.Deep.Cut
import Derived.Test.YtckmppkdpnhodaaGreatDoorT08
set_option maxRecDepth 100000
set_option maxHeartbeats 8000000
set_option linter.unusedVariables false
set_option linter.unusedSimpArgs false
open Go.Value renaming ownBlock→Cp
namespace Go.Proofs.YtckmppkdpnhodaaGreatDoor
section
open Go.RowKit Go.Proofs
variable {R:World→Nat→Nat→Nat→List Cm→(Nat→Prop)→Prop}
attribute [local go_sem ↓] Go.wp_at_zero Go.wp_at_succ
structure mN(W W':World)(wb o:Nat)(C:Array Value)(T e:TypeId)(v v':Value)(n:Nat)(xs:List Value)(x:Value):Prop where
 up:an [some wb,v.ownBlock] W W'
 wbk:W'.heap[wb]?=some (.cells (C.setIfInBounds o v') T (0,0))
 row:W'.ownsRow 0 e 1 v' (n+1) (xs++[x])
 at_:∀b,v'.ownBlock=some b→v.ownBlock=some b∨W.heap.size≤b
 own:v'.ownBlock≠some wb
theorem oV{W w':World}{wb o:Nat}{C:Array Value}{T e:TypeId}{v:Value}{n:Nat}{xs:List Value}{x:Value}{g cap:Nat}{oc:Obj}(hwb:W.heap[wb]?=some (.cells C T (0,0)))(hv:v.ownBlock≠some wb)(hown:w'.ownsRow 0 e 1 (.slice (some ⟨g,0,none⟩) (n+1) cap) (n+1) (xs++[x]))(hgrow:(W.alloc oc).grownBy w' v.ownBlock)(hat:v.ownBlock=some g∨g=W.heap.size+1):mN W (w'.setCell ⟨wb,o,none⟩ (.slice (some ⟨g,0,none⟩) (n+1) cap)) wb o C T e v (.slice (some ⟨g,0,none⟩) (n+1) cap) n xs x∧w'.heap[wb]?=some (.cells C T (0,0)):=by
 have hwl:=(Array.getElem?_eq_some_iff.1 hwb).1;have u1:an [v.ownBlock] W w':=((an.refl _ W).alloc _).grown hgrow fun b hb=>.inl (by simp[hb])
 have hw':w'.heap[wb]?=some (.cells C T (0,0)):=(u1.block wb hwl (by simpa using fun e=>hv e.symm)).trans hwb;have hgw:g≠wb:=by
  rcases hat with h|h
  ·exact fun e=>hv (by rw[h,e])
  omega
 refine⟨⟨(u1.mono fun b hb=>by simp at hb;simp[hb]).setCell (.inl (by simp)) _,ae hw' _,ai hown (fun b hb=>by simp only[Cp,Option.some.injEq]at hb;exact hb ▸ hgw) _,fun b hb=>?_,by simpa[Cp] using hgw⟩,hw'⟩;simp only[Cp,Option.some.injEq]at hb;subst hb;rcases hat with h|h
 ·exact .inl h
 exact .inr (by omega)
end
section
open Go.RowKit Go.Proofs
variable {R:World→Nat→Nat→Nat→List Cm→(Nat→Prop)→Prop}
attribute [local go_sem ↓] Go.wp_at_zero Go.wp_at_succ
theorem Tryz.Bn:(Tryz.prog.info? 38).map (fun i=>(i.zero,i.size,i.bytes))=some (some (.pointer none),1,8):=by kernel_rfl
theorem Tryz.Bc:(Tryz.prog.info? 75).map (fun i=>(i.zero,i.size,i.bytes))=some (some (.slice none 0 0),1,24):=by kernel_rfl
theorem Tryz.Bh:(Tryz.prog.info? 4).map (fun i=>(i.zero,i.size,i.bytes))=some (some (.bool false),1,1):=by kernel_rfl
end
end Go.Proofs.YtckmppkdpnhodaaGreatDoor
