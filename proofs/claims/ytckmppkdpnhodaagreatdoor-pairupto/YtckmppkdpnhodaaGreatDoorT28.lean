import Derived.Test.YtckmppkdpnhodaaGreatDoorT27
set_option maxRecDepth 100000
set_option maxHeartbeats 8000000
set_option linter.unusedVariables false
set_option linter.unusedSimpArgs false
open Go.RowKit.Below renaming refl→Ck
namespace Go.Proofs.YtckmppkdpnhodaaGreatDoor
open Go.RowKit Go.Proofs Go.MuLone
def gS(n me:Nat)(log:List En)(a b h:Nat)(fr:Int):Bool:=decide ((a:Int)=fr∧fr≠(me:Int)∧fr<(n:Int)∧b=me∧h≤aq log me)
theorem sW{w:World}{rb n me:Nat}{lk:Int}{log:List En}{now:Nat}{its:List It}{ow:Nat→Bool}{ev wv:Value}(hm:bp w rb n me lk log now its ow ev wv)(hme:me<5)(a b h:Nat)(p:Option Addr)(l c:Nat)(fr:Int):Calls Tryz.prog 60 #[.pointer (some ⟨rb,0,none⟩),.agg #[.int .i64 (a:Int),.int .i64 (b:Int),.int .i64 (h:Int),.slice p l c],.int .i64 fr] w fun e w'=>e=.returned (.bool (gS n me log a b h fr))∧Below w.heap.size w w':=by
 have hrl:=hm.lt;obtain⟨wa,hwa⟩:∃wa,w.alloc (.cells #[.int .i64 (a:Int),.int .i64 (b:Int),.int .i64 (h:Int),.slice p l c] 140)=wa:=⟨_,rfl⟩
 have hea:wa.heap[w.heap.size]?=some (.cells #[.int .i64 (a:Int),.int .i64 (b:Int),.int .i64 (h:Int),.slice p l c] 140 (0,0)):=by rw[←hwa];exact heap_alloc_new w _
 have hba:Below w.heap.size w wa:=by rw[←hwa];exact(Ck _ w).alloc (Nat.le_refl _) _
 have hsa:wa.heap.size=w.heap.size+1:=by rw[←hwa];simp
 have hka:=(hm.below hba).rbk;have HBA:Hid (Below w.heap.size w wa):=hba;have HRC:Hid (∀W,Below wa.heap.size wa W→Calls Tryz.prog 57 #[.pointer (some ⟨rb,4,none⟩)] W fun e w'=>e=.returned (.agg #[.int .i64 (aq log 0:Int),.int .i64 (aq log 1:Int),.int .i64 (aq log 2:Int),.int .i64 (aq log 3:Int),.int .i64 (aq log 4:Int)])∧Below W.heap.size W w'):=fun W hW=>hm.reach (hba.trans (hW.mono (by omega)))
 have a0:wa.cell? ⟨w.heap.size,0,none⟩=some (.int .i64 (a:Int)):=cell_of_heap hea _;have a1:wa.cell? ⟨w.heap.size,1,none⟩=some (.int .i64 (b:Int)):=cell_of_heap hea _;have a2:wa.cell? ⟨w.heap.size,2,none⟩=some (.int .i64 (h:Int)):=cell_of_heap hea _;have r2:wa.cell? ⟨rb,2,none⟩=some (.int .i64 (me:Int)):=cell_of_heap hka _;have r3:wa.cell? ⟨rb,3,none⟩=some (.int .i64 (n:Int)):=cell_of_heap hka _;have hix:∀W,(Instr.index 102 (.agg #[.int .i64 (aq log 0:Int),.int .i64 (aq log 1:Int),.int .i64 (aq log 2:Int),.int .i64 (aq log 3:Int),.int .i64 (aq log 4:Int)]) (.int .i64 (me:Int))).run Tryz.prog W=.ok (.int .i64 ((aq log me:Nat):Int)) W:=fun W=>by
  rcases(show me=0∨me=1∨me=2∨me=3∨me=4 by omega) with h|h|h|h|h <;> (subst h;kernel_rfl)
 have hfd:∀W,(Instr.field 104 (.agg #[.int .i64 (aq log 0:Int),.int .i64 (aq log 1:Int),.int .i64 (aq log 2:Int),.int .i64 (aq log 3:Int),.int .i64 (aq log 4:Int)]) 0).run Tryz.prog W=.ok (.agg #[.int .i64 (aq log 0:Int),.int .i64 (aq log 1:Int),.int .i64 (aq log 2:Int),.int .i64 (aq log 3:Int),.int .i64 (aq log 4:Int)]) W:=fun W=>by kernel_rfl
 clear hm hka hea hba;have HF:Hid (∀q:Prop,(gS n me log a b h fr=true→q)→¬ q→gS n me log a b h fr=false):=fun q h1 h2=>by
  cases hc:gS n me log a b h fr with
  |false=>rfl
  |true=>exact absurd (h1 hc) h2
 have HE:Hid (gS n me log a b h fr=true↔((a:Int)=fr∧fr≠(me:Int)∧fr<(n:Int)∧b=me∧h≤aq log me)):=by
  show _↔_
  unfold gS;rw[decide_eq_true_eq]
 by_cases h1:(a:Int)=fr
 ·have e1:((a:Int) == fr)=true:=beq_iff_eq.2 h1;by_cases h2:fr=(me:Int)
  ·have e2:(fr != (me:Int))=false:=by rw[bne_eq_false_iff_eq];exact h2
   have HV:Hid (gS n me log a b h fr=false):=HF.out _ (fun q=>(HE.out.1 q).2.1) (fun q=>q h2);clear HF HE h1 h2;go_enter Tryz.func60,Tryz.ntmps60
   go_upto_region 1 with fail
   (try rw[hwa])
   clear hwa;generalize hlb:w.heap.size=lb at *;go_quiet (fail)
   go_wp2
   go_ret
   exact⟨aF HV.out.symm,below_drewN (by first|(rw[hlb];exact HBA.out)|exact HBA.out) _⟩
  have e2:(fr != (me:Int))=true:=bne_iff_ne.2 h2;by_cases h3:fr<(n:Int)
  ·have e3:decide (fr<(n:Int))=true:=decide_eq_true h3;by_cases h4:b=me
   ·have HV:Hid (gS n me log a b h fr=decide (h≤aq log me)):=by
     show _=_
     unfold gS;rw[decide_eq_decide]
     constructor
     ·rintro ⟨-,-,-,-,q⟩;omega
     intro q;exact⟨h1,h2,h3,h4,by omega⟩
    have e4:((b:Int) == (me:Int))=true:=beq_iff_eq.2 (by omega);clear HF HE h1 h2 h4;go_enter Tryz.func60,Tryz.ntmps60
    go_upto_region 1 with fail
    (try rw[hwa])
    clear hwa;generalize hlb:w.heap.size=lb at *;go_region_held3 (fun w'=>w'.cell? ⟨lb,0,none⟩=some (.int .i64 (a:Int))∧w'.cell? ⟨lb,1,none⟩=some (.int .i64 (b:Int))∧w'.cell? ⟨lb,2,none⟩=some (.int .i64 (h:Int))∧w'.cell? ⟨rb,2,none⟩=some (.int .i64 (me:Int))∧w'.cell? ⟨rb,3,none⟩=some (.int .i64 (n:Int))) (first
      |exact⟨a0,a1,a2,r2,r3⟩
      |exact⟨aa t2 a0,aa t2 a1,aa t2 a2,aa t2 r2,aa t2 r3⟩
      |go_keep) (first
      |(go_at_call 57;refine(HRC.out _ ((Ck _ wa).drew)).mono ?_;rintro e w2 ⟨rfl,u2⟩;have t2:Below wa.heap.size wa w2:=((Ck _ wa).drew).trans u2))
    go_wp2
    go_ret
    exact⟨aF HV.out.symm,by rw[hlb];exact HBA.out.trans (t2.mono (by omega))⟩
   have e4:((b:Int) == (me:Int))=false:=beq_eq_false_iff_ne.2 (by omega);have HV:Hid (gS n me log a b h fr=false):=HF.out _ (fun q=>(HE.out.1 q).2.2.2.1) h4;clear HF HE h1 h2 h4;go_enter Tryz.func60,Tryz.ntmps60
   go_upto_region 1 with fail
   (try rw[hwa])
   clear hwa;generalize hlb:w.heap.size=lb at *;go_quiet (fail)
   go_wp2
   go_ret
   exact⟨aF HV.out.symm,below_drewN (by first|(rw[hlb];exact HBA.out)|exact HBA.out) _⟩
  have e3:decide (fr<(n:Int))=false:=decide_eq_false h3;have HV:Hid (gS n me log a b h fr=false):=HF.out _ (fun q=>(HE.out.1 q).2.2.1) h3;clear HF HE h1 h2;go_enter Tryz.func60,Tryz.ntmps60
  go_upto_region 1 with fail
  (try rw[hwa])
  clear hwa;generalize hlb:w.heap.size=lb at *;go_quiet (fail)
  go_wp2
  go_ret
  exact⟨aF HV.out.symm,below_drewN (by first|(rw[hlb];exact HBA.out)|exact HBA.out) _⟩
 have e1:((a:Int) == fr)=false:=beq_eq_false_iff_ne.2 h1;have HV:Hid (gS n me log a b h fr=false):=HF.out _ (fun q=>(HE.out.1 q).1) h1;clear HF HE h1;go_enter Tryz.func60,Tryz.ntmps60
 go_upto_region 1 with fail
 (try rw[hwa])
 clear hwa;generalize hlb:w.heap.size=lb at *;go_quiet (fail)
 go_wp2
 go_ret
 exact⟨aF HV.out.symm,below_drewN (by first|(rw[hlb];exact HBA.out)|exact HBA.out) _⟩
end Go.Proofs.YtckmppkdpnhodaaGreatDoor
