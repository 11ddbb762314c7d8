import Derived.Test.YtckmppkdpnhodaaGreatDoorT03
set_option maxRecDepth 100000
set_option maxHeartbeats 8000000
set_option linter.unusedVariables false
set_option linter.unusedSimpArgs false
open Go.RowKit.Below renaming refl→Ck,drew→C3,setCell→C0,alloc→C4
namespace Go.Proofs.YtckmppkdpnhodaaGreatDoor
open Go.RowKit
def al(s:ByteArray):ByteArray:=if blank s<s.size then s.extract 0 (blank s) else s
def ag(s:ByteArray):ByteArray:=if blank s<s.size then s.extract (blank s+1) s.size else ByteArray.empty
def aA(s:ByteArray):Bool:=decide (blank s<s.size)
def aY(s:ByteArray):Option Cm:=if aA s=true∧bd (al (ag s))=true then
  if al s=(Kd.bs Go.Tcp.closed) then
   if aA (ag s)=true∧0<aZ (ag (ag s)) then some ⟨.closed,al (ag s),aZ (ag (ag s))⟩ else none
  else if aA (ag s)=true then none
  else if al s=(Kd.bs Go.Tcp.listen) then some ⟨.listen,al (ag s),0⟩
  else if al s=(Kd.bs Go.Tcp.established) then some ⟨.established,al (ag s),0⟩
  else if al s=(Kd.bs Go.Tcp.finWait) then some ⟨.finWait,al (ag s),0⟩
  else if al s=(Kd.bs Go.Tcp.closeWait) then some ⟨.closeWait,al (ag s),0⟩
  else none
 else none
theorem da(s:ByteArray)(w:World)(hs:s.size≤maxLen):Calls Tryz.prog 74 #[.string s] w fun e w'=>e=.returned (.tuple #[.string (al s),.string (ag s),.bool (aA s)])∧∃n,w'=w.drewN n:=(rE s w hs).mono fun e w' hr=>by
  rcases hr with⟨h',he,hw⟩|⟨h',he,hw⟩
  ·refine⟨?_,1,hw⟩;simp[he,al,ag,aA,h']
  have h'':¬ blank s<s.size:=by omega
  refine⟨?_,0,hw⟩;simp[he,al,ag,aA,h'']
theorem fS(s:ByteArray):(ag s).size≤s.size:=by
 unfold ag;split
 ·rw[ByteArray.size_extract];omega
 simp
theorem kX(s:ByteArray):(al s).size≤s.size:=by
 unfold al;split
 ·rw[ByteArray.size_extract];omega
 simp
section
variable (s:ByteArray) (w:World)
theorem vz(hs:Hid (s.size≤maxLen))(ht:Hid ((ag s).size≤maxLen))(hh:Hid ((al (ag s)).size≤maxLen))(h:aA s=false):Calls Tryz.prog 39 #[.string s] w fun e w'=>(∃(x y:ByteArray) (z:Int),e=.returned (.tuple #[.agg #[.string x,.string y,.int .i64 z],.bool false]))∧Below w.heap.size w w':=by
 go_enter Tryz.func39,Tryz.ntmps39
 go_wp2_with (first
  |(go_at_call 74;refine(da _ _ (by first|exact hs.out|exact ht.out)).mono ?_;rintro e w' ⟨rfl,nd,rfl⟩)
  |(go_at_call 75;refine(cr _ _ hh.out).mono ?_;rintro e w' ⟨rfl,rfl⟩)
  |(go_at_call 76;refine(dm _ _ hl.out).mono ?_;rintro e w' ⟨rfl,rfl⟩))
 all_goals exact bodyPost_ret (v:=.tuple #[.agg #[.string (al s),.string (al (ag s)),.int .i64 0],.bool false]) (by simp[results,Tryz.results39,go_sem]) rfl ⟨⟨_,_,_,rfl⟩,by repeat' first|exact Ck _ _|apply C3|refine below_drewN ?_ _|refine C0 ?_ (by first|(simp;done)|(simp;omega)) _|refine C4 ?_ (by first|(simp;done)|(simp;omega)) _⟩
theorem vy(hs:Hid (s.size≤maxLen))(ht:Hid ((ag s).size≤maxLen))(hh:Hid ((al (ag s)).size≤maxLen))(h:aA s=true)(h2:bd (al (ag s))=false):Calls Tryz.prog 39 #[.string s] w fun e w'=>(∃(x y:ByteArray) (z:Int),e=.returned (.tuple #[.agg #[.string x,.string y,.int .i64 z],.bool false]))∧Below w.heap.size w w':=by
 go_enter Tryz.func39,Tryz.ntmps39
 go_wp2_with (first
  |(go_at_call 74;refine(da _ _ (by first|exact hs.out|exact ht.out)).mono ?_;rintro e w' ⟨rfl,nd,rfl⟩)
  |(go_at_call 75;refine(cr _ _ hh.out).mono ?_;rintro e w' ⟨rfl,rfl⟩)
  |(go_at_call 76;refine(dm _ _ hl.out).mono ?_;rintro e w' ⟨rfl,rfl⟩))
 all_goals exact bodyPost_ret (v:=.tuple #[.agg #[.string (al s),.string (al (ag s)),.int .i64 0],.bool false]) (by simp[results,Tryz.results39,go_sem]) rfl ⟨⟨_,_,_,rfl⟩,by repeat' first|exact Ck _ _|apply C3|refine below_drewN ?_ _|refine C0 ?_ (by first|(simp;done)|(simp;omega)) _|refine C4 ?_ (by first|(simp;done)|(simp;omega)) _⟩
theorem vB(hs:Hid (s.size≤maxLen))(ht:Hid ((ag s).size≤maxLen))(hh:Hid ((al (ag s)).size≤maxLen))(hl:Hid ((ag (ag s)).size≤maxLen))(h1:aA s=true)(h2:bd (al (ag s))=true)(h3:((al s).toList == [97,100,100])=true)(h4:aA (ag s)=true)(h5:0<aZ (ag (ag s))):Calls Tryz.prog 39 #[.string s] w fun e w'=>e=.returned (.tuple #[.agg #[.string (al s),.string (al (ag s)),.int .i64 (aZ (ag (ag s)):Int)],.bool true])∧Below w.heap.size w w':=by
 go_enter Tryz.func39,Tryz.ntmps39
 go_wp2_with (first
  |(go_at_call 74;refine(da _ _ (by first|exact hs.out|exact ht.out)).mono ?_;rintro e w' ⟨rfl,nd,rfl⟩)
  |(go_at_call 75;refine(cr _ _ hh.out).mono ?_;rintro e w' ⟨rfl,rfl⟩)
  |(go_at_call 76;refine(dm _ _ hl.out).mono ?_;rintro e w' ⟨rfl,rfl⟩))
 go_region
 all_goals go_wp2
 all_goals exact bodyPost_ret (v:=.tuple #[.agg #[.string (al s),.string (al (ag s)),.int .i64 (aZ (ag (ag s)):Int)],.bool true]) (by simp[results,Tryz.results39,go_sem]) rfl ⟨rfl,by repeat' first|exact Ck _ _|apply C3|refine below_drewN ?_ _|refine C0 ?_ (by first|(simp;done)|(simp;omega)) _|refine C4 ?_ (by first|(simp;done)|(simp;omega)) _⟩
theorem tH(hs:Hid (s.size≤maxLen))(ht:Hid ((ag s).size≤maxLen))(hh:Hid ((al (ag s)).size≤maxLen))(hl:Hid ((ag (ag s)).size≤maxLen))(h1:aA s=true)(h2:bd (al (ag s))=true)(h3:((al s).toList == [97,100,100])=true)(h4:aA (ag s)=true)(h5:aZ (ag (ag s))=0):Calls Tryz.prog 39 #[.string s] w fun e w'=>(∃(x y:ByteArray) (z:Int),e=.returned (.tuple #[.agg #[.string x,.string y,.int .i64 z],.bool false]))∧Below w.heap.size w w':=by
 go_enter Tryz.func39,Tryz.ntmps39
 go_wp2_with (first
  |(go_at_call 74;refine(da _ _ (by first|exact hs.out|exact ht.out)).mono ?_;rintro e w' ⟨rfl,nd,rfl⟩)
  |(go_at_call 75;refine(cr _ _ hh.out).mono ?_;rintro e w' ⟨rfl,rfl⟩)
  |(go_at_call 76;refine(dm _ _ hl.out).mono ?_;rintro e w' ⟨rfl,rfl⟩))
 go_region
 all_goals go_wp2
 all_goals exact bodyPost_ret (v:=.tuple #[.agg #[.string (al s),.string (al (ag s)),.int .i64 0],.bool false]) (by simp[results,Tryz.results39,go_sem]) rfl ⟨⟨_,_,_,rfl⟩,by repeat' first|exact Ck _ _|apply C3|refine below_drewN ?_ _|refine C0 ?_ (by first|(simp;done)|(simp;omega)) _|refine C4 ?_ (by first|(simp;done)|(simp;omega)) _⟩
theorem tG(hs:Hid (s.size≤maxLen))(ht:Hid ((ag s).size≤maxLen))(hh:Hid ((al (ag s)).size≤maxLen))(hl:Hid ((ag (ag s)).size≤maxLen))(h1:aA s=true)(h2:bd (al (ag s))=true)(h3:((al s).toList == [97,100,100])=true)(h4:aA (ag s)=false):Calls Tryz.prog 39 #[.string s] w fun e w'=>(∃(x y:ByteArray) (z:Int),e=.returned (.tuple #[.agg #[.string x,.string y,.int .i64 z],.bool false]))∧Below w.heap.size w w':=by
 go_enter Tryz.func39,Tryz.ntmps39
 go_wp2_with (first
  |(go_at_call 74;refine(da _ _ (by first|exact hs.out|exact ht.out)).mono ?_;rintro e w' ⟨rfl,nd,rfl⟩)
  |(go_at_call 75;refine(cr _ _ hh.out).mono ?_;rintro e w' ⟨rfl,rfl⟩)
  |(go_at_call 76;refine(dm _ _ hl.out).mono ?_;rintro e w' ⟨rfl,rfl⟩))
 go_region
 all_goals go_wp2
 all_goals exact bodyPost_ret (v:=.tuple #[.agg #[.string (al s),.string (al (ag s)),.int .i64 (aZ (ag (ag s)):Int)],.bool false]) (by simp[results,Tryz.results39,go_sem]) rfl ⟨⟨_,_,_,rfl⟩,by repeat' first|exact Ck _ _|apply C3|refine below_drewN ?_ _|refine C0 ?_ (by first|(simp;done)|(simp;omega)) _|refine C4 ?_ (by first|(simp;done)|(simp;omega)) _⟩
theorem tF(hs:Hid (s.size≤maxLen))(ht:Hid ((ag s).size≤maxLen))(hh:Hid ((al (ag s)).size≤maxLen))(h1:aA s=true)(h2:bd (al (ag s))=true)(h3:((al s).toList == [97,100,100])=false)(h4:aA (ag s)=true):Calls Tryz.prog 39 #[.string s] w fun e w'=>(∃(x y:ByteArray) (z:Int),e=.returned (.tuple #[.agg #[.string x,.string y,.int .i64 z],.bool false]))∧Below w.heap.size w w':=by
 go_enter Tryz.func39,Tryz.ntmps39
 go_wp2_with (first
  |(go_at_call 74;refine(da _ _ (by first|exact hs.out|exact ht.out)).mono ?_;rintro e w' ⟨rfl,nd,rfl⟩)
  |(go_at_call 75;refine(cr _ _ hh.out).mono ?_;rintro e w' ⟨rfl,rfl⟩)
  |(go_at_call 76;refine(dm _ _ hl.out).mono ?_;rintro e w' ⟨rfl,rfl⟩))
 all_goals exact bodyPost_ret (v:=.tuple #[.agg #[.string (al s),.string (al (ag s)),.int .i64 0],.bool false]) (by simp[results,Tryz.results39,go_sem]) rfl ⟨⟨_,_,_,rfl⟩,by repeat' first|exact Ck _ _|apply C3|refine below_drewN ?_ _|refine C0 ?_ (by first|(simp;done)|(simp;omega)) _|refine C4 ?_ (by first|(simp;done)|(simp;omega)) _⟩
theorem qj(hs:Hid (s.size≤maxLen))(ht:Hid ((ag s).size≤maxLen))(hh:Hid ((al (ag s)).size≤maxLen))(h1:aA s=true)(h2:bd (al (ag s))=true)(h3:((al s).toList == [97,100,100])=false)(h4:aA (ag s)=false)(h_remove:((al s).toList == [114,101,109,111,118,101])=true):Calls Tryz.prog 39 #[.string s] w fun e w'=>e=.returned (.tuple #[.agg #[.string (al s),.string (al (ag s)),.int .i64 0],.bool true])∧Below w.heap.size w w':=by
 go_enter Tryz.func39,Tryz.ntmps39
 go_wp2_with (first
  |(go_at_call 74;refine(da _ _ (by first|exact hs.out|exact ht.out)).mono ?_;rintro e w' ⟨rfl,nd,rfl⟩)
  |(go_at_call 75;refine(cr _ _ hh.out).mono ?_;rintro e w' ⟨rfl,rfl⟩)
  |(go_at_call 76;refine(dm _ _ hl.out).mono ?_;rintro e w' ⟨rfl,rfl⟩))
 all_goals exact bodyPost_ret (v:=.tuple #[.agg #[.string (al s),.string (al (ag s)),.int .i64 0],.bool true]) (by simp[results,Tryz.results39,go_sem]) rfl ⟨rfl,by repeat' first|exact Ck _ _|apply C3|refine below_drewN ?_ _|refine C0 ?_ (by first|(simp;done)|(simp;omega)) _|refine C4 ?_ (by first|(simp;done)|(simp;omega)) _⟩
theorem rK(hs:Hid (s.size≤maxLen))(ht:Hid ((ag s).size≤maxLen))(hh:Hid ((al (ag s)).size≤maxLen))(h1:aA s=true)(h2:bd (al (ag s))=true)(h3:((al s).toList == [97,100,100])=false)(h4:aA (ag s)=false)(h_remove:((al s).toList == [114,101,109,111,118,101])=false)(h_apply:((al s).toList == [97,112,112,108,121])=true):Calls Tryz.prog 39 #[.string s] w fun e w'=>e=.returned (.tuple #[.agg #[.string (al s),.string (al (ag s)),.int .i64 0],.bool true])∧Below w.heap.size w w':=by
 go_enter Tryz.func39,Tryz.ntmps39
 go_wp2_with (first
  |(go_at_call 74;refine(da _ _ (by first|exact hs.out|exact ht.out)).mono ?_;rintro e w' ⟨rfl,nd,rfl⟩)
  |(go_at_call 75;refine(cr _ _ hh.out).mono ?_;rintro e w' ⟨rfl,rfl⟩)
  |(go_at_call 76;refine(dm _ _ hl.out).mono ?_;rintro e w' ⟨rfl,rfl⟩))
 all_goals exact bodyPost_ret (v:=.tuple #[.agg #[.string (al s),.string (al (ag s)),.int .i64 0],.bool true]) (by simp[results,Tryz.results39,go_sem]) rfl ⟨rfl,by repeat' first|exact Ck _ _|apply C3|refine below_drewN ?_ _|refine C0 ?_ (by first|(simp;done)|(simp;omega)) _|refine C4 ?_ (by first|(simp;done)|(simp;omega)) _⟩
theorem qi(hs:Hid (s.size≤maxLen))(ht:Hid ((ag s).size≤maxLen))(hh:Hid ((al (ag s)).size≤maxLen))(h1:aA s=true)(h2:bd (al (ag s))=true)(h3:((al s).toList == [97,100,100])=false)(h4:aA (ag s)=false)(h_remove:((al s).toList == [114,101,109,111,118,101])=false)(h_apply:((al s).toList == [97,112,112,108,121])=false)(h_revoke:((al s).toList == [114,101,118,111,107,101])=true):Calls Tryz.prog 39 #[.string s] w fun e w'=>e=.returned (.tuple #[.agg #[.string (al s),.string (al (ag s)),.int .i64 0],.bool true])∧Below w.heap.size w w':=by
 go_enter Tryz.func39,Tryz.ntmps39
 go_wp2_with (first
  |(go_at_call 74;refine(da _ _ (by first|exact hs.out|exact ht.out)).mono ?_;rintro e w' ⟨rfl,nd,rfl⟩)
  |(go_at_call 75;refine(cr _ _ hh.out).mono ?_;rintro e w' ⟨rfl,rfl⟩)
  |(go_at_call 76;refine(dm _ _ hl.out).mono ?_;rintro e w' ⟨rfl,rfl⟩))
 all_goals exact bodyPost_ret (v:=.tuple #[.agg #[.string (al s),.string (al (ag s)),.int .i64 0],.bool true]) (by simp[results,Tryz.results39,go_sem]) rfl ⟨rfl,by repeat' first|exact Ck _ _|apply C3|refine below_drewN ?_ _|refine C0 ?_ (by first|(simp;done)|(simp;omega)) _|refine C4 ?_ (by first|(simp;done)|(simp;omega)) _⟩
theorem tD(hs:Hid (s.size≤maxLen))(ht:Hid ((ag s).size≤maxLen))(hh:Hid ((al (ag s)).size≤maxLen))(h1:aA s=true)(h2:bd (al (ag s))=true)(h3:((al s).toList == [97,100,100])=false)(h4:aA (ag s)=false)(h_remove:((al s).toList == [114,101,109,111,118,101])=false)(h_apply:((al s).toList == [97,112,112,108,121])=false)(h_revoke:((al s).toList == [114,101,118,111,107,101])=false)(h_note:((al s).toList == [110,111,116,101])=true):Calls Tryz.prog 39 #[.string s] w fun e w'=>e=.returned (.tuple #[.agg #[.string (al s),.string (al (ag s)),.int .i64 0],.bool true])∧Below w.heap.size w w':=by
 go_enter Tryz.func39,Tryz.ntmps39
 go_wp2_with (first
  |(go_at_call 74;refine(da _ _ (by first|exact hs.out|exact ht.out)).mono ?_;rintro e w' ⟨rfl,nd,rfl⟩)
  |(go_at_call 75;refine(cr _ _ hh.out).mono ?_;rintro e w' ⟨rfl,rfl⟩)
  |(go_at_call 76;refine(dm _ _ hl.out).mono ?_;rintro e w' ⟨rfl,rfl⟩))
 all_goals exact bodyPost_ret (v:=.tuple #[.agg #[.string (al s),.string (al (ag s)),.int .i64 0],.bool true]) (by simp[results,Tryz.results39,go_sem]) rfl ⟨rfl,by repeat' first|exact Ck _ _|apply C3|refine below_drewN ?_ _|refine C0 ?_ (by first|(simp;done)|(simp;omega)) _|refine C4 ?_ (by first|(simp;done)|(simp;omega)) _⟩
theorem tE(hs:Hid (s.size≤maxLen))(ht:Hid ((ag s).size≤maxLen))(hh:Hid ((al (ag s)).size≤maxLen))(h1:aA s=true)(h2:bd (al (ag s))=true)(h3:((al s).toList == [97,100,100])=false)(h4:aA (ag s)=false)(h_remove:((al s).toList == [114,101,109,111,118,101])=false)(h_apply:((al s).toList == [97,112,112,108,121])=false)(h_revoke:((al s).toList == [114,101,118,111,107,101])=false)(h_note:((al s).toList == [110,111,116,101])=false):Calls Tryz.prog 39 #[.string s] w fun e w'=>(∃(x y:ByteArray) (z:Int),e=.returned (.tuple #[.agg #[.string x,.string y,.int .i64 z],.bool false]))∧Below w.heap.size w w':=by
 go_enter Tryz.func39,Tryz.ntmps39
 go_wp2_with (first
  |(go_at_call 74;refine(da _ _ (by first|exact hs.out|exact ht.out)).mono ?_;rintro e w' ⟨rfl,nd,rfl⟩)
  |(go_at_call 75;refine(cr _ _ hh.out).mono ?_;rintro e w' ⟨rfl,rfl⟩)
  |(go_at_call 76;refine(dm _ _ hl.out).mono ?_;rintro e w' ⟨rfl,rfl⟩))
 all_goals exact bodyPost_ret (v:=.tuple #[.agg #[.string (al s),.string (al (ag s)),.int .i64 0],.bool false]) (by simp[results,Tryz.results39,go_sem]) rfl ⟨⟨_,_,_,rfl⟩,by repeat' first|exact Ck _ _|apply C3|refine below_drewN ?_ _|refine C0 ?_ (by first|(simp;done)|(simp;omega)) _|refine C4 ?_ (by first|(simp;done)|(simp;omega)) _⟩
end
end Go.Proofs.YtckmppkdpnhodaaGreatDoor
