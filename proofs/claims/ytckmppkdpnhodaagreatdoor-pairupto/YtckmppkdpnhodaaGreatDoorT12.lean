import Derived.Test.YtckmppkdpnhodaaGreatDoorT11
set_option maxRecDepth 100000
set_option maxHeartbeats 8000000
set_option linter.unusedVariables false
set_option linter.unusedSimpArgs false
namespace Go.Proofs.YtckmppkdpnhodaaGreatDoor
open Go.RowKit Go.Proofs
attribute [local go_sem ↓] Go.wp_at_zero Go.wp_at_succ
def mx(n0 n1 n2 n3 n4:Nat):Nat→Nat
 |0=>0
 |1=>n0
 |2=>max n0 n1
 |3=>max (max n0 n1) n2
 |4=>max (max (max n0 n1) n2) n3
 |_=>max (max (max (max n0 n1) n2) n3) n4
theorem xu(b n0 n1 n2 n3 n4:Nat)(w:World)(h:w.heap[b]?=some (.cells #[.int .i64 (n0:Int),.int .i64 (n1:Int),.int .i64 (n2:Int),.int .i64 (n3:Int),.int .i64 (n4:Int)] 102 (0,0))):Calls Tryz.prog 87 #[.slice (some ⟨b,0,none⟩) 5 5] w fun e w'=>e=.returned (.int .i64 ((mx n0 n1 n2 n3 n4 5:Nat):Int))∧w'=w:=by
 have c0:w.cell? ⟨b,0,none⟩=some (.int .i64 (n0:Int)):=cell_of_heap h _;have c1:w.cell? ⟨b,1,none⟩=some (.int .i64 (n1:Int)):=cell_of_heap h _;have c2:w.cell? ⟨b,2,none⟩=some (.int .i64 (n2:Int)):=cell_of_heap h _;have c3:w.cell? ⟨b,3,none⟩=some (.int .i64 (n3:Int)):=cell_of_heap h _;have c4:w.cell? ⟨b,4,none⟩=some (.int .i64 (n4:Int)):=cell_of_heap h _;clear h;go_enter Tryz.func87,Tryz.ntmps87
 go_wp2
 go_loopw [3,4] (fun m i wr=>∃j:Nat,1≤j∧j≤5∧i=.int .i64 j∧m=.int .i64 ((mx n0 n1 n2 n3 n4 j:Nat):Int)∧wr=w) (fun _ i _=>5-(intOf i).toNat)
 case atStart=>exact⟨1,by omega,by omega,rfl,rfl,rfl⟩
 case round =>
  obtain⟨j,hj1,hj,rfl,rfl,rfl⟩:=hrel;rcases(show j=1∨j=2∨j=3∨j=4∨j=5 by omega) with rfl|rfl|rfl|rfl|rfl
  ·go_wp2
   go_roundw
   case rel=>exact⟨2,by omega,by omega,by go_num,by simp only[mx];congr 1;omega,trivial⟩
   case measure=>simp[intOf]
  ·go_wp2
   go_roundw
   case rel=>exact⟨3,by omega,by omega,by go_num,by simp only[mx];congr 1;omega,trivial⟩
   case measure=>simp[intOf]
  ·go_wp2
   go_roundw
   case rel=>exact⟨4,by omega,by omega,by go_num,by simp only[mx];congr 1;omega,trivial⟩
   case measure=>simp[intOf]
  ·go_wp2
   go_roundw
   case rel=>exact⟨5,by omega,by omega,by go_num,by simp only[mx];congr 1;omega,trivial⟩
   case measure=>simp[intOf]
  go_wp2
  go_ret
  exact⟨rfl,rfl⟩
theorem bJ(w:World)(a:Addr)(v:Value):(w.setCell a v).heap.size=w.heap.size:=by simp[World.setCell]
theorem fG{α:Type}(l:List α)(k:Nat)(h:k<l.length):l.take (k+1)=l.take k++[l[k]]:=by rw[List.take_add_one,List.getElem?_eq_getElem h];rfl
end Go.Proofs.YtckmppkdpnhodaaGreatDoor
