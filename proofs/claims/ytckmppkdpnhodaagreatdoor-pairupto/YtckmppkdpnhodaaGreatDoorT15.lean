import Derived.Test.YtckmppkdpnhodaaGreatDoorT14
import Derived.Test.YtckmppkdpnhodaaGreatDoorT00
set_option maxRecDepth 100000
set_option maxHeartbeats 8000000
set_option linter.unusedVariables false
set_option linter.unusedSimpArgs false
open Go.RowKit.Below renaming refl→Ck
open Nat renaming le_refl→Cl
namespace Go.Proofs.YtckmppkdpnhodaaGreatDoor
open Go.RowKit Go.Proofs
attribute [local go_sem ↓] Go.wp_at_zero Go.wp_at_succ
theorem child{c m:Nat}(h0:0<c)(h:(c-1) / 2=m):c=2*m+1∨c=2*m+2:=by omega
theorem tz{its:List It}{i j t:Nat}(hi:i<its.length)(hj:j<its.length)(h1:t≠i)(h2:t≠j):(swapL its i j)[t]?=its[t]?:=by
 rw[j5 hi hj,if_neg h2,if_neg h1]
theorem xV(rb g cap i0 n:Nat)(its:List It)(hn0:n≤its.length)(h0n:i0≤n)(hn:its.length≤1000)(cur:Array Value)(w:World)(h11:w.cell? ⟨rb,11,none⟩=some (.slice (some ⟨g,0,none⟩) its.length cap))(hq:fj w g cap its cur)(hne:g≠rb)(hI:gR i0 n i0 (kF its)):Calls Tryz.prog 149 #[.iface 175 (.pointer (some ⟨rb,11,none⟩)),.int .i64 (i0:Int),.int .i64 (n:Int)] w fun e w'=>(∃b,e=.returned (.bool b))∧∃its' cur',dD w g cap its cur its' cur' w'∧aH i0 n (kF its')∧∀t,n≤t→its'[t]?=its[t]?:=by
 have H11:=hid h11;have HT0:Hid (dD w g cap its cur its cur w):=dD.refl hq;have HI0:=hid hI;clear h11 hq hI;go_enter Tryz.func149,Tryz.ntmps149
 go_wp2
 go_loopw [7] (fun v wr=>∃m:Nat,v=.int .i64 m∧m≤n∧∃its' cur',Hid (dD w g cap its cur its' cur' wr∧gR i0 n m (kF its')∧∀t,n≤t→its'[t]?=its[t]?)) (fun v _=>n-(intOf v).toNat)
 case atStart=>exact⟨i0,rfl,h0n,its,cur,HT0.out,HI0.out,fun _ _=>rfl⟩
 case round =>
  obtain⟨m,rfl,hm,its',cur',HT⟩:=hrel;have hlen:=HT.out.1.len;have hc11:=HT.out.1.AF H11.out hne;have hmL:=kp rb wr _ _ _ hc11;by_cases hA:n≤2*m+1
  ·have HE:Hid (aH i0 n (kF its')):=HT.out.2.1.done (fun c c0 hc hp=>by rcases child c0 hp with h|h <;> omega);have e1:(n:Int)≤2*(m:Int)+1:=by omega
   go_wp2
   all_goals
    go_ret
    exact⟨⟨_,rfl⟩,its',cur',HT.out.1,HE.out,HT.out.2.2⟩
  have e1:¬ (n:Int)≤2*(m:Int)+1:=by omega
  have e2:¬ 2*(m:Int)+1<0:=by omega
  have HL:Hid (∀(a b:Nat) (ia ib:Int) (W:World),ia=(a:Int)→ib=(b:Int)→a<n→b<n→Below wr.heap.size wr W→Calls Tryz.prog 232 #[.slice (some ⟨g,0,none⟩) its.length cap,.int .i64 ia,.int .i64 ib] W fun e w'=>e=.returned (.bool (decide (kF its' a<kF its' b)))∧Below W.heap.size W w'):=fun a b ia ib W ha hb han hbn hW=>by
   subst ha hb;have ka:kF its' a=(its'[a]'(by omega)).due:=fY (by omega);have kb:kF its' b=(its'[b]'(by omega)).due:=fY (by omega);rw[ka,kb];have hr:=HT.out.1.row.below hW;exact xU g its.length cap a b _ _ (by omega) (by omega) hn W (by have:=hr.cell (i:=a) (o:=0) (by omega) (by omega) rfl;simpa using this) (by have:=hr.cell (i:=b) (o:=0) (by omega) (by omega) rfl;simpa using this)
  have HS:Hid (∀(j:Nat) (ij:Int) (W:World),ij=(j:Int)→m<j→j<n→(j-1) / 2=m→(∀c,0<c→c<n→(c-1) / 2=m→kF its' j≤kF its' c)→kF its' j<kF its' m→Below wr.heap.size wr W→W.cell? ⟨rb,11,none⟩=some (.slice (some ⟨g,0,none⟩) its.length cap)∧Calls Tryz.prog 233 #[.slice (some ⟨g,0,none⟩) its.length cap,.int .i64 (m:Int),.int .i64 ij] W fun e w'=>e=.returned (.tuple #[])∧∃its'' cur'',dD w g cap its cur its'' cur'' w'∧gR i0 n j (kF its'')∧∀t,n≤t→its''[t]?=its[t]?):=fun j ij W hij hmj hjn hpj hmin hlt hW=>by
   subst hij;have ht:=HT.out.1.below hW;have hi1:m<its'.length:=by omega
   have hi2:j<its'.length:=by omega
   refine⟨ht.AF H11.out hne,?_⟩;have:=ve g cap m j its' hi1 hi2 (by omega) cur' W ht.row;rw[hlen]at this
   refine this.mono ?_;rintro e w' ⟨he,q,rfl⟩
   obtain⟨c,hc⟩:=ht.swap hi1 hi2 q;refine⟨he,_,c,hc,?_,fun t htn=>(tz hi1 hi2 (by omega) (by omega)).trans (HT.out.2.2 t htn)⟩;rw[px hi1 hi2];exact HT.out.2.1.step hpj (by omega) hjn hmin hlt
  have HM : Hid (∀ W, Below wr.heap.size wr W → (method 409 175 (.pointer (some ⟨rb, 11, none⟩)) "Less").run Tryz.prog W = .ok (232, .slice (some ⟨g, 0, none⟩) its.length cap) W) := fun W hW => kp rb W _ _ _ ((HT.out.1.below hW).AF H11.out hne)
  have HD:Hid (∀W,Below wr.heap.size wr W→(∀c,0<c→c<n→(c-1) / 2=m→kF its' m≤kF its' c)→∃its'' cur'',dD w g cap its cur its'' cur'' W∧aH i0 n (kF its'')∧∀t,n≤t→its''[t]?=its[t]?):=fun W hW h=>⟨its',cur',HT.out.1.below hW,HT.out.2.1.done h,HT.out.2.2⟩
  by_cases hB:2*m+2<n
  ·have e3:2*(m:Int)+1+1<(n:Int):=by omega
   by_cases hk:kF its' (2*m+2)<kF its' (2*m+1)
   ·skip
    have L1:Hid (Calls Tryz.prog 232 #[.slice (some ⟨g,0,none⟩) its.length cap,.int .i64 (2*(m:Int)+1+1),.int .i64 (2*(m:Int)+1)] wr fun e w'=>e=.returned (.bool true)∧Below wr.heap.size wr w'):=by
     have:=HL.out (2*m+2) (2*m+1) (2*(m:Int)+1+1) (2*(m:Int)+1) wr (by omega) (by omega) (by omega) (by omega) (Ck _ _);rw[decide_eq_true hk]at this
     exact this
    have hmin:∀c,0<c→c<n→(c-1) / 2=m→kF its' (2*m+2)≤kF its' c:=fun c c0 hc hp=>by
     rcases child c0 hp with h|h
     ·subst h;omega
     subst h;exact Cl _
    by_cases hl:kF its' (2*m+2)<kF its' m
    ·have L2:Hid (∀W,Below wr.heap.size wr W→Calls Tryz.prog 232 #[.slice (some ⟨g,0,none⟩) its.length cap,.int .i64 (2*(m:Int)+1+1),.int .i64 (m:Int)] W fun e w'=>e=.returned (.bool true)∧Below W.heap.size W w'):=fun W hW=>by
      have:=HL.out (2*m+2) m (2*(m:Int)+1+1) (m:Int) W (by omega) rfl (by omega) (by omega) hW;rw[decide_eq_true hl]at this
      exact this
     have S2:Hid _:=fun W hW=>HS.out (2*m+2) (2*(m:Int)+1+1) W (by omega) (by omega) (by omega) (by omega) hmin hl hW
     clear hl hmin hk;go_wp2_with (first
      |(go_at_call_of 232 (Value.int .i64 (m:Int));refine Calls.mono L22.out ?_;rintro e w2 ⟨rfl,hb2⟩;have hw2:Below wr.heap.size wr w2:=hb1.trans (hb2.mono hb1.size);obtain⟨hc2,hS2⟩:=S2.out w2 hw2;have hmS:=gx rb w2 _ _ _ hc2;have HS2:Hid _:=hS2;clear hS2)
      |(go_at_call 232;refine Calls.mono L1.out ?_;rintro e w1 ⟨rfl,hb1⟩;have hm1:=HM.out w1 hb1;have L22:Hid _:=L2.out w1 hb1)
      |(go_at_call 233;refine Calls.mono HS2.out ?_;rintro e w3 ⟨rfl,its3,cur3,hT3,hU3,hV3⟩))
     go_roundw
     case rel=>exact⟨2*m+2,by go_num,by omega,its3,cur3,hT3,hU3,hV3⟩
     case measure=>simp[intOf];omega
    have L2:Hid (∀W,Below wr.heap.size wr W→Calls Tryz.prog 232 #[.slice (some ⟨g,0,none⟩) its.length cap,.int .i64 (2*(m:Int)+1+1),.int .i64 (m:Int)] W fun e w'=>e=.returned (.bool false)∧Below W.heap.size W w'):=fun W hW=>by
     have:=HL.out (2*m+2) m (2*(m:Int)+1+1) (m:Int) W (by omega) rfl (by omega) (by omega) hW;rw[decide_eq_false hl]at this
     exact this
    have D2:Hid _:=fun W hW=>HD.out W hW (fun c c0 hc hp=>by have:=hmin c c0 hc hp;omega)
    clear hl hmin hk;go_wp2_with (first
     |(go_at_call_of 232 (Value.int .i64 (m:Int));refine Calls.mono L22.out ?_;rintro e w2 ⟨rfl,hb2⟩;have hw2:Below wr.heap.size wr w2:=hb1.trans (hb2.mono hb1.size))
     |(go_at_call 232;refine Calls.mono L1.out ?_;rintro e w1 ⟨rfl,hb1⟩;have hm1:=HM.out w1 hb1;have L22:Hid _:=L2.out w1 hb1))
    go_ret
    exact⟨⟨_,rfl⟩,D2.out w2 hw2⟩
   skip
   have L1:Hid (Calls Tryz.prog 232 #[.slice (some ⟨g,0,none⟩) its.length cap,.int .i64 (2*(m:Int)+1+1),.int .i64 (2*(m:Int)+1)] wr fun e w'=>e=.returned (.bool false)∧Below wr.heap.size wr w'):=by
    have:=HL.out (2*m+2) (2*m+1) (2*(m:Int)+1+1) (2*(m:Int)+1) wr (by omega) (by omega) (by omega) (by omega) (Ck _ _);rw[decide_eq_false hk]at this
    exact this
   have hmin:∀c,0<c→c<n→(c-1) / 2=m→kF its' (2*m+1)≤kF its' c:=fun c c0 hc hp=>by
    rcases child c0 hp with h|h
    ·subst h;exact Cl _
    subst h;omega
   by_cases hl:kF its' (2*m+1)<kF its' m
   ·have L2:Hid (∀W,Below wr.heap.size wr W→Calls Tryz.prog 232 #[.slice (some ⟨g,0,none⟩) its.length cap,.int .i64 (2*(m:Int)+1),.int .i64 (m:Int)] W fun e w'=>e=.returned (.bool true)∧Below W.heap.size W w'):=fun W hW=>by
     have:=HL.out (2*m+1) m (2*(m:Int)+1) (m:Int) W (by omega) rfl (by omega) (by omega) hW;rw[decide_eq_true hl]at this
     exact this
    have S2:Hid _:=fun W hW=>HS.out (2*m+1) (2*(m:Int)+1) W (by omega) (by omega) (by omega) (by omega) hmin hl hW
    clear hl hmin hk;go_wp2_with (first
     |(go_at_call_of 232 (Value.int .i64 (m:Int));refine Calls.mono L22.out ?_;rintro e w2 ⟨rfl,hb2⟩;have hw2:Below wr.heap.size wr w2:=hb1.trans (hb2.mono hb1.size);obtain⟨hc2,hS2⟩:=S2.out w2 hw2;have hmS:=gx rb w2 _ _ _ hc2;have HS2:Hid _:=hS2;clear hS2)
     |(go_at_call 232;refine Calls.mono L1.out ?_;rintro e w1 ⟨rfl,hb1⟩;have hm1:=HM.out w1 hb1;have L22:Hid _:=L2.out w1 hb1)
     |(go_at_call 233;refine Calls.mono HS2.out ?_;rintro e w3 ⟨rfl,its3,cur3,hT3,hU3,hV3⟩))
    go_roundw
    case rel=>exact⟨2*m+1,by go_num,by omega,its3,cur3,hT3,hU3,hV3⟩
    case measure=>simp[intOf];omega
   have L2:Hid (∀W,Below wr.heap.size wr W→Calls Tryz.prog 232 #[.slice (some ⟨g,0,none⟩) its.length cap,.int .i64 (2*(m:Int)+1),.int .i64 (m:Int)] W fun e w'=>e=.returned (.bool false)∧Below W.heap.size W w'):=fun W hW=>by
    have:=HL.out (2*m+1) m (2*(m:Int)+1) (m:Int) W (by omega) rfl (by omega) (by omega) hW;rw[decide_eq_false hl]at this
    exact this
   have D2:Hid _:=fun W hW=>HD.out W hW (fun c c0 hc hp=>by have:=hmin c c0 hc hp;omega)
   clear hl hmin hk;go_wp2_with (first
    |(go_at_call_of 232 (Value.int .i64 (m:Int));refine Calls.mono L22.out ?_;rintro e w2 ⟨rfl,hb2⟩;have hw2:Below wr.heap.size wr w2:=hb1.trans (hb2.mono hb1.size))
    |(go_at_call 232;refine Calls.mono L1.out ?_;rintro e w1 ⟨rfl,hb1⟩;have hm1:=HM.out w1 hb1;have L22:Hid _:=L2.out w1 hb1))
   go_ret
   exact⟨⟨_,rfl⟩,D2.out w2 hw2⟩
  have e3:¬ 2*(m:Int)+1+1<(n:Int):=by omega
  have e4:decide (2*(m:Int)+1+1<(n:Int))=false:=decide_eq_false e3;have hmin:∀c,0<c→c<n→(c-1) / 2=m→kF its' (2*m+1)≤kF its' c:=fun c c0 hc hp=>by
   rcases child c0 hp with h|h
   ·subst h;exact Cl _
   subst h;omega
  by_cases hl:kF its' (2*m+1)<kF its' m
  ·have L2:Hid (∀W,Below wr.heap.size wr W→Calls Tryz.prog 232 #[.slice (some ⟨g,0,none⟩) its.length cap,.int .i64 (2*(m:Int)+1),.int .i64 (m:Int)] W fun e w'=>e=.returned (.bool true)∧Below W.heap.size W w'):=fun W hW=>by
    have:=HL.out (2*m+1) m (2*(m:Int)+1) (m:Int) W (by omega) rfl (by omega) (by omega) hW;rw[decide_eq_true hl]at this
    exact this
   have S2:Hid _:=fun W hW=>HS.out (2*m+1) (2*(m:Int)+1) W (by omega) (by omega) (by omega) (by omega) hmin hl hW
   clear hl hmin;go_wp2_with (first
    |(go_at_call 232;refine Calls.mono (L2.out _ (Ck _ _)) ?_;rintro e w2 ⟨rfl,hb2⟩;have hw2:Below wr.heap.size wr w2:=hb2;obtain⟨hc2,hS2⟩:=S2.out w2 hw2;have hmS:=gx rb w2 _ _ _ hc2;have HS2:Hid _:=hS2;clear hS2)
    |(go_at_call 233;refine Calls.mono HS2.out ?_;rintro e w3 ⟨rfl,its3,cur3,hT3,hU3,hV3⟩))
   go_roundw
   case rel=>exact⟨2*m+1,by go_num,by omega,its3,cur3,hT3,hU3,hV3⟩
   case measure=>simp[intOf];omega
  have L2:Hid (∀W,Below wr.heap.size wr W→Calls Tryz.prog 232 #[.slice (some ⟨g,0,none⟩) its.length cap,.int .i64 (2*(m:Int)+1),.int .i64 (m:Int)] W fun e w'=>e=.returned (.bool false)∧Below W.heap.size W w'):=fun W hW=>by
   have:=HL.out (2*m+1) m (2*(m:Int)+1) (m:Int) W (by omega) rfl (by omega) (by omega) hW;rw[decide_eq_false hl]at this
   exact this
  have D2:Hid _:=fun W hW=>HD.out W hW (fun c c0 hc hp=>by have:=hmin c c0 hc hp;omega)
  clear hl hmin;go_wp2_with (first
   |(go_at_call 232;refine Calls.mono (L2.out _ (Ck _ _)) ?_;rintro e w2 ⟨rfl,hb2⟩;have hw2:Below wr.heap.size wr w2:=hb2))
  go_ret
  exact⟨⟨_,rfl⟩,D2.out w2 hw2⟩
end Go.Proofs.YtckmppkdpnhodaaGreatDoor
