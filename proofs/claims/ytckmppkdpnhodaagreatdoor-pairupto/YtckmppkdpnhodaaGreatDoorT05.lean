import Derived.Test.YtckmppkdpnhodaaGreatDoorT01
set_option maxRecDepth 100000
set_option maxHeartbeats 8000000
set_option linter.unusedVariables false
set_option linter.unusedSimpArgs false
open List renaming getElem?_eq_getElem→Cr,getElem_mem→CN
open Go.World renaming block_lt_of_cell?→Cy
open Go.RowKit.Below renaming refl→Ck
open Nat renaming le_refl→Cl
namespace Go.Proofs.YtckmppkdpnhodaaGreatDoor
open Go.RowKit
theorem xW{W w1:World}(hb:Below W.heap.size W w1):(∀b o,b<W.heap.size→w1.cell? ⟨b,o,none⟩=W.cell? ⟨b,o,none⟩)∧(∀b o,b<W.heap.size→w1.frozen? ⟨b,o,none⟩=W.frozen? ⟨b,o,none⟩):=⟨fun b o h=>hb.cell (p:=⟨b,o,none⟩) h,fun b o h=>hb.frozen (p:=⟨b,o,none⟩) h⟩
theorem nO(tv kv:Value)(tr:List Dn)(known:List Nat)(a:Nat)(w:World)(hT:bL w tv tr)(hK:aT w kv known)(hk:∀y∈known,y<tr.length)(ha:a<tr.length)(hl:tr.length≤maxLen)(hkl:known.length≤maxLen):Calls Tryz.prog 77 #[tv,kv,.int .i64 (a:Int)] w fun e w'=>e=.returned (.bool (cZ tr known a))∧Below w.heap.size w w':=by
 have hT0:=hT;obtain⟨p,cap,rfl,hc⟩:=hT;obtain⟨g,bv,rfl,-,-,-,c3,c4,c5,-,-,-⟩:=hc a tr[a] (Cr ha);have hck:cT tr a=tr[a].c:=jT (Cr ha);rw[←hck]at c3 c4 c5
 clear hck;have hK0:=hK;obtain⟨q,capq,rfl,hq⟩:=hK;have hgl:=Cy w _ c3;unfold maxLen at hl hkl;go_enter Tryz.func77,Tryz.ntmps77
 go_wp2
 go_loopw [8] (fun i wr=>∃k:Nat,k≤known.length∧i=.int .i64 k∧Hid (cZ tr (known.take k) a=true)∧Below (w.heap.size+1) (w.alloc (.cells #[.string (cT tr a).k.bs,.string (cT tr a).word,.int .i64 ((cT tr a).count:Int)] 85)) wr) (fun i _=>known.length-(intOf i).toNat)
 case atStart=>exact⟨0,Nat.zero_le _,rfl,by simp[Hid,cZ],Ck _ _⟩
 case round =>
  obtain⟨k,hk',rfl,HS,hbw⟩:=hrel;obtain⟨hcw,-⟩:=(show(∀b o,b<w.heap.size+1→wr.cell? ⟨b,o,none⟩=(w.alloc (.cells #[.string (cT tr a).k.bs,.string (cT tr a).word,.int .i64 ((cT tr a).count:Int)] 85)).cell? ⟨b,o,none⟩)∧True from⟨fun b o h=>hbw.cell (p:=⟨b,o,none⟩) h,trivial⟩);have x0:wr.cell? ⟨w.heap.size,0,none⟩=some (.string (cT tr a).k.bs):=by rw[hcw _ _ (by omega)];simp
  have x1:wr.cell? ⟨w.heap.size,1,none⟩=some (.string (cT tr a).word):=by rw[hcw _ _ (by omega)];simp
  have hsz:w.heap.size+1≤wr.heap.size:=by have:=hbw.size;simpa using this
  have hbl:Below w.heap.size w wr:=((Ck _ w).alloc (Cl _) _).trans (hbw.mono (by omega));have hTr:=hT0.below hbl;have hKr:=hK0.below hbl;by_cases hlt:k<known.length
  ·obtain⟨gq,rfl,-⟩:=hq k known[k] (Cr hlt);have hyl:known[k]<tr.length:=hk _ (CN hlt);have hmem:known[k]∈known:=CN hlt;have HSN:Hid (cZ tr (known.take (k+1)) a=(cZ tr (known.take k) a && !mw tr a known[k])):=by
    rw[cF known k hlt];exact pT tr _ a _
   have HH:Hid (mw tr a known[k]=(fg (cT tr a) (cT tr known[k]) && iI (jX tr known[k]) a)):=rfl;have HA:Hid (∀W,Below wr.heap.size wr W→Calls Tryz.prog 116 #[.slice (some ⟨g,0,none⟩) tr.length cap,.int .i64 (a:Int),.int .i64 (known[k]:Int)] W fun e w'=>e=.returned (.bool (iI (jX tr known[k]) a))∧w'=W):=fun W hW=>uF _ tr a known[k] W (hTr.below hW) hyl hl
   obtain⟨p',cap',hp',hc'⟩:=hTr;obtain⟨g',bv',hg',-,-,-,d3,d4,d5,-,-,-⟩:=hc' known[k] tr[known[k]] (Cr hyl);obtain⟨q',capq',hq',hcq'⟩:=hKr;obtain⟨gq',hgq',ck⟩:=hcq' k known[k] (Cr hlt);obtain⟨rfl,-,rfl⟩:some ⟨g,0,none⟩=p'∧True∧cap=cap':=by simpa using hp'
   obtain⟨rfl,-,rfl⟩:some ⟨gq,0,none⟩=q'∧True∧capq=capq':=by simpa using hq'
   obtain rfl:g=g':=by simpa using hg'
   obtain rfl:gq=gq':=by simpa using hgq'
   clear hg' hgq' hc' hcq' hp' hq' hq hc hcw hT0 hK0;have hcy:cT tr known[k]=tr[known[k]].c:=jT (Cr hyl);rw[←hcy]at d3 d4 d5
   clear hcy;clear c3 c4 c5;generalize hX:cT tr a=X at *;generalize hY:cT tr known[k]=Y at *;clear hX hY;have hgl':=Cy wr _ d3;have hsz':w.heap.size<wr.heap.size:=by omega
   have hgq':=Cy wr _ ck;generalize hIN:iI (jX tr known[k]) a=ib at *;clear hIN;generalize hy0:known[k]=y at *;clear hy0;obtain⟨ka,wa,ca⟩:=X;obtain⟨ky,wy,cy⟩:=Y;cases ka
   case listen =>
    simp only[Kd.bs]at x0;have HNU:Hid (fg ⟨.listen,wa,ca⟩ ⟨ky,wy,cy⟩=false):=by simp[Hid,fg]
    generalize ky.bs=yv at *;go_wp2_with (go_at_call 116;refine(HA.out _ (by first|exact Ck _ _|exact(Ck _ _).alloc (Cl _) _)).mono ?_;rintro e w' ⟨rfl,rfl⟩)
    all_goals first
     |(go_ret;exact⟨aF (bW hmem (by rw[HH.out,HNU.out];rfl)).symm,hbl.alloc (by omega) _⟩)
     |(go_roundw;(case rel=>exact⟨k+1,by omega,by go_num,by show _=true;rw[HSN.out,HH.out,HS.out,HNU.out];rfl,hbw.alloc hsz _⟩);(case measure=>simp[intOf];omega))
   case finWait =>
    simp only[Kd.bs]at x0;have HNU:Hid (fg ⟨.finWait,wa,ca⟩ ⟨ky,wy,cy⟩=false):=by simp[Hid,fg]
    generalize ky.bs=yv at *;go_wp2_with (go_at_call 116;refine(HA.out _ (by first|exact Ck _ _|exact(Ck _ _).alloc (Cl _) _)).mono ?_;rintro e w' ⟨rfl,rfl⟩)
    all_goals first
     |(go_ret;exact⟨aF (bW hmem (by rw[HH.out,HNU.out];rfl)).symm,hbl.alloc (by omega) _⟩)
     |(go_roundw;(case rel=>exact⟨k+1,by omega,by go_num,by show _=true;rw[HSN.out,HH.out,HS.out,HNU.out];rfl,hbw.alloc hsz _⟩);(case measure=>simp[intOf];omega))
   case closeWait =>
    simp only[Kd.bs]at x0;by_cases hky:ky=.closeWait
    ·subst hky;have HNU:Hid (fg ⟨.closeWait,wa,ca⟩ ⟨.closeWait,wy,cy⟩=true):=by simp[Hid,fg]
     simp only[Kd.bs]at d3;cases ib
     all_goals
      go_wp2_with (go_at_call 116;refine(HA.out _ (by first|exact Ck _ _|exact(Ck _ _).alloc (Cl _) _)).mono ?_;rintro e w' ⟨rfl,rfl⟩)
      all_goals first
       |(go_ret;exact⟨aF (bW hmem (by rw[HH.out,HNU.out];rfl)).symm,hbl.alloc (by omega) _⟩)
       |(go_roundw;(case rel=>exact⟨k+1,by omega,by go_num,by show _=true;rw[HSN.out,HH.out,HS.out,HNU.out];rfl,hbw.alloc hsz _⟩);(case measure=>simp[intOf];omega))
    have HNU:Hid (fg ⟨.closeWait,wa,ca⟩ ⟨ky,wy,cy⟩=false):=by simp[Hid,fg,hky]
    have hne:(ky.bs.toList == [110,111,116,101])=false:=xt hky;clear hky;generalize ky.bs=yv at *;go_wp2_with (go_at_call 116;refine(HA.out _ (by first|exact Ck _ _|exact(Ck _ _).alloc (Cl _) _)).mono ?_;rintro e w' ⟨rfl,rfl⟩)
    all_goals first
     |(go_ret;exact⟨aF (bW hmem (by rw[HH.out,HNU.out];rfl)).symm,hbl.alloc (by omega) _⟩)
     |(go_roundw;(case rel=>exact⟨k+1,by omega,by go_num,by show _=true;rw[HSN.out,HH.out,HS.out,HNU.out];rfl,hbw.alloc hsz _⟩);(case measure=>simp[intOf];omega))
   case closed =>
    simp only[Kd.bs]at x0;by_cases hw:wa=wy
    ·subst hw;by_cases hky:ky=.listen
     ·subst hky;have HNU:Hid (fg ⟨.closed,wa,ca⟩ ⟨.listen,wa,cy⟩=true):=by simp[Hid,fg]
      simp only[Kd.bs]at d3;cases ib
      all_goals
       go_wp2_with (go_at_call 116;refine(HA.out _ (by first|exact Ck _ _|exact(Ck _ _).alloc (Cl _) _)).mono ?_;rintro e w' ⟨rfl,rfl⟩)
       all_goals first
        |(go_ret;exact⟨aF (bW hmem (by rw[HH.out,HNU.out];rfl)).symm,hbl.alloc (by omega) _⟩)
        |(go_roundw;(case rel=>exact⟨k+1,by omega,by go_num,by show _=true;rw[HSN.out,HH.out,HS.out,HNU.out];rfl,hbw.alloc hsz _⟩);(case measure=>simp[intOf];omega))
     have HNU:Hid (fg ⟨.closed,wa,ca⟩ ⟨ky,wa,cy⟩=false):=by simp[Hid,fg,hky]
     have hne:(ky.bs.toList == [114,101,109,111,118,101])=false:=ko hky;clear hky;generalize ky.bs=yv at *;go_wp2_with (go_at_call 116;refine(HA.out _ (by first|exact Ck _ _|exact(Ck _ _).alloc (Cl _) _)).mono ?_;rintro e w' ⟨rfl,rfl⟩)
     all_goals first
      |(go_ret;exact⟨aF (bW hmem (by rw[HH.out,HNU.out];rfl)).symm,hbl.alloc (by omega) _⟩)
      |(go_roundw;(case rel=>exact⟨k+1,by omega,by go_num,by show _=true;rw[HSN.out,HH.out,HS.out,HNU.out];rfl,hbw.alloc hsz _⟩);(case measure=>simp[intOf];omega))
    have HNU:Hid (fg ⟨.closed,wa,ca⟩ ⟨ky,wy,cy⟩=false):=by simp[Hid,fg,hw]
    have hw':(wa.toList == wy.toList)=false:=jb hw;clear hw;generalize ky.bs=yv at *;go_wp2_with (go_at_call 116;refine(HA.out _ (by first|exact Ck _ _|exact(Ck _ _).alloc (Cl _) _)).mono ?_;rintro e w' ⟨rfl,rfl⟩)
    all_goals first
     |(go_ret;exact⟨aF (bW hmem (by rw[HH.out,HNU.out];rfl)).symm,hbl.alloc (by omega) _⟩)
     |(go_roundw;(case rel=>exact⟨k+1,by omega,by go_num,by show _=true;rw[HSN.out,HH.out,HS.out,HNU.out];rfl,hbw.alloc hsz _⟩);(case measure=>simp[intOf];omega))
   case established =>
    simp only[Kd.bs]at x0;by_cases hw:wa=wy
    ·subst hw;by_cases hky:ky=.finWait
     ·subst hky;have HNU:Hid (fg ⟨.established,wa,ca⟩ ⟨.finWait,wa,cy⟩=true):=by simp[Hid,fg]
      simp only[Kd.bs]at d3;cases ib
      all_goals
       go_wp2_with (go_at_call 116;refine(HA.out _ (by first|exact Ck _ _|exact(Ck _ _).alloc (Cl _) _)).mono ?_;rintro e w' ⟨rfl,rfl⟩)
       all_goals first
        |(go_ret;exact⟨aF (bW hmem (by rw[HH.out,HNU.out];rfl)).symm,hbl.alloc (by omega) _⟩)
        |(go_roundw;(case rel=>exact⟨k+1,by omega,by go_num,by show _=true;rw[HSN.out,HH.out,HS.out,HNU.out];rfl,hbw.alloc hsz _⟩);(case measure=>simp[intOf];omega))
     have HNU:Hid (fg ⟨.established,wa,ca⟩ ⟨ky,wa,cy⟩=false):=by simp[Hid,fg,hky]
     have hne:(ky.bs.toList == [114,101,118,111,107,101])=false:=km hky;clear hky;generalize ky.bs=yv at *;go_wp2_with (go_at_call 116;refine(HA.out _ (by first|exact Ck _ _|exact(Ck _ _).alloc (Cl _) _)).mono ?_;rintro e w' ⟨rfl,rfl⟩)
     all_goals first
      |(go_ret;exact⟨aF (bW hmem (by rw[HH.out,HNU.out];rfl)).symm,hbl.alloc (by omega) _⟩)
      |(go_roundw;(case rel=>exact⟨k+1,by omega,by go_num,by show _=true;rw[HSN.out,HH.out,HS.out,HNU.out];rfl,hbw.alloc hsz _⟩);(case measure=>simp[intOf];omega))
    have HNU:Hid (fg ⟨.established,wa,ca⟩ ⟨ky,wy,cy⟩=false):=by simp[Hid,fg,hw]
    have hw':(wa.toList == wy.toList)=false:=jb hw;clear hw;generalize ky.bs=yv at *;go_wp2_with (go_at_call 116;refine(HA.out _ (by first|exact Ck _ _|exact(Ck _ _).alloc (Cl _) _)).mono ?_;rintro e w' ⟨rfl,rfl⟩)
    all_goals first
     |(go_ret;exact⟨aF (bW hmem (by rw[HH.out,HNU.out];rfl)).symm,hbl.alloc (by omega) _⟩)
     |(go_roundw;(case rel=>exact⟨k+1,by omega,by go_num,by show _=true;rw[HSN.out,HH.out,HS.out,HNU.out];rfl,hbw.alloc hsz _⟩);(case measure=>simp[intOf];omega))
  go_wp2
  go_ret
  exact⟨aF (by rw[←HS.out,List.take_of_length_le (by omega)]),hbl⟩
end Go.Proofs.YtckmppkdpnhodaaGreatDoor
