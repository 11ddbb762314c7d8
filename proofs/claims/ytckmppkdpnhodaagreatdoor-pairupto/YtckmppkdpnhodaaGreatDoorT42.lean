import Derived.Test.YtckmppkdpnhodaaGreatDoorT40
import Derived.Test.YtckmppkdpnhodaaGreatDoorT39
import Derived.Test.YtckmppkdpnhodaaGreatDoorT41
set_option maxRecDepth 100000
set_option maxHeartbeats 8000000
set_option linter.unusedVariables false
set_option linter.unusedSimpArgs false
open Nat renaming zero_le→CB,le_refl→Cl,lt_of_lt_of_le→CG,add_assoc→DF
open List renaming getElem_mem→CN
namespace Go.Proofs.YtckmppkdpnhodaaGreatDoor
section
open Go.RowKit Go.Proofs
variable {cap:Nat} {n:Int} {p:Option Addr}
section
variable {w0 w:World} {LB NB:Nat} {c:Nat→Nat} {L:aC} {st:aS Qn} {k u:Nat} {K A B C:Int} {S:ByteArray}
theorem ar.Cj(h:ar (aB LB NB) w c L st):∃pa capa,w.cell? ⟨L.wb,4,none⟩=some (.slice pa st.q.air.length capa):=by
 obtain⟨avs,hal,harow,-,-,-⟩:=h.air;obtain⟨p,cap,e⟩:=dN harow;exact⟨p,cap,by rw[h.cell,←e];simp[aC.C]⟩
theorem ar.BJ(h:ar (aB LB NB) w c L st):w.cell? ⟨L.wb,7,none⟩=some (.bool st.sp):=by
 rw[h.cell];simp[aC.C]
theorem jL(h:ar (aB LB NB) w c L st)(hp:cS st u)(h0:st.q.air.length=0)(kd:Int):Calls Tryz.prog 38 #[.pointer (some ⟨L.wb,0,none⟩),.agg #[.int .i64 K,.int .i64 A,.int .i64 B,.int .i64 C,.string S],.int .i64 kd] w fun e w'=>e=.returned (.bool true)∧gi LB NB w c L st (u+1) w':=by
 obtain⟨pa,capa,r4⟩:=h.Cj;rw[h0]at r4
 exact oL kd r4 _ fun W hb=>gi.idle h hp hb
theorem jB(h0:0<st.q.air.length)(hp:cS st u)(hu:u≤1100000)(hA : -9223372036854775808≤A∧A≤9223372036854775807):aE A st.q.air.length<st.q.air.length∧st.q.air.length≤1000000000∧∀W,Calls Tryz.prog 32 #[.int .i64 A,.int .i64 (st.q.air.length:Int)] W fun e w'=>e=.returned (.int .i64 (aE A st.q.air.length:Int))∧w'=W:=by
 have h1:=hp.airl;have h2:(aE A st.q.air.length:Int)<(st.q.air.length:Int):=cI (by omega);exact⟨by omega,by omega,fun W=>lV A _ W hA (by omega)⟩
theorem Ah(h:ar (aB LB NB) w c L st)(ho:bN w0 c w)(hg:bH w0)(hp:cS st u)(hu:u≤1100000)(hA : -9223372036854775808≤A∧A≤9223372036854775807):Calls Tryz.prog 38 #[.pointer (some ⟨L.wb,0,none⟩),.agg #[.int .i64 K,.int .i64 A,.int .i64 B,.int .i64 C,.string S],.int .i64 5] w fun e w'=>e=.returned (.bool true)∧gi LB NB w c L st (u+1) w':=by
 by_cases h0:st.q.air.length=0
 ·exact jL h hp h0 5
 obtain⟨hkN,hN,hP⟩:=jB (st:=st) (by omega) hp hu hA;obtain⟨l,hl,hf,l5,l200⟩:=hp.air.at hkN;obtain⟨ga,capa,zb,cc,D,r4,c0,c1,c2,hz,hby,hzc,hzw⟩:=h.AO hkN (by omega);exact oM hkN hN r4 c0 c1 c2 hP (sG LB NB w c L st _ u zb D) _ (fun W hb hs=>wh h hp hu hkN hz hzc hzw hb hs) fun W hX=>hX.fly ho hg hl hf hby hz
theorem Ag(h:ar (aB LB NB) w c L st)(ho:bN w0 c w)(hg:bH w0)(hp:cS st u)(hu:u≤1100000)(hA : -9223372036854775808≤A∧A≤9223372036854775807):Calls Tryz.prog 38 #[.pointer (some ⟨L.wb,0,none⟩),.agg #[.int .i64 K,.int .i64 A,.int .i64 B,.int .i64 C,.string S],.int .i64 6] w fun e w'=>e=.returned (.bool true)∧gi LB NB w c L st (u+1) w':=by
 by_cases h0:st.q.air.length=0
 ·exact jL h hp h0 6
 obtain⟨hkN,hN,hP⟩:=jB (st:=st) (by omega) hp hu hA;obtain⟨l,hl,hf,l5,l200⟩:=hp.air.at hkN;obtain⟨ga,capa,zb,cc,D,r4,c0,c1,c2,hz,hby,hzc,hzw⟩:=h.AO hkN (by omega);have hzl:=(Array.getElem?_eq_some_iff.1 hz).1;refine mQ hkN hN r4 c0 c1 c2 hP _ fun W hb=>?_
 refine(wE (h.below (aw LB NB) hb) (ho.step (aG.below hb)) hg hp hl hf (eX hby fun b o e hl=>?_) ((hb.block zb hzl).trans hz)).mono ?_
 ·simp only[Option.some.injEq,Addr.mk.injEq]at e;rw[←e.1];exact hb.block zb hzl
 rintro e w' ⟨rfl,hG⟩
 exact⟨rfl,hG.after rfl (aG.below hb) rfl rfl⟩
theorem Af(h:ar (aB LB NB) w c L st)(hp:cS st u)(hu:u≤1100000)(hA : -9223372036854775808≤A∧A≤9223372036854775807):Calls Tryz.prog 38 #[.pointer (some ⟨L.wb,0,none⟩),.agg #[.int .i64 K,.int .i64 A,.int .i64 B,.int .i64 C,.string S],.int .i64 7] w fun e w'=>e=.returned (.bool true)∧gi LB NB w c L st (u+1) w':=by
 by_cases h0:st.q.air.length=0
 ·exact jL h hp h0 7
 obtain⟨hkN,hN,hP⟩:=jB (st:=st) (by omega) hp hu hA;obtain⟨l,hl,hf,l5,l200⟩:=hp.air.at hkN;obtain⟨ga,capa,zb,cc,D,r4,c0,c1,c2,hz,hby,hzc,hzw⟩:=h.AO hkN (by omega);exact oN hkN hN r4 c0 c1 c2 hP (sG LB NB w c L st _ u zb D) _ (fun W hb hs=>wh h hp hu hkN hz hzc hzw hb hs) fun W hX=>hX.go
theorem Ae(h:ar (aB LB NB) w c L st)(ho:bN w0 c w)(hg:bH w0)(hp:cS st u)(hu:u≤1100000)(hA : -9223372036854775808≤A∧A≤9223372036854775807)(hB : -9223372036854775808≤B∧B≤9223372036854775807)(hC : -9223372036854775808≤C∧C≤9223372036854775807):Calls Tryz.prog 38 #[.pointer (some ⟨L.wb,0,none⟩),.agg #[.int .i64 K,.int .i64 A,.int .i64 B,.int .i64 C,.string S],.int .i64 8] w fun e w'=>e=.returned (.bool true)∧gi LB NB w c L st (u+1) w':=by
 by_cases h0:st.q.air.length=0
 ·exact jL h hp h0 8
 obtain⟨hkN,hN,hP⟩:=jB (st:=st) (by omega) hp hu hA;obtain⟨l,hl,hf,l5,l200⟩:=hp.air.at hkN;obtain⟨ga,capa,zb,cc,D,r4,c0,c1,c2,hz,hby,hzc,hzw⟩:=h.AO hkN (by omega);have r7:=h.BJ;cases hsp:st.sp with
 |false =>
  rw[hsp]at r7;exact mS hkN hN r4 c0 c1 c2 hP r7 _ fun W hb=>gi.idle h hp hb
 |true =>
  rw[hsp]at r7;refine mR hkN hN r4 c0 c1 c2 hP r7 (sG LB NB w c L st _ u zb D) _ (fun W W' hX hb=>hX.below hb) (fun W hb hs=>wh h hp hu hkN hz hzc hzw hb hs) fun W hX=>?_
  refine(hX.spoilt ⟨l5,l200⟩ hby hz B C hB hC).mono ?_;intro e w' hS;exact hX.still ho hg hu hf.2.2.ok hS _ (by rw[hf.2.1];exact hl.dst)
theorem zD(h:ar (aB LB NB) w c L st)(ho:bN w0 c w)(hg:bH w0)(hp:cS st u)(hu:u≤1100000)(hA : -9223372036854775808≤A∧A≤9223372036854775807)(hB : -9223372036854775808≤B∧B≤9223372036854775807)(hC : -9223372036854775808≤C∧C≤9223372036854775807):Calls Tryz.prog 38 #[.pointer (some ⟨L.wb,0,none⟩),.agg #[.int .i64 K,.int .i64 A,.int .i64 B,.int .i64 C,.string S],.int .i64 11] w fun e w'=>e=.returned (.bool true)∧gi LB NB w c L st (u+1) w':=by
 by_cases h0:st.q.air.length=0
 ·exact jL h hp h0 11
 obtain⟨hkN,hN,hP⟩:=jB (st:=st) (by omega) hp hu hA;obtain⟨l,hl,hf,l5,l200⟩:=hp.air.at hkN;obtain⟨ga,capa,zb,cc,D,r4,c0,c1,c2,hz,hby,hzc,hzw⟩:=h.AO hkN (by omega);have r7:=h.BJ;have hn:=h.npos;cases hsp:st.sp with
 |false =>
  rw[hsp]at r7;exact oJ hkN hN r4 c0 c1 c2 hP r7 _ fun W hb=>gi.idle h hp hb
 |true =>
  rw[hsp]at r7;have h3:(aE B 3:Int)<3:=cI (by omega);have hpc:(aE C 1073741824:Int)<1073741824:=cI (by omega);have hPB:∀W,Calls Tryz.prog 32 #[.int .i64 B,.int .i64 3] W fun e w'=>e=.returned (.int .i64 (aE B 3:Int))∧w'=W:=fun W=>lV B 3 W hB (by omega)
  have hPC:∀W,Calls Tryz.prog 32 #[.int .i64 C,.int .i64 1073741824] W fun e w'=>e=.returned (.int .i64 (aE C 1073741824:Int))∧w'=W:=fun W=>lV C _ W hC (by omega)
  have hS:∀fr:Int,(fr=(st.q.air[aE A st.q.air.length].2.1:Int)∨fr<0∨(st.n:Int)≤fr)→∀W,Below w.heap.size w W→Calls Tryz.prog 72 #[.pointer (some ⟨L.wb,0,none⟩),.int .i64 fr,.int .i64 (st.q.air[aE A st.q.air.length].2.1:Int),.slice (some ⟨zb,0,none⟩) st.q.air[aE A st.q.air.length].2.2.length cc] W fun e w'=>e=.returned (.bool true)∧gi LB NB w c L st (u+1) w':=fun fr hfr W hb=>yk h ho hg hp hu hl hf hby hz hzc hfr hb
  rcases(show aE B 3=0∨aE B 3=1∨aE B 3=2 by omega) with e|e|e
  ·rw[e]at hPB;exact lP hkN hN r4 c0 c1 c2 hP r7 hPB _ (hS _ (.inl rfl))
  ·rw[e]at hPB;exact lO hkN hN r4 c0 c1 c2 hP r7 hPB (by omega) hPC _ (hS _ (.inr (.inl (by omega))))
  rw[e]at hPB;refine lN hkN hN r4 c0 c1 c2 hP r7 hPB (pc:=aE C 1073741824) (by omega) hPC (n:=st.n) hn.2 ?_ _ (hS _ (.inr (.inr (by omega))));rw[h.cell];simp[aC.C]
def Sp.AP(o:Sp):Prop:=o.ok∧(-9223372036854775808≤o.A∧o.A≤9223372036854775807)∧(-9223372036854775808≤o.B∧o.B≤9223372036854775807)∧(-9223372036854775808≤o.C∧o.C≤9223372036854775807)∧o.S.size≤maxLen
theorem vm(h:ar (aB LB NB) w c L st)(ho:bN w0 c w)(hg:bH w0)(hp:cS st u)(hu:u≤1100000)(hLB:1200000≤LB)(hNB:NB≤1000000000000000)(hnb:200000000≤NB){o:Sp}(hf:o.AP):Calls Tryz.prog 15 #[.pointer (some ⟨L.wb,0,none⟩),o.val] w fun e w'=>e=.returned (.bool true)∧gi LB NB w c L st (u+1) w':=by
 obtain⟨hK,hA,hB,hC,hS⟩:=hf;have hn:=h.npos;have r0:w.cell? ⟨L.wb,0,none⟩=some (.int .i64 (st.n:Int)):=by rw[h.cell];simp[aC.C]
 have hk:aE o.A st.n<st.n:=by
  have:(aE o.A st.n:Int)<(st.n:Int):=cI (by omega);omega
 have below:∀{W W':World},Below w.heap.size w W→gi LB NB W c L st (u+1) W'→gi LB NB w c L st (u+1) W':=fun hb hG=>hG.after rfl (aG.below hb) rfl rfl
 have hM:∀{W:World},Below w.heap.size w W→ar (aB LB NB) W c L st:=fun hb=>h.below (aw LB NB) hb
 have hO:∀{W:World},Below w.heap.size w W→bN w0 c W:=fun hb=>ho.step (aG.below hb)
 have fin:∀{W:World} {f:FuncId} {args:Array Value},Below w.heap.size w W→(Calls Tryz.prog f args W fun e w'=>e=.returned (.bool true)∧gi LB NB W c L st (u+1) w')→Calls Tryz.prog f args W fun e w'=>e=.returned (.bool true)∧gi LB NB w c L st (u+1) w':=fun hb hc=>hc.mono fun e w' hG=>⟨hG.1,below hb hG.2⟩
 have hkr:aE o.A st.n<st.rbs.length:=by rw[h.llen];exact hk
 refine vl hn r0 (lb:=L.lb) (capl:=L.capl) (by rw[h.cell];simp[aC.C]) (h.lcell _ hkr) hK hA rfl _ (fun _ W hb=>fin hb (sl (hM hb) (hO hb) hg hp hu hLB hNB hk o.S hS)) (fun _ W hb=>fin hb (xP (hM hb) (hO hb) hg hp hu hk)) (fun _ W hb=>fin hb (Ak (hM hb) (hO hb) hg hp hu hk)) (fun _ W hb=>fin hb (yi (hM hb) (hO hb) hg hp hu hk)) (fun _ W hb=>fin hb (xg (hM hb) (hO hb) hg hp hu hnb)) (fun _ W hb=>fin hb (rH (hM hb) (hO hb) hg hp hu hnb)) (fun _ W hb=>?_) fun e W hb=>fin hb ?_
 ·refine(yg (hM hb) (hO hb) hp hu hnb hk (List.getElem?_eq_getElem hkr)).mono ?_;rintro e w' ⟨rfl,hG⟩
  exact⟨rfl,below hb hG⟩
 rcases e with e|e|e|e|e <;> rw[e]
 ·exact Ah (hM hb) (hO hb) hg hp hu hA
 ·exact Ag (hM hb) (hO hb) hg hp hu hA
 ·exact Af (hM hb) hp hu hA
 ·exact Ae (hM hb) (hO hb) hg hp hu hA hB hC
 exact zD (hM hb) (hO hb) hg hp hu hA hB hC
end
theorem dF.stays{w w':World}{sc:List Sp}(h:dF w p sc)(hb:Below w.heap.size w w'):dF w' p sc:=fun i o ho=>by
 obtain⟨b,off,h1,h2,h3,h4,h5,h6⟩:=h i o ho;exact⟨b,off,h1,aa hb h2,aa hb h3,aa hb h4,aa hb h5,aa hb h6⟩
theorem rj(n:Nat)(sp:Bool)(rbs:List Nat):cS (aS.begun n sp rbs) 0:=by
 have htot:∀m,bn m (fun _=>Sr.empty)=0:=fun m=>by
  unfold bn
  induction m with
  |zero=>rfl
  |succ m ih=>rw[bS,ih];rfl
 refine⟨⟨⟨fun i j hi=>?_,fun k hk x hx=>?_,fun p hp=>?_⟩,fun k hk xs f hx hf=>⟨0,CB _,?_,.inr rfl⟩,fun e he=>?_⟩,?_,dK.nil _ _,fun k hk=>Cl _,Cl _,Cl _,Cl _,Cl _,Cl _,fun k hk m hm=>?_⟩
 ·simp[aS.begun]at hi
 ·simp[aS.begun,Sr.empty]at hx
 ·simp[aS.begun]at hp
 ·simp only[aS.begun,List.getElem?_replicate]at hx;split at hx
  ·simpa using hx.symm
  cases hx
 ·simp[aS.begun]at he
 ·show 0=bn n (fun _=>Sr.empty)
  rw[htot]
 simp only[aS.begun,List.getElem?_replicate]at hm;split at hm
 ·have e:m=0:=by simpa using hm.symm
  subst e;exact⟨Cl _,Cl _⟩
 cases hm
def zM(w0:World)(LB NB N:Nat)(sp:Bool)(u wb:Nat)(W:World):Prop:=∃c L st,L.wb=wb∧ar (aB LB NB) W c L st∧bN w0 c W∧cS st u∧st.n=N∧st.sp=sp
section
variable {w0 w W:World} {LB NB N u wb:Nat} {sp:Bool} {c:Nat→Nat} {L:aC} {st:aS Qn}
theorem gi.plw(h:gi LB NB w c L st u W)(ho:bN w0 c w)(hwb:L.wb=wb)(hn:st.n=N)(hs:st.sp=sp):zM w0 LB NB N sp u wb W:=by
 obtain⟨c',L',st',h1,h2,h3,h4,h5,h6⟩:=h;exact⟨c',L',st',h1.trans hwb,h2,ho.step h3,h4,h5.trans hn,h6.trans hs⟩
theorem wO(hLB:LB≤4294900000)(hNB:NB≤1000000000000000)(hn:2≤N∧N≤5)(sp:Bool)(w:World):Calls Tryz.prog 13 #[.int .i64 (N:Int),.bool sp] w fun e w'=>∃wb,e=.returned (.pointer (some ⟨wb,0,none⟩))∧zM w LB NB N sp 0 wb w':=by
 refine(wM hLB hNB hn sp w).mono ?_;rintro e w' ⟨c,L,rbs,rfl,hM,hb,h0⟩
 exact⟨L.wb,rfl,c,L,_,rfl,hM,⟨hb,h0⟩,rj N sp rbs,rfl,rfl⟩
theorem sO(hg:bH w0)(sp:Bool){sc:List Sp}(hn : -9223372036854775808≤n∧n≤9223372036854775807)(hl:sc.length≤1048576)(hok:∀o∈sc,o.AP)(hsc:dF w0 p sc):Calls Tryz.prog 12 #[.int .i64 n,.slice p sc.length cap,.int .i64 11,.bool sp] w0 fun e w'=>e=.returned (.bool true)∧Below w0.heap.size w0 w':=by
 have hp4:(aE n 4:Int)<4:=cI (by omega);have hN:2≤2+aE n 4∧2+aE n 4≤5:=⟨by omega,by omega⟩;obtain⟨LB,hLB⟩:∃LB,LB=4000000000:=⟨_,rfl⟩
 obtain⟨NB,hNB⟩:∃NB,NB=1000000000000:=⟨_,rfl⟩
 refine yx hn (by unfold maxLen;omega) (fun o ho=>(hok o ho).1) (fun k wb W=>zM w0 LB NB (2+aE n 4) sp (k+1) wb W) (fun w'=>Below w0.heap.size w0 w') ?_ ?_ ?_ ?_ ?_
 ·rintro k wb W ⟨c,L,st,h1,h2,h3,h4,h5,h6⟩
  refine⟨hsc.stays h3.old,?_⟩;rw[←h1,h2.cell,h5];simp[aC.C]
 ·refine(wO (LB:=LB) (NB:=NB) (by omega) (by omega) hN sp w0).mono ?_;rintro e w' ⟨wb,rfl,c,L,st,h1,h2,h3,h4,h5,h6⟩
  refine⟨wb,rfl,?_⟩;rw[←h1];refine(sl h2 h3 hg h4 (by omega) (by omega) (by omega) (k:=0) (by omega) yh (by unfold maxLen;decide)).mono ?_;rintro e w'' ⟨rfl,hG⟩
  exact⟨rfl,hG.plw h3 rfl h5 h6⟩
 ·rintro k wb W hk ⟨c,L,st,h1,h2,h3,h4,h5,h6⟩
  rw[←h1];refine(vm h2 h3 hg h4 (by omega) (by omega) (by omega) (by omega) (hok _ (CN hk))).mono ?_;rintro e w'' ⟨rfl,hG⟩
  exact⟨rfl,hG.plw h3 rfl h5 h6⟩
 ·rintro k wb W hk ⟨c,L,st,h1,h2,h3,h4,h5,h6⟩
  rw[←h1];refine(xP h2 h3 hg h4 (by omega) (by omega)).mono ?_;rintro e w'' ⟨rfl,hG⟩
  exact⟨rfl,hG.plw h3 rfl h5 h6⟩
 rintro wb W ⟨c,L,st,h1,h2,h3,h4,h5,h6⟩
 rw[←h1];refine(rH h2 h3 hg h4 (by omega) (by omega)).mono ?_;rintro e w'' ⟨rfl,c',L',st',-,-,hst,-⟩
 exact⟨rfl,(h3.step hst).old⟩
end
theorem pV{w0:World}(hg:bH w0){sc:List Sp}(hn : -9223372036854775808≤n∧n≤9223372036854775807)(hl:sc.length≤1048576)(hok:∀o∈sc,o.AP)(hsc:dF w0 p sc):Calls Tryz.prog 4 #[.int .i64 n,.slice p sc.length cap] w0 fun e w'=>e=.returned (.bool true)∧Below w0.heap.size w0 w':=pW (sO hg false hn hl hok hsc)
theorem wQ{w0:World}(hg:bH w0){sc:List Sp}(hn : -9223372036854775808≤n∧n≤9223372036854775807)(hl:sc.length≤1048576)(hok:∀o∈sc,o.AP)(hsc:dF w0 p sc):Calls Tryz.prog 6 #[.int .i64 n,.slice p sc.length cap] w0 fun e w'=>e=.returned (.bool true)∧Below w0.heap.size w0 w':=wR (sO hg true hn hl hok hsc)
theorem cS.mono{st:aS Qn}{u v:Nat}(h:cS st u)(huv:u≤v):cS st v:=by
 have h1:=h.trl;have h2:=h.bk;have h3:=h.bb;have h4:=h.bf;have h5:=h.airl;refine⟨h.ok,h.tot,h.air,fun k hk=>?_,by omega,by omega,by omega,by omega,by omega,fun k hk m hm=>?_⟩
 ·have:=h.now k hk;omega
 have:=h.room k hk m hm;omega
def zN(w0:World)(LB NB N u wb:Nat)(W:World)(c:Nat→Nat):Prop:=∃L st,L.wb=wb∧ar (aB LB NB) W c L st∧bN w0 c W∧cS st u∧st.n=N
def jY(w0:World)(LB NB N1 N2 u1 u2 xb yb:Nat)(W:World):Prop:=∃c1 c2,zN w0 LB NB N1 u1 xb W c1∧zN w0 LB NB N2 u2 yb W c2∧∀b,b<W.heap.size→c1 b=0∨c2 b=0
section
variable {w0 W W':World} {LB NB N1 N2 u1 u2 u xb yb:Nat}
theorem jY.swap(h:jY w0 LB NB N1 N2 u1 u2 xb yb W):jY w0 LB NB N2 N1 u2 u1 yb xb W:=by
 obtain⟨c1,c2,h1,h2,h3⟩:=h;exact⟨c2,c1,h2,h1,fun b hb=>(h3 b hb).symm⟩
theorem jY.old(h:jY w0 LB NB N1 N2 u1 u2 xb yb W):Below w0.heap.size w0 W:=by
 obtain⟨c1,c2,⟨L,st,-,-,ho,-⟩,-⟩:=h;exact ho.old
theorem jY.mono(h:jY w0 LB NB N1 N2 u1 u2 xb yb W)(hu:u1≤u):jY w0 LB NB N1 N2 u u2 xb yb W:=by
 obtain⟨c1,c2,⟨L,st,h1,h2,h3,h4,h5⟩,h6,h7⟩:=h;exact⟨c1,c2,⟨L,st,h1,h2,h3,h4.mono hu,h5⟩,h6,h7⟩
theorem jY.go(h:jY w0 LB NB N1 N2 u1 u2 xb yb W){f:FuncId}{args:Nat→Array Value}(hC:∀c L st,ar (aB LB NB) W c L st→bN w0 c W→cS st u1→st.n=N1→Calls Tryz.prog f (args L.wb) W fun e w'=>e=.returned (.bool true)∧gi LB NB W c L st u w'):Calls Tryz.prog f (args xb) W fun e w'=>e=.returned (.bool true)∧jY w0 LB NB N1 N2 u u2 xb yb w':=by
 obtain⟨c1,c2,⟨L,st,h1,h2,h3,h4,h5⟩,⟨L2,st2,g1,g2,g3,g4,g5⟩,hd⟩:=h;rw[←h1];refine(hC c1 L st h2 h3 h4 h5).mono ?_;rintro e w' ⟨rfl,c',L',st',k1,k2,k3,k4,k5,k6⟩
 have hs:=k3.size;refine⟨rfl,c',cD W c2,⟨L',st',k1,k2,h3.step k3,k4,k5.trans h5⟩,⟨L2,st2,g1,?_,⟨(h3.step k3).old,fun b hb=>?_⟩,g4,g5⟩,fun b hb=>?_⟩
 ·refine(g2.Az (aw LB NB)).keep (aw LB NB) hs fun b hb hc=>?_
  have hc2:c2 b≠0:=by
   have:cD W c2 b=c2 b:=if_pos hb;rw[←this];exact hc
  rcases hd b hb with e|e
  ·exact k3.zero b hb e
  exact absurd e hc2
 ·have hbW:=CG hb h3.old.size;exact(if_pos hbW).trans (g3.zero b hb)
 by_cases hbW:b<W.heap.size
 ·rw[k3.col b hbW];have e:cD W c2 b=c2 b:=if_pos hbW;rw[e];exact hd b hbW
 exact .inr (if_neg hbW)
theorem jY.step(h:jY w0 LB NB N1 N2 u1 u2 xb yb W)(hg:bH w0)(hu:u1≤1100000)(hLB:1200000≤LB)(hNB:NB≤1000000000000000)(hnb:200000000≤NB){o:Sp}(hf:o.AP):Calls Tryz.prog 15 #[.pointer (some ⟨xb,0,none⟩),o.val] W fun e w'=>e=.returned (.bool true)∧jY w0 LB NB N1 N2 (u1+1) u2 xb yb w':=h.go (args:=fun x=>#[.pointer (some ⟨x,0,none⟩),o.val]) fun _ _ _ hM ho hp _=>vm hM ho hg hp hu hLB hNB hnb hf
theorem jY.B0(h:jY w0 LB NB N1 N2 u1 u2 xb yb W)(hg:bH w0)(hu:u1≤1100000)(hLB:1200000≤LB)(hNB:NB≤1000000000000000)(hn:0<N1)(s:ByteArray)(hs:s.size≤maxLen):Calls Tryz.prog 16 #[.pointer (some ⟨xb,0,none⟩),.int .i64 0,.string s] W fun e w'=>e=.returned (.bool true)∧jY w0 LB NB N1 N2 (u1+1) u2 xb yb w':=h.go (args:=fun x=>#[.pointer (some ⟨x,0,none⟩),.int .i64 0,.string s]) fun _ _ _ hM ho hp hN=>sl hM ho hg hp hu hLB hNB (k:=0) (by rw[hN];exact hn) s hs
theorem jY.BG(h:jY w0 LB NB N1 N2 u1 u2 xb yb W)(hg:bH w0)(hu:u1≤1100000)(hnb:200000000≤NB):Calls Tryz.prog 17 #[.pointer (some ⟨xb,0,none⟩)] W fun e w'=>e=.returned (.bool true)∧jY w0 LB NB N1 N2 (u1+1) u2 xb yb w':=h.go (args:=fun x=>#[.pointer (some ⟨x,0,none⟩)]) fun _ _ _ hM ho hp _=>rH hM ho hg hp hu hnb
theorem jY.begun(h:zM w0 LB NB N1 true 0 xb W)(hLB:LB≤4294900000)(hNB:NB≤1000000000000000)(hn:2≤N2∧N2≤5):Calls Tryz.prog 13 #[.int .i64 (N2:Int),.bool true] W fun e w'=>∃yb,e=.returned (.pointer (some ⟨yb,0,none⟩))∧jY w0 LB NB N1 N2 0 0 xb yb w':=by
 obtain⟨c,L,st,h1,h2,h3,h4,h5,h6⟩:=h;refine(wM hLB hNB hn true W).mono ?_;rintro e w' ⟨c2,L2,rbs,rfl,hM,hb,h0⟩
 have hz:=(h2.Az (aw LB NB)).below (aw LB NB) hb;have hst:aG W c w' (cD W c):=(aG.refl W c).Az.trans (aG.below hb);refine⟨L2.wb,rfl,cD W c,c2,⟨L,st,h1,hz,h3.step hst,h4,h5⟩,⟨L2,_,rfl,hM,⟨(h3.step hst).old,fun b hb'=>h0 b (CG hb' h3.old.size)⟩,rj N2 true rbs,rfl⟩,fun b hb'=>?_⟩;by_cases hbW:b<W.heap.size
 ·exact .inr (h0 b hbW)
 exact .inl (if_neg hbW)
end
theorem tK{w0:World}(hg:bH w0){p1 p2:Option Addr}{cap1 cap2:Nat}{s1 s2:List Sp}(hn : -9223372036854775808≤n∧n≤9223372036854775807)(hl1:s1.length≤1048576)(hl2:s2.length≤1048576)(hok1:∀o∈s1,o.AP)(hok2:∀o∈s2,o.AP)(hsc1:dF w0 p1 s1)(hsc2:dF w0 p2 s2):Calls Tryz.prog 5 #[.int .i64 n,.slice p1 s1.length cap1,.slice p2 s2.length cap2] w0 fun e w'=>e=.returned (.bool true)∧Below w0.heap.size w0 w':=by
 have hp4:(aE n 4:Int)<4:=cI (by omega);have hN1:2≤2+aE n 4∧2+aE n 4≤5:=⟨by omega,by omega⟩;have hm : -9223372036854775808≤ql n s2.length∧ql n s2.length≤9223372036854775807:=by
  unfold ql wrap64;omega
 obtain⟨m,hme⟩:∃m,m=ql n s2.length:=⟨_,rfl⟩
 rw[←hme]at hm;have hp5:(aE m 4:Int)<4:=cI (by omega);have hN2:2≤2+aE m 4∧2+aE m 4≤5:=⟨by omega,by omega⟩;obtain⟨LB,hLB⟩:∃LB,LB=4000000000:=⟨_,rfl⟩
 obtain⟨NB,hNB⟩:∃NB,NB=1000000000000:=⟨_,rfl⟩
 obtain⟨M,hM⟩:∃M,M=max s1.length s2.length:=⟨_,rfl⟩
 have hM1:M≤1048576:=by omega
 refine zu hn (by omega) (by omega) (N2:=2+aE m 4) (fun W=>by rw[←hme];exact kl m W hm) (zM w0 LB NB (2+aE n 4) true 0) (fun k=>jY w0 LB NB (2+aE n 4) (2+aE m 4) k k) (fun k=>jY w0 LB NB (2+aE n 4) (2+aE m 4) (k+1) k) (jY w0 LB NB (2+aE n 4) (2+aE m 4) (M+1) M) (jY w0 LB NB (2+aE n 4) (2+aE m 4) (M+2) M) (jY w0 LB NB (2+aE n 4) (2+aE m 4) (M+2) (M+1)) (fun w'=>Below w0.heap.size w0 w')
  ?_ ?_ ?_ ?_ ?_ ?_ ?_ ?_ ?_ ?_ ?_ ?_
 ·exact wO (by omega) (by omega) hN1 true w0
 ·intro xb W h;exact jY.begun h (by omega) (by omega) hN2
 ·intro k xb yb W h;exact hsc1.stays h.old
 ·intro k xb yb W h;exact hsc2.stays h.old
 ·intro k xb yb W hk h;exact h.step hg (by omega) (by omega) (by omega) (by omega) (hok1 _ (CN hk))
 ·intro k xb yb W hk h;exact h.mono (by omega)
 ·intro k xb yb W hk h;refine(h.swap.step hg (by omega) (by omega) (by omega) (by omega) (hok2 _ (CN hk))).mono ?_;rintro e w' ⟨rfl,h'⟩
  exact⟨rfl,h'.swap⟩
 ·intro k xb yb W hk h;exact(h.swap.mono (u:=k+1) (by omega)).swap
 ·intro xb yb W h;rw[←hM]at h
  exact h.B0 hg (by omega) (by omega) (by omega) (by omega) zE (by unfold maxLen;decide)
 ·intro xb yb W h;exact h.BG hg (by omega) (by omega)
 ·intro xb yb W h;refine(h.swap.B0 hg (by omega) (by omega) (by omega) (by omega) vI (by unfold maxLen;decide)).mono ?_;rintro e w' ⟨rfl,h'⟩
  exact⟨rfl,h'.swap⟩
 intro xb yb W h;refine(h.swap.BG hg (by omega) (by omega)).mono ?_;rintro e w' ⟨rfl,h'⟩
 exact⟨rfl,h'.old⟩
end
section
open Go.ChangeShapes Go.WideShapes Go.ChangeAt Go.RowKit Go.Deep
variable {cs:List Value} {n:Nat}
theorem Tryz.BP:Tryz.prog.cellsOf 30=5:=by kernel_rfl
theorem Tryz.B9:Tryz.prog.cellsOf 3=1:=by kernel_rfl
theorem Tryz.Bm:laidOutB Tryz.prog=true:=by kernel_rfl
theorem Tryz.Cd:Tryz.prog.readableRec 30=true:=by kernel_rfl
theorem Tryz.Cc:Tryz.prog.slicesRec 30=false:=by kernel_rfl
theorem Tryz.Cf:Tryz.prog.ifacesRec 30=false:=by kernel_rfl
theorem Tryz.Cb:Tryz.prog.veiledRec 30=false:=by kernel_rfl
theorem Tryz.Ce:30<Tryz.prog.types.size:=of_decide_eq_true (by kernel_rfl)
section
variable {H:Type} {enc:TypeId×Value→H} {W W':World} {base:Nat} {sp:Nat→Bool} {hd:Bool}
theorem ym{x:DataW H×List MemPlace}(h:DataW.trod enc Tryz.prog W base sp hd n 30 cs=some x):∃o:Sp,cs=[.int .i64 o.K,.int .i64 o.A,.int .i64 o.B,.int .i64 o.C,.string o.S]∧o.AP:=by
 obtain⟨xs,k,-,-,hl,hxl,hf⟩:=DataW.trod_struct Tryz.underlying30 h;rw[Tryz.BP]at hl
 match cs,hl with
 |[v0,v1,v2,v3,v4],_ =>
  match xs,hxl with
  |[y0,y1,y2,y3,y4],_ =>
   have g0:DataW.trod enc Tryz.prog W base sp hd k 3 (([v0,v1,v2,v3,v4].drop 0).take (Tryz.prog.cellsOf 3))=some y0:=hf 0 _ rfl;have g1:DataW.trod enc Tryz.prog W base sp hd k 3 (([v0,v1,v2,v3,v4].drop 1).take (Tryz.prog.cellsOf 3))=some y1:=hf 1 _ rfl;have g2:DataW.trod enc Tryz.prog W base sp hd k 3 (([v0,v1,v2,v3,v4].drop 2).take (Tryz.prog.cellsOf 3))=some y2:=hf 2 _ rfl;have g3:DataW.trod enc Tryz.prog W base sp hd k 3 (([v0,v1,v2,v3,v4].drop 3).take (Tryz.prog.cellsOf 3))=some y3:=hf 3 _ rfl;have g4:DataW.trod enc Tryz.prog W base sp hd k 9 (([v0,v1,v2,v3,v4].drop 4).take (Tryz.prog.cellsOf 9))=some y4:=hf 4 _ rfl;rw[Tryz.B9]at g0 g1 g2 g3
   rw[Tryz.A3]at g4;obtain⟨z0,e0,-,w0⟩:=DataW.trod_int Tryz.underlying3 g0;obtain⟨z1,e1,-,w1⟩:=DataW.trod_int Tryz.underlying3 g1;obtain⟨z2,e2,-,w2⟩:=DataW.trod_int Tryz.underlying3 g2;obtain⟨z3,e3,-,w3⟩:=DataW.trod_int Tryz.underlying3 g3;obtain⟨s,e4,-,w4⟩:=DataW.trod_string Tryz.underlying9 g4;simp at e0 e1 e2 e3 e4;subst e0 e1 e2 e3 e4;exact⟨⟨z0,z1,z2,z3,s⟩,rfl,se w0,se w1,se w2,se w3,w4⟩
theorem gB{x:DataW H×List MemPlace}(h:DataW.trod enc Tryz.prog W base (fun _=>true) hd n 22 cs=some x):∃(p:Option Addr) (cap:Nat) (sc:List Sp),cs=[.slice p sc.length cap]∧dF W p sc∧(∀o∈sc,o.AP)∧sc.length≤Rows.uptoBulk x.1:=by
 rcases open_slice Tryz.underlying22 h with⟨rfl,rfl⟩|⟨a,len,cap,m,n,D,Pl,rfl,h0,hl,hm,hmm,rfl,hi⟩
 ·exact⟨none,0,[],rfl,fun i o ho=>by simp at ho,fun o ho=>by simp at ho,CB _⟩
 simp only[if_true]at hmm;subst hmm;rw[Tryz.BP]at hi
 have each:∀i,i<m→∃o:Sp,W.cells? base (a.add (i*5)) 5=some [.int .i64 o.K,.int .i64 o.A,.int .i64 o.B,.int .i64 o.C,.string o.S]∧o.AP:=fun i him=>by
  obtain⟨cs',h1,h2⟩:=hi i him;obtain⟨o,rfl,h3⟩:=ym h2;exact⟨o,h1,h3⟩
 obtain⟨f,hf⟩:=Classical.skolem.1 (fun i=>(show ∃o:Sp,i<m→_ from if him:i<m then(each i him).elim fun o ho=>⟨o,fun _=>ho⟩ else⟨⟨0,0,0,0,⟨#[]⟩⟩,fun h=>absurd h him⟩));refine⟨some a,m,(List.range len).map f,by simp,fun i o ho=>?_,fun o ho=>?_,?_⟩
 ·have hil:i<len:=by
   have:=(List.getElem?_eq_some_iff.1 ho).1;simpa using this
  have hio:o=f i:=by
   rw[List.getElem?_map,List.getElem?_range hil]at ho;simpa using ho.symm
  subst hio;obtain⟨-,-,hc⟩:=World.cells?_some (hf i (by omega)).1;have hsp:a.spot=none:=by
   have:=World.cell?_spot ((World.cells?_some (hf 0 (by omega)).1).2.2 0 (by omega));simpa[Addr.add] using this
  obtain⟨b,off,spot⟩:=a;simp only at hsp;subst hsp;have e:∀j,j<5→W.cell? ⟨b,off+i*5+j,none⟩=[Value.int .i64 (f i).K,.int .i64 (f i).A,.int .i64 (f i).B,.int .i64 (f i).C,.string (f i).S][j]?:=fun j hj=>by
   have:=hc j hj;rw[add_add]at this
   rw[←this];unfold Addr.add;split
   ·rename_i h0;have:i*5+j=0:=h0;simp[DF,this]
   simp[DF]
  exact⟨b,off,rfl,e 0 (by omega),e 1 (by omega),e 2 (by omega),e 3 (by omega),e 4 (by omega)⟩
 ·obtain⟨i,hi',rfl⟩:=List.mem_map.1 ho;exact(hf i (by have:=List.mem_range.1 hi';omega)).2
 simp only[Rows.uptoBulk];have:∀l:List (DataW H),l.length≤Rows.uptoBulkAll l:=fun l=>by
  induction l with
  |nil=>simp[Rows.uptoBulkAll]
  |cons d r ih =>
   have h1:1≤Rows.uptoBulk d:=by
    cases d with
    |lit l=>cases l <;> simp[Rows.uptoBulk]
    |nil=>simp[Rows.uptoBulk]
    |ptr d=>simp[Rows.uptoBulk]
    |slice elems spare=>simp[Rows.uptoBulk]
    |agg parts=>simp[Rows.uptoBulk]
    |iface t d=>simp[Rows.uptoBulk]
    |map entries=>simp[Rows.uptoBulk]
    |held h=>simp[Rows.uptoBulk]
   simp only[Rows.uptoBulkAll,List.length_cons];omega
 have:=this ((List.range len).map D);simp only[List.length_map,List.length_range]at this ⊢;omega
theorem fa{x:DataW H×List MemPlace}(hb:Below W.heap.size W W')(h:DataW.trod enc Tryz.prog W 0 (fun _=>true) true n 22 cs=some x)(hp:∀q∈x.2,q.block<W.heap.size):∃m,DataW.trod enc Tryz.prog W' 0 (fun b=>decide (b<W.heap.size)) true m 22 cs=some x:=pY Tryz.underlying22 hb (by rw[Tryz.BP];omega) (fun n _ _ h hq=>⟨n,trod_any Tryz.Bm Tryz.Cd Tryz.Ce Tryz.Cc Tryz.Cf h (fun p hp=>lS hb (hq p hp)) Tryz.Cb⟩) h hp
end
end
end Go.Proofs.YtckmppkdpnhodaaGreatDoor
