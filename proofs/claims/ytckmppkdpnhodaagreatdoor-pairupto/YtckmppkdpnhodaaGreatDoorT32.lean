import Derived.Test.YtckmppkdpnhodaaGreatDoorT31
import Derived.Test.YtckmppkdpnhodaaGreatDoorT08
import Derived.Test.YtckmppkdpnhodaaGreatDoorT00
set_option maxRecDepth 100000
set_option maxHeartbeats 8000000
set_option linter.unusedVariables false
set_option linter.unusedSimpArgs false
open ByteArray renaming empty→CL
open Go.RowKit.Below renaming refl→Ck,heap_alloc→CF,heap_setCell→CD
open Nat renaming le_refl→Cl,zero_le→CB
open Array renaming getElem?_eq_some_iff→Cn,getElem?_setIfInBounds_ne→CY
open List renaming getElem?_eq_some_iff→CT,length_filter_le→DE,mem_cons→Co,not_mem_nil→Cq
open Go.World renaming block_lt_of_cell?→Cy,cell?_of_block→CE
open Go.Value renaming ownBlock→Cp
namespace Go.Proofs.YtckmppkdpnhodaaGreatDoor
open Go.RowKit Go.Proofs
variable {QT:Type} {R:World→Nat→List Nat→cX→QT→(Nat→Prop)→Prop}
attribute [local go_sem ↓] Go.wp_at_zero Go.wp_at_succ
theorem Tryz.A7:(Tryz.prog.info? 91).map (fun i=>(i.zero,i.size,i.bytes))=some (some (.agg #[.int .i64 0,.int .i64 0,.string CL,.string CL,.string CL,.int .i64 0,.slice none 0 0]),7,96):=by kernel_rfl
theorem wA(hR:dT R){w:World}{c:Nat→Nat}{L:aC}{st:aS QT}(h:ar R w c L st){k:Nat}(hk:k<st.n)(ids:List Nat)(hA:bz R w c L st k ids)(s:ByteArray)(hs:s.size≤maxLen)(cm:Cm)(hr:aY s=some cm)(hids:∀y∈ids,y<st.tr.length)(hsm:Small st.tr)(hl:st.tr.length≤maxLen)(hil:ids.length≤100000000)(hla:gE st.tr ids cm=false)(log':QT)(Q:Nat→aS QT→Prop)(idsO:Nat→List Nat)(hQ0:Q 0 ((st.asked k ids).did k log'))(hQn:∀i st',Q i st'→st'.n=st.n∧st'.tr=st.tr∧st'.since=st.since∧st'.xss[k]?=some ids)(hQk:∀st',Q k st'→Q (k+1) st')(hQa:∀i st',i≠k→i<st.n→Q i st'→Q (i+1) (st'.asked i (idsO i))∧(idsO i).length≤maxLen∧gk st.tr k (idsO i) st.tr.length<8)(hAO:∀i w' c' L' st',i≠k→i<st.n→ar R w' c' L' st'→Q i st'→aG w c w' c'→bz R w' c' L' st' i (idsO i))(hTl:st.tr.length≤1000000000000)(h8l:∀x∈st.since,x≤1000000000000)(ids2:List Nat)(hi2:ids2.length=ids.length+1)(hD:∀w' c' L',ar R w' c' L' (st.asked k ids)→aG w c w' c'→Calls Tryz.prog 20 #[.pointer (some ⟨st.rbs[k]'(by rw[h.llen];exact hk),0,none⟩),.string s] w' fun e w''=>e=.returned (.int .i64 0)∧∃c'',ar R w'' c'' L' ((st.asked k ids).did k log')∧aG w' c' w'' c'')(hA2:∀w' c' L' st',ar R w' c' L' (st'.done k ⟨k,(own st.tr k).length+1,s,cm,ids⟩)→Q st.n st'→aG w c w' c'→bz R w' c' L' (st'.done k ⟨k,(own st.tr k).length+1,s,cm,ids⟩) k ids2):Calls Tryz.prog 16 #[.pointer (some ⟨L.wb,0,none⟩),.int .i64 (k:Int),.string s] w fun e w'=>e=.returned (.bool true)∧∃c' L' st',L'.wb=L.wb∧ar R w' c' L' ((st'.done k ⟨k,(own st.tr k).length+1,s,cm,ids⟩).asked k ids2)∧Q st.n st'∧aG w c w' c':=by
 have HA:=hid hA;have HRD:Hid (∀W,Calls Tryz.prog 39 #[.string s] W fun e w'=>e=.returned (.tuple #[.agg #[.string cm.k.bs,.string cm.word,.int .i64 (cm.count:Int)],.bool true])∧Below W.heap.size W w'):=fun W=>ke s W hs hr
 have HD:=hid hD;have HNU:Hid (∀W tv u,bL W tv st.tr→aT W u ids→Calls Tryz.prog 40 #[tv,u,.string cm.word] W fun e w'=>e=.returned (.int .i64 (bw st.tr ids cm.word:Int))∧Below W.heap.size W w'):=fun W tv u hT hK=>gC tv u st.tr ids cm.word W hT hK hids hsm hl (by omega)
 have HHA:Hid (∀W tv u,bL W tv st.tr→aT W u ids→Calls Tryz.prog 41 #[tv,u,.string ⟨#[97,112,112,108,121]⟩,.string cm.word] W fun e w'=>e=.returned (.bool (hasB st.tr ids .established cm.word))∧Below W.heap.size W w'):=fun W tv u hT hK=>lE tv u st.tr ids .established cm.word W hT hK hids hl (by omega)
 have hkx:k<st.xss.length:=by rw[h.xlen];exact hk
 have HX:Hid ((st.asked k ids).xss[k]'(by simp[aS.asked];exact hkx)=ids):=by simp[Hid,aS.asked]
 have hk5:st.n≤5:=h.npos.2;have HSL:Hid (st.since.length=st.n):=h.slen;generalize hrb:st.rbs[k]'(by rw[h.llen];exact hk)=rb at *;have HRB:Hid (st.rbs[k]'(by rw[h.llen];exact hk)=rb):=hrb;have HLA:=hid hla;have HQ0:Hid _:=hQ0;have HQN:Hid _:=hQn;have HQK:Hid _:=hQk;have HQA:Hid _:=hQa;have HAO:Hid _:=hAO;have HA2:Hid _:=hA2;have HI2:=hid hi2;have H8L:=hid h8l;clear hA hD hrb hs hr hids hsm hla hQ0 hQn hQk hQa hAO h8l hA2;generalize hwb:L.wb=wb at *;have k0:(0:Int)≤(k:Int):=by omega
 have k1:(k:Int)<(st.n:Int):=by omega
 unfold bz at HA;rw[hwb]at HA
 clear hwb;obtain⟨kd,word,cnt⟩:=cm;simp only at HRD HNU HHA;go_enter Tryz.func16,Tryz.ntmps16
 go_wp2_with (first
  |(go_at_call 35;refine HA.out.mono ?_;rintro e w1 ⟨rfl,c1,L1,hL1,hm1,hst1⟩)
  |(go_at_call 39;refine(HRD.out _).mono ?_;rintro e w2 ⟨rfl,hb2⟩;have hm3:=((hm1.below hR hb2).Az hR).below hR ((Ck _ w2).alloc (Cl _) (.cells #[.string kd.bs,.string word,.int .i64 (cnt:Int)] 85));have hst3:=(hst1.trans (aG.below hb2)).Az.trans (aG.below ((Ck _ w2).alloc (Cl _) (.cells #[.string kd.bs,.string word,.int .i64 (cnt:Int)] 85)));obtain⟨lb,capl,kb,capk,u,r1,r2,r3,rl,rk,rn⟩:=hm3.reads hk;rw[hL1]at r1 r2 r3;replace rl:=rl.trans (show some (Value.pointer (some ⟨_,0,none⟩))=some (.pointer (some ⟨rb,0,none⟩)) by rw[←HRB.out];rfl))
  |(go_at_call 20;refine(HD.out _ _ L1 hm3 hst3).mono ?_;rintro e w4 ⟨rfl,c4,hm4,hst34⟩))
 have hcz:cD w2 c1 w2.heap.size=0:=if_neg (Nat.lt_irrefl _);have hcl:w2.heap.size<(w2.alloc (.cells #[.string kd.bs,.string word,.int .i64 (cnt:Int)] 85)).heap.size:=by simp
 have hcb4:w4.heap[w2.heap.size]?=some (.cells #[.string kd.bs,.string word,.int .i64 (cnt:Int)] 85 (0,0)):=(hst34.zero _ hcl hcz).trans (heap_alloc_new w2 _);have hc40:c4 w2.heap.size=0:=(hst34.col _ hcl).trans hcz;have hst4:=hst3.trans hst34;clear r1 r2 r3 rl rk rn;obtain⟨lb,capl,kb,capk,u,r1,b2,b3,rl,bk,rn⟩:=hm4.reads hk;rw[hL1]at r1 b2 b3
 have v0:w4.cell? ⟨w2.heap.size,0,none⟩=some (.string kd.bs):=cell_of_heap hcb4 _;have v1:w4.cell? ⟨w2.heap.size,1,none⟩=some (.string word):=cell_of_heap hcb4 _;have hT4:bL w4 L1.tv st.tr:=hm4.trace.at;have hN4:aT w4 u ids:=by
  have:=rn;rwa[show((st.asked k ids).did k log').xss[k]'(by rw[hm4.xlen];exact hk)=ids from HX.out]at this
 have hsn:((st.asked k ids).did k log').n=st.n:=rfl;rw[hsn]at *
 clear hsn r1 rl rn hm1 hst1 hm3 hst3 hst34 HRD HD HA hcz hcl;have HM4:Hid (ar R w4 c4 L1 ((st.asked k ids).did k log')):=hm4;have HST:Hid (aG w c w4 c4):=hst4;have HL1:Hid (L1.wb=wb):=hL1;have HNW:Hid (Calls Tryz.prog 40 #[L1.tv,u,.string word] w4.drew fun e w'=>e=.returned (.int .i64 (bw st.tr ids word:Int))∧Below w4.drew.heap.size w4.drew w'):=HNU.out _ _ _ (hT4.below ((Ck _ w4).drew)) (hN4.below ((Ck _ w4).drew));have HHW:Hid (∀W,Below w4.heap.size w4 W→Calls Tryz.prog 41 #[L1.tv,u,.string ⟨#[97,112,112,108,121]⟩,.string word] W fun e w'=>e=.returned (.bool (hasB st.tr ids .established word))∧Below W.heap.size W w'):=fun W hW=>HHA.out _ _ _ (hT4.below hW) (hN4.below hW)
 clear hm4 hst4 hL1 hT4 hN4 HNU HHA;generalize L1.tv=tv at *;have hnl:=gD st.tr ids word;go_region_held3 (fun w'=>w'.cell? ⟨wb,2,none⟩=some tv∧w'.cell? ⟨wb,3,none⟩=some (.slice (some ⟨kb,0,none⟩) st.n capk)∧w'.cell? ⟨kb,k,none⟩=some u∧w'.cell? ⟨w2.heap.size,1,none⟩=some (.string word)) (first|exact⟨b2,b3,bk,v1⟩|exact⟨aa hb5 b2,aa hb5 b3,aa hb5 bk,aa hb5 v1⟩) (first|(go_at_call 40;refine HNW.out.mono ?_;rintro e w5 ⟨rfl,hb5⟩))
 have hb45:Below w4.heap.size w4 w5:=((Ck _ w4).drew).trans hb5;have d2:=aa hb45 b2;have d3:=aa hb45 b3;have dk:=aa hb45 bk;have x0:=aa hb45 v0;have x1:=aa hb45 v1;have HHV:Hid (Calls Tryz.prog 41 #[tv,u,.string ⟨#[97,112,112,108,121]⟩,.string word] w5.drew fun e w'=>e=.returned (.bool (hasB st.tr ids .established word))∧Below w5.drew.heap.size w5.drew w'):=HHW.out _ hb45.drew;go_wp2_with fail
 go_region_held3 (fun w'=>w'.cell? ⟨wb,2,none⟩=some tv∧w'.cell? ⟨wb,3,none⟩=some (.slice (some ⟨kb,0,none⟩) st.n capk)∧w'.cell? ⟨kb,k,none⟩=some u∧w'.cell? ⟨w2.heap.size,1,none⟩=some (.string word)) (first|exact⟨d2,d3,dk,x1⟩|exact⟨aa hb6 d2,aa hb6 d3,aa hb6 dk,aa hb6 x1⟩) (first|(go_at_call 41;refine HHV.out.mono ?_;rintro e w6 ⟨rfl,hb6⟩))
 have hb56:Below w5.heap.size w5 w6:=((Ck _ w5).drew).trans hb6;have hb46:Below w4.heap.size w4 w6:=hb45.trans (hb56.mono hb45.size);have y0:=aa hb56 x0;have hlk:=HLA.out;simp only[gE,Bool.or_eq_false_iff,Bool.and_eq_false_iff,decide_eq_false_iff_not,Bool.not_eq_false']at hlk;have hb46m:=HM4.out.below hR hb46;have hst6:=HST.out.trans (aG.below (c:=c4) hb46);have hcb6:w6.heap[w2.heap.size]?=some (.cells #[.string kd.bs,.string word,.int .i64 (cnt:Int)] 85 (0,0)):=(hb46.block _ (Cn.1 hcb4).1).trans hcb4;generalize bw st.tr ids word=nn at *;generalize hasB st.tr ids .established word=hb at *;have hlr:(kd.bs.toList == [114,101,109,111,118,101])=false∨((nn:Int) == 0)=false:=by
  rcases hlk.1 with h1|h1
  ·exact .inl (ko h1)
  exact .inr (by rw[beq_eq_false_iff_ne];omega)
 have hlv:(kd.bs.toList == [114,101,118,111,107,101])=false∨hb=true:=by
  rcases hlk.2 with h1|h1
  ·exact .inl (km h1)
  exact .inr h1
 clear hlk;have HMM:Hid (ar R w6 c4 L1 ((st.asked k ids).did k log')):=hb46m;have HSS:Hid (aG w c w6 c4):=hst6;have HCB:Hid (w6.heap[w2.heap.size]?=some (.cells #[.string kd.bs,.string word,.int .i64 (cnt:Int)] 85 (0,0))):=hcb6;clear hcb6 hcb4;clear hb46m hst6 b2 b3 bk v0 v1 d2 d3 dk x0 x1 HNW HHW HHV hb45 hb5 hb6 hb56 hb46 HM4 HST hb2;generalize w2.heap.size=cb at *;generalize hkv:kd.bs=kv at *;have HKV:Hid (kd.bs=kv):=hkv;clear hkv;go_upto_region 10 with fail
 go_cut [85] from 70 (fun v wc=>v=.bool false∧wc=w6)
 case first =>
  rcases hlr with hlr|hlr
  ·rcases hlv with hlv|hlv
   ·go_wp2_with fail
    all_goals go_meet
    all_goals first|(case rel=>exact⟨rfl,rfl⟩)|skip
   subst hlv;go_wp2_with fail
   all_goals go_meet
   all_goals first|(case rel=>exact⟨rfl,rfl⟩)|skip
  rcases hlv with hlv|hlv
  ·go_wp2_with fail
   all_goals go_meet
   all_goals first|(case rel=>exact⟨rfl,rfl⟩)|skip
  subst hlv;go_wp2_with fail
  all_goals go_meet
  all_goals first|(case rel=>exact⟨rfl,rfl⟩)|skip
 case rest =>
  obtain⟨rfl,rfl⟩:=hcut;clear hlr hlv y0;go_wp2_with fail
  have hn5:st.n≤5:=hk5;go_loopw [13] (fun v wr=>∃(i:Nat) (c':Nat→Nat) (L':aC) (st':aS QT),i≤st.n∧v=.int .i64 i∧Hid (ar R wr c' L' st')∧L'.wb=wb∧Hid (Q i st')∧Hid (aG w c wr c')∧Hid (wr.heap[cb]?=some (.cells #[.string kv,.string word,.int .i64 (cnt:Int)] 85 (0,0))∧c' cb=0)) (fun v _=>st.n-(intOf v).toNat)
  case atStart=>exact⟨0,c4,L1,_,CB _,rfl,HMM.out,HL1.out,HQ0.out,HSS.out,HCB.out,hc40⟩
  case round =>
   obtain⟨i,c',L',st',hi,rfl,hM,hL',hq,hS,hcb⟩:=hrel;obtain⟨hn',ht',hs',hx'⟩:=HQN.out i st' hq.out;have r0:wr.cell? ⟨wb,0,none⟩=some (.int .i64 (st.n:Int)):=by rw[←hL',hM.out.cell,hn'];simp[aC.C]
   by_cases hlt:i<st.n
   ·by_cases hik:i=k
    ·subst hik;go_wp2_with fail
     go_roundw
     case rel =>
      have R1:i+1≤st.n∧Value.int .i64 ((i:Int)+1)=.int .i64 ((i+1:Nat):Int)∧Hid (ar R wr c' L' st')∧L'.wb=wb∧Hid (Q (i+1) st')∧Hid (aG w c wr c')∧Hid (wr.heap[cb]?=some (.cells #[.string kv,.string word,.int .i64 (cnt:Int)] 85 (0,0))∧c' cb=0):=⟨by omega,by go_num,hM,hL',HQK.out st' hq.out,hS,hcb⟩
      first
       |exact⟨i+1,c',L',st',R1⟩
       |((repeat apply Exists.intro);exact⟨⟨i+1,c',L',st',R1⟩,rfl⟩)
     case measure=>simp[intOf];omega
    obtain⟨hq1,hol,hun8⟩:=HQA.out i st' hik hlt hq.out;have HASK:Hid (bz R wr c' L' st' i (idsO i)):=HAO.out i wr c' L' st' hik hlt hM.out hq.out hS.out;unfold bz at HASK;rw[hL']at HASK
    have hix:i<(st'.asked i (idsO i)).xss.length:=by simp[aS.asked,hM.out.xlen,hn'];exact hlt
    have hxi:(st'.asked i (idsO i)).xss[i]=idsO i:=by simp[aS.asked]
    have HUN:Hid (∀W c7 L7,ar R W c7 L7 (st'.asked i (idsO i))→L7.wb=wb→∃un:Nat,un<8∧Calls Tryz.prog 42 #[.pointer (some ⟨wb,0,none⟩),.int .i64 (k:Int),.int .i64 (i:Int)] W fun e w'=>e=.returned (.int .i64 (un:Int))∧w'=W):=fun W c7 L7 hm7 hL7=>by
     have htl:(st'.asked i (idsO i)).tr.length≤1000000000000:=by show st'.tr.length≤_;rw[ht'];exact hTl
     have:=hm7.unknown k hix htl (by rw[hxi];exact hol);rw[hL7]at this
     refine⟨_,?_,this⟩;rw[hxi,show(st'.asked i (idsO i)).tr=st.tr from ht'];exact hun8
    have bik:((i:Int) == (k:Int))=false:=by rw[beq_eq_false_iff_ne];omega
    have HQ1:Hid (Q (i+1) (st'.asked i (idsO i))):=hq1;clear hq hM hix hxi hq1 hun8 hx';go_wp2_with (first
     |(go_at_call 35;refine HASK.out.mono ?_;rintro e w7 ⟨rfl,c7,L7,hL7,hm7,hs7⟩;obtain⟨un,hun,HU⟩:=HUN.out w7 c7 L7 hm7 hL7)
     |(go_at_call 42;refine HU.mono ?_;rintro e w8 ⟨rfl,hw8⟩;have hw8':=hw8.symm;clear hw8;subst hw8'))
    all_goals
     go_roundw
     case rel =>
      have hcl:=(Cn.1 hcb.out.1).1;have R1:i+1≤st.n∧Value.int .i64 ((i:Int)+1)=.int .i64 ((i+1:Nat):Int)∧Hid (ar R w7 c7 L7 (st'.asked i (idsO i)))∧L7.wb=wb∧Hid (Q (i+1) (st'.asked i (idsO i)))∧Hid (aG w c w7 c7)∧Hid (w7.heap[cb]?=some (.cells #[.string kv,.string word,.int .i64 (cnt:Int)] 85 (0,0))∧c7 cb=0):=⟨by omega,by go_num,hm7,hL7,HQ1,hS.out.trans hs7,(hs7.zero cb hcl hcb.out.2).trans hcb.out.1,(hs7.col cb hcl).trans hcb.out.2⟩
      first
       |exact⟨i+1,c7,L7,_,R1⟩
       |((repeat apply Exists.intro);exact⟨⟨i+1,c7,L7,_,R1⟩,rfl⟩)
     case measure=>simp[intOf];omega
   obtain rfl:i=st.n:=by omega
   have hks:k<st'.since.length:=by rw[hs',HSL.out];exact hk
   obtain⟨gs,caps,r5,rs⟩:=hM.out.AR hks;have HSV1:Hid (∃c,L'.sv=.slice (some ⟨gs,0,none⟩) st'.n c):=by
    have e:=hM.out.cell 5;rw[r5]at e
    exact⟨caps,by simpa[aC.C] using e.symm⟩
   have HSV0:Hid (L'.sv.ownBlock=some gs):=by
    obtain⟨c,e⟩:=HSV1.out;show _=_;rw[e];rfl
   have HKU0:Hid (∃p c,L'.KB[k]?=some (.slice p ids.length c)):=by
    have hkx':=CT.1 hx';obtain⟨u,a1,a2,-⟩:=hM.out.xrow k hkx'.1;obtain⟨p,c,e,-⟩:=aT.Au a2;rw[hkx'.2]at e
    exact⟨p,c,by rw[a1,e]⟩
   rw[hL',hn']at r5;have h8l:st'.since[k]≤1000000000000:=by have:=H8L.out;rw[←hs']at this;exact this _ (List.getElem_mem hks)
   obtain⟨lb,capl,kb,capk,u,-,r2,r3,-,rk,rn⟩:=hM.out.reads (k:=k) (by rw[hn'];exact hk);rw[hL']at r2 r3
   rw[hn']at r3;have hxk:st'.xss[k]'(by rw[hM.out.xlen,hn'];exact hk)=ids:=by
    have:=CT.1 hx';exact this.2
   rw[hxk]at rn;obtain⟨sk,hsk⟩:∃sk,st'.since[k]=sk:=⟨_,rfl⟩
   rw[hsk]at rs h8l;have HSK:Hid (st'.since[k]?.getD 0=sk):=by show _=_;simp[hks,hsk]
   clear hsk hxk;obtain⟨pt,capt,hvt,hct⟩:=hM.out.trace.at;rw[ht']at hvt hct
   rw[hvt]at r2;have HMQ:Hid (ar R wr c' L' st'):=hM;clear hM;go_wp2_with fail
   go_loopw [15,16] (fun sq i wq=>∃m:Nat,m≤st.tr.length∧sq=.int .i64 (((fU st.tr k m).length+1:Nat):Int)∧i=.int .i64 m∧wq=wr) (fun _ i _=>st.tr.length-(intOf i).toNat)
   case atStart=>exact⟨0,CB _,by simp[fU],rfl,rfl⟩
   case round =>
    obtain⟨m,hm,rfl,rfl,hwq⟩:=hrel;subst hwq;by_cases hmt:m<st.tr.length
    ·obtain⟨gt,bv,rfl,c0,-⟩:=hct m st.tr[m] (List.getElem?_eq_getElem hmt);have hos:=rN st.tr k m;have hol:=DE (fun p=>decide ((dq st.tr p).org=k)) (List.range m);rw[List.length_range]at hol
     replace hol:(fU st.tr k m).length≤m:=hol;rw[iK hmt]at hos
     clear rn rk r3 r5 rs r0;by_cases ho:st.tr[m].org=k
     ·rw[if_pos ho]at hos;rw[ho]at c0
      go_wp2_with fail
      go_roundw
      case rel =>
       exact⟨m+1,by omega,by simp only[hos,List.length_append,List.length_singleton];go_num,by go_num,by first|rfl|trivial⟩
      case measure=>simp[intOf];omega
     rw[if_neg ho,List.append_nil]at hos;have bok:((st.tr[m].org:Int) == (k:Int))=false:=by rw[beq_eq_false_iff_ne];omega
     generalize st.tr[m].org=og at *;go_wp2_with fail
     go_roundw
     case rel =>
      exact⟨m+1,by omega,by simp only[hos],by go_num,by first|rfl|trivial⟩
     case measure=>simp[intOf];omega
    obtain rfl:m=st.tr.length:=by omega
    clear hct r0;have hol:=DE (fun p=>decide ((dq st.tr p).org=k)) (List.range st.tr.length);rw[List.length_range]at hol
    replace hol:(fU st.tr k st.tr.length).length≤st.tr.length:=hol;have HOW:Hid ((own st.tr k).length=(fU st.tr k st.tr.length).length):=rfl;generalize hon:(fU st.tr k st.tr.length).length=on at *;clear hon;have hko:wr.heap[L'.kb]?=some (.cells L'.KB 75 (0,0)):=HMQ.out.kbk;obtain⟨i2,hi2,hx0,hx1,hx2⟩:=info_parts Tryz.AJ;go_wp2_with (at_builtin;refine je _ rfl _ _ 75 rfl 3 i2 _ Tryz.underlying75 hi2 hx0 hx1 hx2 rfl (by rfl) u (by rfl) ids rn (by omega) ?_;intro bv w8 hbn hb8 hbb)
    have hM8:=HMQ.out.below hR hb8;have hS8:=hS.out.trans (aG.below hb8);have hcb8:=(hb8.block cb (Cn.1 hcb.out.1).1).trans hcb.out.1;have hw8:w8.heap[wb]?=some (.cells (L'.C st'.n st'.sp) 82 (0,0)):=by rw[←hL'];exact hM8.wbk
    have q2:=aa hb8 r2;have q3:=aa hb8 r3;have qk:=aa hb8 rk;have q5:=aa hb8 r5;have qs:=aa hb8 rs;have e0:w8.cell? ⟨cb,0,none⟩=some (.string kv):=cell_of_heap hcb8 _;have e1:w8.cell? ⟨cb,1,none⟩=some (.string word):=cell_of_heap hcb8 _;have e2:w8.cell? ⟨cb,2,none⟩=some (.int .i64 (cnt:Int)):=cell_of_heap hcb8 _;have lw:wb<w8.heap.size:=Cy w8 _ q2;have lc:cb<w8.heap.size:=Cy w8 _ e0;have qf:w8.frozen? ⟨wb,2,none⟩=false:=frozen_of_heap hw8 2;have HT8:Hid (w8.ownsRow 0 91 7 (.slice pt st.tr.length capt) st.tr.length (bm st.tr L'.bvs)):=by
     have:=hM8.trow;rwa[hvt,ht']at this
    have HM8:Hid (ar R w8 c' L' st'):=hM8;have HS8:Hid (aG w c w8 c'):=hS8;have HBN:Hid (aT w8 bv ids):=hbn;obtain⟨pb,capb,hbv,-⟩:=hbn;have HBB:Hid (∀b,bv.ownBlock=some b→b=wr.heap.size∧b<w8.heap.size):=hbb;have HB8:Hid (Below wr.heap.size wr w8):=hb8;have HTC:Hid (∀b,(Value.slice pt st.tr.length capt).ownBlock=some b→c' b=3):=fun b hb=>HMQ.out.tvc b (by rw[hvt];exact hb)
    have nwt:(Value.slice pt st.tr.length capt).ownBlock≠some wb:=fun e=>by
     have:=HTC.out _ e;rw[←hL',HMQ.out.wbc]at this;omega
    have k2:∀o,(w8.alloc o).cell? ⟨wb,2,none⟩=some (.slice pt st.tr.length capt):=fun o=>(CE (a:=⟨wb,2,none⟩) (CF w8 o wb lw)).trans q2
    have kf:∀o,(w8.alloc o).frozen? ⟨wb,2,none⟩=false:=fun o=>(World.frozen?_of_block (a:=⟨wb,2,none⟩) (CF w8 o wb lw)).trans qf
    have f0:∀o,(w8.alloc o).cell? ⟨cb,0,none⟩=some (.string kv):=fun o=>(CE (a:=⟨cb,0,none⟩) (CF w8 o cb lc)).trans e0
    have f1:∀o,(w8.alloc o).cell? ⟨cb,1,none⟩=some (.string word):=fun o=>(CE (a:=⟨cb,1,none⟩) (CF w8 o cb lc)).trans e1
    have f2:∀o,(w8.alloc o).cell? ⟨cb,2,none⟩=some (.int .i64 (cnt:Int)):=fun o=>(CE (a:=⟨cb,2,none⟩) (CF w8 o cb lc)).trans e2
    obtain⟨i3,hi3,hy0,hy1,hy2⟩:=info_parts Tryz.A7;have HN':Hid (st'.n=st.n):=hn';have HGS:Hid (c' gs=5):=HMQ.out.svc gs (HSV0.out);have HSV:Hid (∃c,L'.sv=.slice (some ⟨gs,0,none⟩) st'.n c):=HSV1;have HKU:Hid (∃p c,L'.KB[k]?=some (.slice p ids.length c)):=HKU0;have HHW:Hid (w8.heap[wb]?=some (.cells (L'.C st'.n st'.sp) 82 (0,0))):=hw8;clear hM8 hS8 hcb8 hw8 hbb hb8 r2 r3 rk r5 rs rn hko;subst hbv
    go_region_law ((refine step_append_lies _ (by rfl) _ _ _ (by rfl) 0 91 i3 _ 7 96 Tryz.underlying72 hi3 hy0 hy1 hy2 rfl (by omega) (.slice pt st.tr.length capt) st.tr.length (bm st.tr L'.bvs) (by rfl) (an.owns (S:=[]) (an.drew (an.alloc (an.refl _ _) _)) HT8.out (by simp)) ⟨w8.heap.size,0,none⟩ 1 1 [.int .i64 (k:Int),.int .i64 ((on:Int)+1),.string s,.string kv,.string word,.int .i64 (cnt:Int),.slice pb ids.length capb] (by rfl) (by rfl) (World.news_of_block (cs:=#[.int .i64 (k:Int),.int .i64 ((on:Int)+1),.string s,.string kv,.string word,.int .i64 (cnt:Int),.slice pb ids.length capb]) (t:=91) (fr:=(0,0)) (heap_alloc_new w8 _)) (by simp[Value.oneCell']) (by omega) (by unfold maxLen;omega) (by omega) (by first|(simp;done)|(simp;omega)) (w8.heap.size+1) (by simp) ?_;intro g5 cap5 w5 hown5 hgrow hat5 hlt5;have s2:w5.cell? ⟨wb,2,none⟩=some (.slice pt st.tr.length capt):=(hgrow.cell_far ⟨wb,2,none⟩ (by first|(simp;done)|(simp;omega)) (Ne.symm nwt)).trans (k2 _);have sf:w5.frozen? ⟨wb,2,none⟩=false:=(hgrow.frozen_far ⟨wb,2,none⟩ (by first|(simp;done)|(simp;omega)) (Ne.symm nwt)).trans (kf _)))
    all_goals
     obtain⟨W9,hW9⟩:∃W,W=w5.setCell ⟨wb,2,none⟩ (.slice (some ⟨g5,0,none⟩) (st.tr.length+1) cap5):=⟨_,rfl⟩
     rw[←hW9];have hn':st'.n=st.n:=HN'.out;have hM8:=HM8.out;have col:∀{a b x y:Nat},c' a=x→c' b=y→x≠y→a≠b:=fun ha hb hxy e=>hxy (by rw[←ha,←hb,e])
     have hgsb:c' gs=5:=HGS.out;have hwbc:c' wb=1:=by rw[←hL'];exact hM8.wbc
     have u5:an [(Value.slice pt st.tr.length capt).ownBlock] w8 w5:=(((an.refl _ w8).alloc _).drew).grown hgrow fun b hb=>.inl (by simp[hb])
     have u9:an [some wb,(Value.slice pt st.tr.length capt).ownBlock] w8 W9:=by
      rw[hW9];exact(u5.mono fun b hb=>by simp at hb;simp[hb]).setCell (.inl (by simp)) _
     have out9:∀{b x:Nat},c' b=x→x≠1→x≠3→some b∉[some wb,(Value.slice pt st.tr.length capt).ownBlock]:=fun {b x} hb h1 h3 hm=>by
      simp only[Co,Cq,or_false,Option.some.injEq]at hm;rcases hm with rfl|hm
      ·omega
      have:=HTC.out b hm.symm;omega
     have hw9:W9.heap[wb]?=some (.cells ((L'.C st'.n st'.sp).setIfInBounds 2 (.slice (some ⟨g5,0,none⟩) (st.tr.length+1) cap5)) 82 (0,0)):=by
      rw[hW9];refine ae ?_ _;rw[u5.block wb lw (by simpa using fun e=>nwt e.symm)];exact HHW.out
     have hfc:=hM8.fcell k (by rw[hM8.flen,hn'];exact hk);have hkne:c' L'.kb=4:=hM8.kbc;have hfne:c' L'.fb=6:=hM8.fbc;have t5:W9.cell? ⟨wb,5,none⟩=some (.slice (some ⟨gs,0,none⟩) st.n caps):=by
      rw[cell_of_heap hw9,CY (by omega),←cell_of_heap HHW.out];exact q5
     have t3:W9.cell? ⟨wb,3,none⟩=some (.slice (some ⟨L'.kb,0,none⟩) st.n L'.capk):=by
      rw[cell_of_heap hw9,CY (by omega)];simp[aC.C,hn']
     have t6:W9.cell? ⟨wb,6,none⟩=some (.slice (some ⟨L'.fb,0,none⟩) st.n L'.capf):=by
      rw[cell_of_heap hw9,CY (by omega)];simp[aC.C,hn']
     have ts:W9.cell? ⟨gs,k,none⟩=some (.int .i64 (sk:Int)):=u9.cell qs (out9 hgsb (by omega) (by omega));obtain⟨pk,capq,hKB⟩:∃p c,L'.KB[k]?=some (.slice p ids.length c):=HKU.out
     have tk:W9.cell? ⟨L'.kb,k,none⟩=some (.slice pk ids.length capq):=u9.cell (by rw[cell_of_heap hM8.kbk];exact hKB) (out9 hkne (by omega) (by omega));obtain⟨fk,tf⟩:∃v,W9.cell? ⟨L'.fb,k,none⟩=some v:=⟨_,u9.cell (by rw[cell_of_heap hM8.fbk];exact hfc) (out9 hfne (by omega) (by omega))⟩
     have hfb9:W9.heap[L'.fb]?=some (.cells L'.FB 4 (0,0)):=by
      rw[u9.block _ (Cn.1 hM8.fbk).1 (out9 hfne (by omega) (by omega))];exact hM8.fbk
     have tff:W9.frozen? ⟨L'.fb,k,none⟩=false:=frozen_of_heap hfb9 k;have hsr9:W9.ownsRow 0 3 1 L'.sv st'.n (ints st'.since):=u9.owns hM8.srow fun b hb=>out9 (hM8.svc b hb) (by omega) (by omega)
     obtain⟨capS,hsv⟩:∃c,L'.sv=.slice (some ⟨gs,0,none⟩) st'.n c:=HSV.out
     obtain⟨curS,hgs9⟩:∃cur,W9.heap[gs]?=some (.cells cur 3 (0,0)):=by
      rcases hsr9.2 with⟨h1,_⟩|⟨g',cap2,cur2,hv,hb,hg,h1⟩
      ·rw[hsv]at h1;cases h1
      rw[hsv]at hv;simp only[Value.slice.injEq,Option.some.injEq,Addr.mk.injEq,and_true,true_and]at hv;rw[←hv.1]at hg
      exact⟨_,hg⟩
     have tsf:W9.frozen? ⟨gs,k,none⟩=false:=frozen_of_heap hgs9 k;have n1:gs≠wb:=col hgsb hwbc (by omega);have n2:wb≠gs:=Ne.symm n1;have n3:L'.fb≠wb:=col hfne hwbc (by omega);have n4:wb≠L'.fb:=Ne.symm n3;have n5:gs≠L'.fb:=col hgsb hfne (by omega);have n6:L'.fb≠gs:=Ne.symm n5;have n7:gs≠L'.kb:=col hgsb hkne (by omega);have n8:L'.fb≠L'.kb:=col hfne hkne (by omega);obtain⟨W11,hW11⟩:∃W,W=(W9.setCell ⟨gs,k,none⟩ (.int .i64 ((sk:Int)+1))).setCell ⟨L'.fb,k,none⟩ (.bool true):=⟨_,rfl⟩
     have hHB:=HBB.out;have lr8:=HB8.out.size;have htl:∀b,(Value.slice pt st.tr.length capt).ownBlock=some b→b<wr.heap.size:=fun b hb=>(HMQ.out.trow.lt b (by rw[hvt];exact hb)).2
     have wbl:wb<wr.heap.size:=by rw[←hL'];exact(Cn.1 HMQ.out.wbk).1
     have fbl:L'.fb<wr.heap.size:=(Cn.1 HMQ.out.fbk).1;have gsl:gs<wr.heap.size:=(HMQ.out.srow.lt gs HSV0.out).2;have hg5:g5≠wb∧g5≠gs∧g5≠L'.fb∧g5≠wr.heap.size:=by
      rcases hat5 with h1|h1
      ·have e3:=HTC.out g5 h1;have:=htl g5 h1;exact⟨col e3 hwbc (by omega),col e3 hgsb (by omega),col e3 hfne (by omega),by omega⟩
      exact⟨by omega,by omega,by omega,by omega⟩
     have u11:an [some L'.wb,L'.tv.ownBlock,L'.sv.ownBlock,some L'.fb] w8 W11:=by
      rw[hW11];refine((u9.mono fun b hb=>?_).setCell (.inl (by simp[HSV0.out])) _).setCell (.inl (by simp)) _;simp only[Co,Cq,or_false,Option.some.injEq]at hb ⊢;rw[hL',hvt];rcases hb with hb|hb
      ·exact .inl hb
      exact .inr (.inl hb)
     have ur11:an [some L'.wb,L'.tv.ownBlock,L'.sv.ownBlock,some L'.fb] wr W11:=(an.of_below HB8.out).trans u11 fun i hi=>.inl hi
     have hown9:W11.ownsRow 0 91 7 (.slice (some ⟨g5,0,none⟩) (st.tr.length+1) cap5) (st.tr.length+1) (bm st.tr L'.bvs++[.int .i64 (k:Int),.int .i64 ((on:Int)+1),.string s,.string kv,.string word,.int .i64 (cnt:Int),.slice pb ids.length capb]):=by
      rw[hW11,hW9];refine ai (ai (ai hown5 ?_ _) ?_ _) ?_ _
      ·intro b hb;simp only[Cp,Option.some.injEq]at hb;exact hb ▸ hg5.1
      ·intro b hb;simp only[Cp,Option.some.injEq]at hb;exact hb ▸ hg5.2.1
      intro b hb;simp only[Cp,Option.some.injEq]at hb;exact hb ▸ hg5.2.2.1
     have hd1:((own st.tr k).length+1:Nat)=on+1:=by rw[HOW.out]
     obtain⟨c11,L11,hL11,hm11,hs11⟩:=HMQ.out.done hR (k:=k) (by rw[hn'];exact hk) (d:=⟨k,(own st.tr k).length+1,s,⟨kd,word,cnt⟩,ids⟩) (tv':=.slice (some ⟨g5,0,none⟩) (st.tr.length+1) cap5) (bv:=.slice pb ids.length capb) ur11 (by
       rw[hL',hW11,CD _ _ _ _ n4,CD _ _ _ _ n2];exact hw9) (by
       rw[ht'];simp only[hd1,HKV.out];exact hown9) (fun b hb=>by
       simp only[Cp,Option.some.injEq]at hb;subst hb;rcases hat5 with h1|h1
       ·exact .inl (by rw[hvt];exact h1)
       ·exact .inr (by omega)) (by
       refine HBN.out.same fun b hb hl=>?_
       have:=hHB b hb;refine u11.block b hl fun hm=>?_
       simp only[Co,Cq,or_false,Option.some.injEq]at hm;rcases hm with hm|hm|hm|hm
       ·rw[hL']at hm;omega
       ·have:=htl b (by rw[←hvt];exact hm.symm);omega
       ·rw[HSV0.out]at hm;simp at hm;omega
       ·omega) (fun b hb=>by
       have:=hHB b hb;refine⟨by omega,Nat.lt_of_lt_of_le this.2 u11.size,?_⟩;simp only[Cp,ne_eq,Option.some.injEq];have:=hg5.2.2.2;omega) (by show ids.length≤maxLen;unfold maxLen;omega) (by
       rw[HSK.out];have h1:=hsr9;rw[hsv]at h1 ⊢
       have h2:=nV h1 k (.int .i64 ((sk:Int)+1));have e:(ints st'.since).set k (.int .i64 ((sk:Int)+1))=ints (st'.since.set k (sk+1)):=by
        simp[ints,List.map_set]
       rw[e]at h2;rw[hW11];refine ai h2 ?_ _;intro b hb;simp only[Cp,Option.some.injEq]at hb;exact hb ▸ n5) (by
       rw[hW11];refine ae ?_ _;rw[CD _ _ _ _ n6];exact hfb9)
     have HASK2:Hid (bz R W11 c11 L11 (st'.done k ⟨k,(own st.tr k).length+1,s,⟨kd,word,cnt⟩,ids⟩) k ids2):=HA2.out _ _ _ _ hm11 hq.out (hS.out.trans hs11);unfold bz at HASK2;rw[hL11,hL',hW11]at HASK2
     have HS11:Hid (aG w c W11 c11):=hS.out.trans hs11;rw[hW11]at HS11
     have hdx:k<(st'.done k ⟨k,(own st.tr k).length+1,s,⟨kd,word,cnt⟩,ids⟩).n:=by show k<st'.n;rw[hn'];exact hk
     have hxk':k<st'.xss.length:=(CT.1 hx').1;have HN2:Hid (ids2.length=ids.length+1):=HI2.out;clear hm11 hs11 ur11 u11 hown9 hown5 hgrow hat5 hlt5 hHB hfc hsr9 hgs9 hfb9 hw9 u9 u5 out9 hM8 col hW11 hW9 s2 sf k2 kf f0 f1 f2 e0 e1 e2 q2 q3 qk q5 qs htl hsv hd1 hKB hg5;generalize L'.fb=fb at *;generalize L'.kb=kb5 at *;generalize L'.capk=capk5 at *;generalize L'.capf=capf5 at *;have HZ:Hid (∀w12 c12 L12,L12.wb=wb→ar R w12 c12 L12 ((st'.done k ⟨k,(own st.tr k).length+1,s,⟨kd,word,cnt⟩,ids⟩).asked k ids2)→∃kbz capkz pz capz,w12.cell? ⟨wb,3,none⟩=some (.slice (some ⟨kbz,0,none⟩) st.n capkz)∧w12.cell? ⟨kbz,k,none⟩=some (.slice pz ids2.length capz)):=fun w12 c12 L12 hL12 hm12=>by
      obtain⟨lbz,caplz,kbz,capkz,uz,-,-,z3,-,zk,zn⟩:=hm12.reads (k:=k) hdx;rw[hL12]at z3
      have hzx:((st'.done k ⟨k,(own st.tr k).length+1,s,⟨kd,word,cnt⟩,ids⟩).asked k ids2).xss[k]'(by rw[hm12.xlen];exact hdx)=ids2:=by simp[aS.asked]
      rw[hzx]at zn;obtain⟨pz,capz,rfl,-⟩:=zn;exact⟨kbz,capkz,pz,capz,z3.trans (by rw[←hn'];rfl),zk⟩
     have hzl:=HN2.out;have HLL:Hid (L11.wb=wb):=hL11.trans hL';go_wp2_with (go_at_call 35;refine HASK2.out.mono ?_;rintro e w12 ⟨rfl,c12,L12,hL12,hm12,hs12⟩;obtain⟨kbz,capkz,pz,capz,z3,zk⟩:=HZ.out w12 c12 L12 hL12 hm12)
     go_ret
     refine⟨aF (by first|(simp;done)|(simp;omega)),c12,L12,st',hL12,hm12,hq.out,HS11.out.trans hs12⟩
end Go.Proofs.YtckmppkdpnhodaaGreatDoor
