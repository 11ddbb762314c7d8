import Derived.Test.YtckmppkdpnhodaaGreatDoorT36
set_option maxRecDepth 100000
set_option maxHeartbeats 8000000
set_option linter.unusedVariables false
set_option linter.unusedSimpArgs false
open List renaming mem_cons→Co,getElem?_eq_getElem→Cr,not_mem_nil→Cq
open Nat renaming zero_le→CB
open Go.World renaming block_lt_of_cell?→Cy
open Go.Value renaming ownBlock→Cp
open Option renaming map_some→Dk
open Go.RowKit.Below renaming heap_alloc→CF
namespace Go.Proofs.YtckmppkdpnhodaaGreatDoor
open Go.RowKit Go.Proofs
variable {LB NB k:Nat} {c:Nat→Nat} {w w0:World}
structure zS(LB NB:Nat)(w:World)(c:Nat→Nat)(L:aC)(st:aS Qn)(k:Nat)(fv:Value)(os:List (Nat×Value×List UInt8))(Ls:List Lt)(s':Sr)(w':World):Prop where
 len:os.length≤65
 both:er (fun(o:Nat×Value×List UInt8) (L:Lt)=>o.1=L.dst∧Bears L o.2.2) os Ls
 tos:dU st.n k (st.q.S k) s' Ls
 each:∀o∈os,o.1<st.n∧o.1≠k∧5≤o.2.2.length∧o.2.2.length≤200
 apart:∀o∈os,∀b,o.2.1.ownBlock=some b→fv.ownBlock≠some b
 dist:os.Pairwise fun x y=>∀b,x.2.1.ownBlock=some b→y.2.1.ownBlock≠some b
 tk:xM LB NB w c L st (bR st.q.S k s') k fv os 0 w'
theorem mI{α β:Type}{R:α→β→Prop}:∀{a:List α} {b:List β},er R a b→∀x∈a,∃y∈b,R x y
 |[],_,_,x,hx=>by cases hx
 |_::_,[],h,_,_=>h.elim
 |a::l,b::m,h,x,hx=>by
  rcases Co.1 hx with rfl|hx
  ·exact⟨b,List.mem_cons_self ..,h.1⟩
  obtain⟨y,hy,hr⟩:=mI h.2 x hx;exact⟨y,List.mem_cons_of_mem _ hy,hr⟩
theorem uh{L:aC}{st:aS Qn}(h:ar (aB LB NB) w c L st)(ho:bN w0 c w)(hg:bH w0)(hk:k<st.n){rb:Nat}(hrb:st.rbs[k]?=some rb):Calls Tryz.prog 29 #[.pointer (some ⟨rb,0,none⟩)] w fun e w'=>∃p os cap Ls s',e=.returned (.slice p os.length cap)∧zS LB NB w c L st k (.slice p os.length cap) os Ls s' w':=by
 refine(xy h ho hg hk hrb).mono ?_;rintro e w' ⟨fv,os,Ls,s',c',rfl,hout,hlen,hboth,hft,hm,hst,hf1,hf2⟩
 obtain⟨p,cap,rfl⟩:=dN hout.row;refine⟨p,os,cap,Ls,s',rfl,hlen,hboth,hft,fun o hom=>?_,hout.apart,hout.dist,c',L.rv,st.q.bb,by omega,?_,hst,hout.row,hf1,fun o hom=>?_⟩
 ·obtain⟨l,hl,h1,h2⟩:=mI hboth o hom;obtain⟨-,a2,a3,-,-⟩:=hft.ok l hl;have hok:=h2.ok;unfold okB at hok;simp only[Bool.and_eq_true,decide_eq_true_eq]at hok;exact⟨by omega,by omega,hok.1.1,hok.1.2⟩
 ·have e:dP k os 0=[]:=by simp[dP]
  rw[e,List.append_nil];exact hm
 rw[List.drop_zero]at hom;exact⟨hout.each o hom,hf2 o hom⟩
def wU(LB NB:Nat)(w:World)(c:Nat→Nat)(L:aC)(st:aS Qn)(k:Nat)(w':World):Prop:=∃fv os Ls s' w1,zS LB NB w c L st k fv os Ls s' w1∧∃c' rv' bb' bf',bb'.length=st.q.bb.length+4*os.length∧bf'.length=st.q.bf.length+4∧ar (aB LB NB) w' c' {L with rv:=rv'} {st with q:=⟨bR st.q.S k s',st.q.air++dP k os os.length,bb',bf'⟩}∧aG w c w' c'
theorem xM.fin{W:World}{L:aC}{st:aS Qn}{p:Option Addr}{cap:Nat}{os:List (Nat×Value×List UInt8)}{Ls:List Lt}{s':Sr}{w1:World}(hF:zS LB NB w c L st k (.slice p os.length cap) os Ls s' w1)(h:xM LB NB w c L st (bR st.q.S k s') k (.slice p os.length cap) os os.length W)(hN2:st.q.bf.length≤10000000000):Calls Tryz.prog 69 #[.pointer (some ⟨L.wb,8,none⟩),.slice p os.length cap] W fun e w'=>e=.returned (.tuple #[])∧wU LB NB w c L st k w':=by
 obtain⟨c',rv,bb,hbb,hM,hst,hrow,hfc,-⟩:=h;have hl:=hF.len;refine(yY (p:=p) (m:=os.length) (cap:=cap) hM (iD hrow) hfc (by show st.q.bf.length≤_;omega) (by omega)).mono ?_;rintro e w' ⟨rfl,c10,rv10,bf10,hbl,-,hM10,hput⟩
 exact⟨rfl,_,os,Ls,s',w1,hF,c10,rv10,bb,bf10,hbb,hbl,hM10,hput.after hst fun b hb=>(hrow.lt b hb).1⟩
theorem uZ{L:aC}{st:aS Qn}(h:ar (aB LB NB) w c L st)(ho:bN w0 c w)(hg:bH w0)(hk:k<st.n)(hN1:st.q.bb.length≤90000000000)(hN2:st.q.bf.length≤10000000000)(hN3:st.q.air.length≤1000000000):Calls Tryz.prog 36 #[.pointer (some ⟨L.wb,0,none⟩),.int .i64 (k:Int)] w fun e w'=>e=.returned (.bool true)∧wU LB NB w c L st k w':=by
 have hn:=h.npos;have hrl:k<st.rbs.length:=by rw[h.llen];exact hk
 obtain⟨rb,hrb⟩:∃rb,st.rbs[k]?=some rb:=⟨_,Cr hrl⟩
 have HF:Hid (Calls Tryz.prog 29 #[.pointer (some ⟨rb,0,none⟩)] w fun e w'=>∃p os cap Ls s',e=.returned (.slice p os.length cap)∧Hid (zS LB NB w c L st k (.slice p os.length cap) os Ls s' w')):=uh h ho hg hk hrb;have e1:w.cell? ⟨L.wb,1,none⟩=some (.slice (some ⟨L.lb,0,none⟩) st.n L.capl):=by rw[h.cell];simp[aC.C]
 have e2:w.cell? ⟨L.lb,k,none⟩=some (.pointer (some ⟨rb,0,none⟩)):=by
  have:=h.lcell k hrl;rw[Cr hrl,Option.some.injEq]at hrb
  rwa[hrb]at this
 have k0:(0:Int)≤(k:Int):=by omega
 have k1:(k:Int)<(st.n:Int):=by omega
 generalize hwb:L.wb=wb at *;generalize L.lb=lb at *;generalize L.capl=capl at *;have HWB:Hid (L.wb=wb):=hwb;clear h ho hrb hrl hwb;go_enter Tryz.func36,Tryz.ntmps36
 go_wp2_with (first
  |(go_at_call 29;refine HF.out.mono ?_;rintro e w1 ⟨p,os,cap,Ls,s',rfl,HT⟩))
 go_loopw [6] (fun i wr=>∃j:Nat,j≤os.length∧i=.int .i64 (j:Int)∧Hid (xM LB NB w c L st (bR st.q.S k s') k (.slice p os.length cap) os j wr)) (fun i _=>os.length-(intOf i).toNat)
 case atStart=>exact⟨0,CB _,rfl,HT.out.tk⟩
 case round =>
  obtain⟨j,hj,rfl,HI⟩:=hrel;by_cases hlt:j<os.length
  ·have hji:(j:Int)<(os.length:Int):=by omega
   have hj0:(0:Int)≤(j:Int):=by omega
   have hlen:=HT.out.len;obtain⟨a1,a2,a3,a4⟩:=HT.out.each os[j] (List.getElem_mem hlt);obtain⟨rv,avs,hwbk,harow,havw,hdat,hfr,hgo⟩:=HI.out.go hlt HT.out.apart HT.out.dist (by omega) a4;rw[HWB.out]at hwbk havw hgo
   obtain⟨gf,capf,rfl,rfl⟩:∃gf capf,p=some ⟨gf,0,none⟩∧cap=capf:=by
    rcases hfr.2 with⟨h1,h2⟩|⟨g,cap',cur,h1,-⟩
    ·omega
    simp only[Value.slice.injEq,true_and]at h1;exact⟨g,cap',h1.1,h1.2⟩
   obtain⟨gd,dcap,hdv⟩:∃gd dcap,os[j].2.1=.slice (some ⟨gd,0,none⟩) os[j].2.2.length dcap:=by
    rcases hdat.2 with⟨h1,h2⟩|⟨g,cap',cur,h1,-⟩
    ·omega
    exact⟨g,cap',h1⟩
   have g0:wr.cell? ⟨gf,j*2,none⟩=some (.int .i64 (os[j].1:Int)):=by
    have:=hfr.cells (g:=gf) rfl (j*2) _ (jC os hlt).1;rwa[show(⟨gf,0,none⟩:Addr).add (j*2)=⟨gf,j*2,none⟩ by unfold Addr.add;split <;> simp_all]at this
   have g1:wr.cell? ⟨gf,j*2+1,none⟩=some os[j].2.1:=by
    have:=hfr.cells (g:=gf) rfl (j*2+1) _ (jC os hlt).2;rwa[show(⟨gf,0,none⟩:Addr).add (j*2+1)=⟨gf,j*2+1,none⟩ by unfold Addr.add;split <;> simp_all]at this
   have wn:wr.cell? ⟨wb,0,none⟩=some (.int .i64 (st.n:Int)):=by rw[cell_of_heap hwbk];simp[aC.C]
   rw[hdv]at g1 hgo hdat;have HGO:Hid _:=hgo;have HAR:Hid _:=harow;have HWK:Hid _:=hwbk;have HDT:Hid _:=hdat;clear hgo harow hwbk hdat hfr HF;obtain⟨XS,hXS⟩:∃XS,XS=au (st.q.air++dP k os j) avs:=⟨_,rfl⟩
   rw[←hXS]at HGO HAR;generalize os[j].1=ti at *;generalize os[j].2.2=f at *;have lwb:wb<wr.heap.size:=Cy wr _ wn;have t0:¬ (ti:Int)<0:=by omega
   have t1:¬ (st.n:Int)≤(ti:Int):=by omega
   have t2:¬ (ti:Int)=(k:Int):=by omega
   have t3:¬ (f.length:Int)<1:=by omega
   have t4:¬ (200:Int)<(f.length:Int):=by omega
   go_upto_region 6 with fail
   go_quiet ((fail))
   go_upto_region 9 with fail
   obtain⟨i1,hi1,hz0,hz1,hz2⟩:=info_parts Tryz.AI;obtain⟨i2,hi2,hy0,hy1,hy2⟩:=info_parts Tryz.AL;obtain⟨pa,capa,hav⟩:=dN HAR.out;obtain⟨Na,hNa⟩:∃Na,Na=st.q.air.length+j:=⟨_,rfl⟩
   rw[←hNa]at hav;have HAR2:Hid (wr.ownsRow 0 154 3 (.slice pa Na capa) Na XS):=by
    have:=HAR.out;rw[←hNa,hav]at this
    exact this
   have hNa2:Na≤2000000000:=by omega
   have HNA:Hid (Na=st.q.air.length+j):=hNa;have hav2:(Value.slice pa Na capa).ownBlock≠some wb:=by rw[←hav];exact havw
   have HAV:Hid (rv.av=.slice pa Na capa):=hav;have H4:Hid (wr.cell? ⟨wb,4,none⟩=some (.slice pa Na capa)):=by
    show _=_
    rw[cell_of_heap HWK.out,←hav];simp[aC.C]
   clear hav hNa HAR havw;obtain⟨Wa,hWa⟩:∃Wa,Wa=(wr.alloc (.cells #[.int .i64 (ti:Int),.slice (some ⟨gd,0,none⟩) f.length dcap] 57)).drewN nq:=⟨_,rfl⟩
   rw[←hWa];have HBA:Hid (Below wr.heap.size wr Wa):=by
    rw[hWa];exact below_drewN ((Below.refl _ wr).alloc (Nat.le_refl _) _) nq
   have hsa:Wa.heap.size=wr.heap.size+1:=by rw[hWa];simp[World.drewN]
   have HTB:Hid (Wa.heap[wr.heap.size]?=some (.cells #[.int .i64 (ti:Int),.slice (some ⟨gd,0,none⟩) f.length dcap] 57 (0,0))):=by
    show _=_
    rw[hWa];exact heap_alloc_new wr _
   clear hWa;obtain⟨tb,htb⟩:∃tb,tb=wr.heap.size:=⟨_,rfl⟩
   rw[←htb]at HTB hsa ⊢;have HTE:Hid (tb=wr.heap.size):=htb
   have HEND:Hid (∀(g1 cap1:Nat) (w5:World) (g5 cap5:Nat) (w6:World),w5.ownsRow 0 5 1 (.slice (some ⟨g1,0,none⟩) f.length cap1) f.length (Lib.byteCells f)→Wa.drew.grownBy w5 none→g1=tb+1→(w5.alloc (.cells #[.int .i64 (k:Int),.int .i64 (ti:Int),.slice (some ⟨g1,0,none⟩) f.length cap1] 154)).grownBy w6 (Value.slice pa Na capa).ownBlock→w6.ownsRow 0 154 3 (.slice (some ⟨g5,0,none⟩) (Na+1) cap5) (Na+1) (XS++[.int .i64 (k:Int),.int .i64 (ti:Int),.slice (some ⟨g1,0,none⟩) f.length cap1])→((Value.slice pa Na capa).ownBlock=some g5∨g5=w5.heap.size+1)→(w6.setCell ⟨wb,4,none⟩ (.slice (some ⟨g5,0,none⟩) (Na+1) cap5)).cell? ⟨tb,1,none⟩=some (.slice (some ⟨gd,0,none⟩) f.length dcap)∧tb<(w6.setCell ⟨wb,4,none⟩ (.slice (some ⟨g5,0,none⟩) (Na+1) cap5)).heap.size∧Hid (Calls Tryz.prog 68 #[.pointer (some ⟨wb,8,none⟩),.slice (some ⟨gd,0,none⟩) f.length dcap] (w6.setCell ⟨wb,4,none⟩ (.slice (some ⟨g5,0,none⟩) (Na+1) cap5)).drew fun e w'=>e=.returned (.tuple #[])∧Hid (xM LB NB w c L st (bR st.q.S k s') k (.slice (some ⟨gf,0,none⟩) os.length cap) os (j+1) w'))):=by
    intro g1 cap1 w5 g5 cap5 w6 hown1 hgrow1 hg1 hgrow5 hown5 hat5;have u5:an [] wr w5:=((an.of_below (S:=[]) HBA.out).drew).grown hgrow1 fun b hb=>by cases hb
    have u55:an [] Wa w5:=((an.refl _ Wa).drew).grown hgrow1 fun b hb=>by cases hb
    have u56:an [(Value.slice pa Na capa).ownBlock] w5 w6:=((an.refl _ w5).alloc _).grown hgrow5 fun b hb=>.inl (by simp[hb])
    have u6:an [(Value.slice pa Na capa).ownBlock] wr w6:=(u5.mono (by simp)).trans u56 fun i hi=>.inl hi
    obtain⟨W9,hW9⟩:∃W,W=w6.setCell ⟨wb,4,none⟩ (.slice (some ⟨g5,0,none⟩) (Na+1) cap5):=⟨_,rfl⟩
    rw[←hW9];have u69:an [some wb] w6 W9:=by rw[hW9];exact(an.refl _ w6).setCell (.inl (by simp)) _
    have u9:an [some wb,rv.av.ownBlock] wr W9:=by
     rw[HAV.out,hW9];exact(u6.mono fun b hb=>by simp at hb;simp[hb]).setCell (.inl (by simp)) _
    have e:=HTE.out;have s5:wr.heap.size+1≤w5.heap.size:=by have:=u55.size;omega
    have har5:w5.ownsRow 0 154 3 (.slice pa Na capa) Na XS:=u5.owns HAR2.out (by simp);have ha_lt:=HAR2.out.lt;have own1:W9.ownsRow 0 5 1 (.slice (some ⟨g1,0,none⟩) f.length cap1) f.length (Lib.byteCells f):=by
     refine u69.owns (u56.owns hown1 fun b hb hm=>?_) fun b hb hm=>?_
     ·simp only[Co,Cq,or_false]at hm;exact vc hown1 har5 (by decide) hb hm.symm
     simp only[Co,Cq,or_false,Option.some.injEq]at hm;simp only[Cp,Dk,Option.some.injEq]at hb;omega
    have own5:W9.ownsRow 0 154 3 (.slice (some ⟨g5,0,none⟩) (Na+1) cap5) (Na+1) (XS++[.int .i64 (k:Int),.int .i64 (ti:Int),.slice (some ⟨g1,0,none⟩) f.length cap1]):=by
     refine u69.owns hown5 fun b hb hm=>?_
     simp only[Co,Cq,or_false,Option.some.injEq]at hm;simp only[Cp,Dk,Option.some.injEq]at hb;subst hm;subst hb;rcases hat5 with h1|h1
     ·exact hav2 h1
     omega
    have hw6:w6.heap[wb]?=wr.heap[wb]?:=u6.block wb lwb fun hm=>by
     simp only[Co,Cq,or_false]at hm;exact hav2 hm.symm
    have hw9:W9.heap[wb]?=some (.cells ((aC.C {L with rv:=rv} st.n st.sp).setIfInBounds 4 (.slice (some ⟨g5,0,none⟩) (Na+1) cap5)) 82 (0,0)):=by
     rw[hW9];exact ae (hw6.trans HWK.out) _
    have htb9:W9.heap[tb]?=Wa.heap[tb]?:=by
     rw[u69.block tb (by have:=u56.size;omega) (by simp;omega),u56.block tb (by omega) (fun hm=>by
      simp only[Co,Cq,or_false]at hm;have:=(ha_lt tb hm.symm).2;omega),u55.block tb (by omega) (by simp)]
    refine⟨?_,by have:=u69.size;have:=u56.size;omega,?_⟩
    ·rw[cell_of_heap (htb9.trans HTB.out)];rfl
    refine HGO.out W9 _ (.slice (some ⟨g1,0,none⟩) f.length cap1) u9.os u9.tape u9.output (by rw[←HNA.out];exact own5) own1 u9 hw9 (fun b hb=>?_) (fun b hb=>?_)
    ·simp only[Cp,Dk,Option.some.injEq]at hb;subst hb;rcases hat5 with h1|h1
     ·rw[HAV.out];exact .inl h1
     exact .inr (by omega)
    simp only[Cp,Dk,Option.some.injEq]at hb;omega
   have q4:Wa.cell? ⟨wb,4,none⟩=some (.slice pa Na capa):=aa HBA.out H4.out;have hWK:Wa.heap[wb]?=some (.cells (aC.C {L with rv:=rv} st.n st.sp) 82 (0,0)):=(HBA.out.block wb lwb).trans HWK.out;have qf:Wa.frozen? ⟨wb,4,none⟩=false:=frozen_of_heap hWK 4;have n0:Wa.cell? ⟨tb,0,none⟩=some (.int .i64 (ti:Int)):=cell_of_heap HTB.out _;have n1:Wa.cell? ⟨tb,1,none⟩=some (.slice (some ⟨gd,0,none⟩) f.length dcap):=cell_of_heap HTB.out _;have lwa:wb<Wa.heap.size:=by omega
   have lta:tb<Wa.heap.size:=by omega
   have ntw:tb≠wb:=by omega
   have nwt:wb≠tb:=by omega
   have HNW:Hid (∀j u,(Lib.byteCells f)[j]?=some u→Wa.drew.cell? ((⟨gd,0,none⟩:Addr).add j)=some u):=fun j u hu=>aa HBA.out (World.ownsRow.cells (w:=wr) (base:=w.heap.size) (e:=5) (size:=1) HDT.out (g:=gd) rfl j u hu)
   have HON:Hid (∀v∈Lib.byteCells f,v.oneCell'=true):=fun v hv=>by
    unfold Lib.byteCells at hv;obtain⟨b,-,rfl⟩:=List.mem_map.1 hv
    rfl
   have HAA:Hid (Wa.drew.ownsRow 0 154 3 (.slice pa Na capa) Na XS):=((an.of_below (S:=[]) HBA.out).drew).owns HAR2.out (by simp);have HSA:Hid (Wa.heap.size=tb+1):=hsa;clear hsa hWK g0 g1 wn hXS HTB HWK HGO HDT HBA H4 HAR2 htb;go_cut [8] from 17 to 79 (fun v wc=>v=.slice none 0 0∧wc.cell? ⟨tb,1,none⟩=some (.slice (some ⟨gd,0,none⟩) f.length dcap)∧tb<wc.heap.size∧Hid (Calls Tryz.prog 68 #[.pointer (some ⟨wb,8,none⟩),.slice (some ⟨gd,0,none⟩) f.length dcap] wc.drew fun e w'=>e=.returned (.tuple #[])∧Hid (xM LB NB w c L st (bR st.q.S k s') k (.slice (some ⟨gf,0,none⟩) os.length cap) os (j+1) w')))
   case first =>
    go_region_law (first
      |(refine step_append_lies _ (by rfl) _ _ _ (by rfl) 0 154 i2 _ 3 40 Tryz.underlying74 hi2 hy0 hy1 hy2 rfl (by omega) (.slice pa Na capa) Na XS (by rfl) (HA5.out _) ⟨w5.heap.size,0,none⟩ 1 1 [.int .i64 (k:Int),.int .i64 (ti:Int),.slice (some ⟨g1,0,none⟩) f.length cap1] (by rfl) (by rfl) (World.news_of_block (cs:=#[.int .i64 (k:Int),.int .i64 (ti:Int),.slice (some ⟨g1,0,none⟩) f.length cap1]) (t:=154) (fr:=(0,0)) (heap_alloc_new w5 _)) (by simp[Value.oneCell']) (by omega) (by unfold maxLen;omega) (by omega) (by first|(simp;done)|(simp;omega)) (w5.heap.size+1) (by simp) ?_;intro g5 cap5 w6 hown5 hgrow5 hat5 hlt5;have s2:w6.cell? ⟨wb,4,none⟩=some (.slice pa Na capa):=(hgrow5.cell_far ⟨wb,4,none⟩ (by first|(simp;done)|(simp;omega)) (Ne.symm hav2)).trans (k4 _);have sf:w6.frozen? ⟨wb,4,none⟩=false:=(hgrow5.frozen_far ⟨wb,4,none⟩ (by first|(simp;done)|(simp;omega)) (Ne.symm hav2)).trans (kf _))
      |(refine step_append_lies _ (by rfl) _ _ _ (by rfl) 0 5 i1 _ 1 1 Tryz.underlying55 hi1 hz0 hz1 hz2 rfl (by omega) (.slice none 0 0) 0 [] (by rfl) (World.ownsRow_nil ..) ⟨gd,0,none⟩ f.length dcap (Lib.byteCells f) (by rfl) (by rw[aV];omega) HNW.out HON.out (by omega) (by unfold maxLen;omega) (by omega) (CB _) Wa.heap.size rfl ?_;intro g1 cap1 w5 hown1 hgrow1 hat1 hlt1;rw[Nat.zero_add]at hown1 ⊢;have hg1:Hid (g1=tb+1):=(by rcases hat1 with h1|h1;(· cases h1);(· exact h1.trans HSA.out));have r4:w5.cell? ⟨wb,4,none⟩=some (.slice pa Na capa):=(hgrow1.cell_far ⟨wb,4,none⟩ lwa (by simp[Cp])).trans q4;have rf:w5.frozen? ⟨wb,4,none⟩=false:=(hgrow1.frozen_far ⟨wb,4,none⟩ lwa (by simp[Cp])).trans qf;have m0:w5.cell? ⟨tb,0,none⟩=some (.int .i64 (ti:Int)):=(hgrow1.cell_far ⟨tb,0,none⟩ lta (by simp[Cp])).trans n0;have l5:wb<w5.heap.size:=Cy w5 _ r4;have l5t:tb<w5.heap.size:=Cy w5 _ m0;have HA5:Hid (∀o,(w5.alloc o).ownsRow 0 154 3 (.slice pa Na capa) Na XS):=fun o=>(((an.refl [] Wa.drew).grown hgrow1 fun b hb=>by cases hb).alloc o).owns HAA.out (by simp);have k4:∀o,(w5.alloc o).cell? ⟨wb,4,none⟩=some (.slice pa Na capa):=fun o=>(World.cell?_of_block (a:=⟨wb,4,none⟩) (CF w5 o wb l5)).trans r4;have kf:∀o,(w5.alloc o).frozen? ⟨wb,4,none⟩=false:=fun o=>(World.frozen?_of_block (a:=⟨wb,4,none⟩) (CF w5 o wb l5)).trans rf;have HG1:Hid (Wa.drew.grownBy w5 none):=hgrow1;have HO1:Hid _:=hown1;clear hgrow1 hown1 hat1))
    all_goals go_wp2
    all_goals go_meet
    all_goals exact⟨rfl,HEND.out g1 cap1 w5 g5 cap5 w6 HO1.out HG1.out hg1.out hgrow5 hown5 hat5⟩
   case rest =>
    obtain⟨rfl,x1,x2,HB⟩:=hcut;clear q4 qf n0 n1 HNW HON HAA HEND;go_upto_region 10 with fail
    go_region_law
     (rw[if_pos (by rfl)];(try dsimp only[List.getElem_toArray,List.getElem_cons_zero,List.getElem_cons_succ]);go_simp;refine HB.out.mono ?_;rintro e w2 ⟨rfl,HK⟩)
    go_wp2
    go_roundw
    case rel=>exact⟨j+1,by omega,by simp,HK.out⟩
    case measure=>simp[intOf];omega
  obtain rfl:j=os.length:=by omega
  have hki:¬ (os.length:Int)<(os.length:Int):=by omega
  have HBK:Hid (Calls Tryz.prog 69 #[.pointer (some ⟨wb,8,none⟩),.slice p os.length cap] wr fun e w'=>e=.returned (.tuple #[])∧Hid (wU LB NB w c L st k w')):=by
   rw[←HWB.out];exact HI.out.fin HT.out hN2
  go_wp2_with (first
   |(go_at_call 69;refine HBK.out.mono ?_;rintro e w2 ⟨rfl,HK⟩))
  go_ret
  exact⟨rfl,HK.out⟩
end Go.Proofs.YtckmppkdpnhodaaGreatDoor
