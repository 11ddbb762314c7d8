import Derived.Test.YtckmppkdpnhodaaGreatDoorT26
import Derived.Deep.CutRange
import Derived.Test.YtckmppkdpnhodaaGreatDoorT00
set_option maxRecDepth 100000
set_option maxHeartbeats 8000000
set_option linter.unusedVariables false
set_option linter.unusedSimpArgs false
open Go.RowKit.Below renaming refl→Ck
open Nat renaming le_refl→Cl,zero_add→CJ
open List renaming mem_cons→Co,not_mem_nil→Cq,mem_filter→Dc,mem_range→DJ,getElem_toArray→Ct,getElem_cons_zero→Cu,getElem_cons_succ→Cv,setIfInBounds_toArray→Cw,set_cons_zero→Cs,set_cons_succ→Cx,getElem?_eq_getElem→Cr,map_map→DR
open Go.Addr renaming add_mid→CS
open Array renaming getElem?_eq_some_iff→Cn
open Go.Value renaming ownBlock→Cp
namespace Go.Proofs.YtckmppkdpnhodaaGreatDoor
open Go.RowKit Go.Proofs Go.MuLone
variable {ev:Value} {log:List En} {me n now rb:Nat} {ow:Nat→Bool} {w:World}
theorem Tryz.A6:(Tryz.prog.info? 57).map (fun i=>(i.zero,i.size,i.bytes))=some (some (.agg #[.int .i64 0,.slice none 0 0]),2,32):=by kernel_rfl
theorem yq(rb:Nat)(r:Rc)(w:World)(c0:w.cell? ⟨rb,5,none⟩=some (.int .i64 (r.a:Int)))(c1:w.cell? ⟨rb,6,none⟩=some (.int .i64 (r.b:Int)))(c2:w.cell? ⟨rb,7,none⟩=some (.int .i64 (r.c:Int)))(c3:w.cell? ⟨rb,8,none⟩=some (.int .i64 (r.d:Int)))(c4:w.cell? ⟨rb,9,none⟩=some (.int .i64 (r.e:Int))):Calls Tryz.prog 57 #[.pointer (some ⟨rb,4,none⟩)] w fun e w'=>e=.returned (.agg #[.int .i64 (r.a:Int),.int .i64 (r.b:Int),.int .i64 (r.c:Int),.int .i64 (r.d:Int),.int .i64 (r.e:Int)])∧Below w.heap.size w w':=by
 go_enter Tryz.func57,Tryz.ntmps57
 go_upto_region 1 with fail
 obtain⟨wa,hwa⟩:∃wa,w.alloc (.cells #[.int .i64 0,.int .i64 0,.int .i64 0,.int .i64 0,.int .i64 0] 104)=wa:=⟨_,rfl⟩
 have hea:wa.heap[w.heap.size]?=some (.cells #[.int .i64 0,.int .i64 0,.int .i64 0,.int .i64 0,.int .i64 0] 104 (0,0)):=by rw[←hwa];exact heap_alloc_new w _
 have hba:Below w.heap.size w wa:=by rw[←hwa];exact(Ck _ w).alloc (Cl _) _
 rw[hwa];clear hwa;have a0:=aa hba c0;have a1:=aa hba c1;have a2:=aa hba c2;have a3:=aa hba c3;have a4:=aa hba c4;have z0:wa.cell? ⟨w.heap.size,0,none⟩=some (.int .i64 0):=cell_of_heap hea _;have z1:wa.cell? ⟨w.heap.size,1,none⟩=some (.int .i64 0):=cell_of_heap hea _;have z2:wa.cell? ⟨w.heap.size,2,none⟩=some (.int .i64 0):=cell_of_heap hea _;have z3:wa.cell? ⟨w.heap.size,3,none⟩=some (.int .i64 0):=cell_of_heap hea _;have z4:wa.cell? ⟨w.heap.size,4,none⟩=some (.int .i64 0):=cell_of_heap hea _;have zf:=frozen_of_heap hea;clear c0 c1 c2 c3 c4;go_wp2
 exact bodyPost_ret (v:=.agg #[.int .i64 (r.a:Int),.int .i64 (r.b:Int),.int .i64 (r.c:Int),.int .i64 (r.d:Int),.int .i64 (r.e:Int)]) (by simp[results,Tryz.results57,go_sem,z0,z1,z2,z3,z4]) rfl ⟨rfl,((((hba.setCell (by simp) _).setCell (by simp) _).setCell (by simp) _).setCell (by simp) _).setCell (by simp) _⟩
theorem bp.reach{W:World}{lk:Int}{its:List It}{wv:Value}(h:bp w rb n me lk log now its ow ev wv)(hb:Below w.heap.size w W):Calls Tryz.prog 57 #[.pointer (some ⟨rb,4,none⟩)] W fun e w'=>e=.returned (.agg #[.int .i64 (aq log 0:Int),.int .i64 (aq log 1:Int),.int .i64 (aq log 2:Int),.int .i64 (aq log 3:Int),.int .i64 (aq log 4:Int)])∧Below W.heap.size W w':=by
 have hk:=(h.below hb).rbk;exact yq rb (bC log) W (by rw[cell_of_heap hk];rfl) (by rw[cell_of_heap hk];rfl) (by rw[cell_of_heap hk];rfl) (by rw[cell_of_heap hk];rfl) (by rw[cell_of_heap hk];rfl)
theorem kT(vs:Nat→Value)(ts:List Nat){k:Nat}(hk:k<ts.length):(bG vs ts)[k*2]?=some (.int .i64 ((ts[k]:Nat):Int))∧(bG vs ts)[k*2+1]?=some (vs ts[k]):=by
 have h:=iJ (fun(t:Nat)=>[Value.int .i64 ((t:Nat):Int),vs t]) 2 (fun _=>rfl) ts k;exact⟨by have:=h 0 hk (by omega);simpa[bG] using this,by have:=h 1 hk (by omega);simpa[bG] using this⟩
theorem xz{its0:List It}{wv0:Value}(hv:ba w)(hR:eS w)(hG:1<w.heap.size)(hrG:rb≠1)(hw0:wv0.ownBlock≠some 0∧wv0.ownBlock≠some 1)(hm:bp w rb n me 0 log now its0 ow ev wv0)(hme:me<5)(h8:log.length≤4294967296)(hl:its0.length≤900)(h12:∀t,aX its0 t≤12)(hnow:now+1<1152921504606846976):Calls Tryz.prog 29 #[.pointer (some ⟨rb,0,none⟩)] w fun e w'=>∃fv os D its wv,e=.returned fv∧cV w.heap.size fv os w'∧os.map (fun o=>(o.1,o.2.2))=(ax D ow 5).flatMap (iW me log D)∧bp w' rb n me 0 log now its (fun _=>false) ev wv∧its.Perm (its0.map (bE now))∧(∀b,wv.ownBlock=some b→(wv0.ownBlock=some b∨w.heap.size≤b)∧fv.ownBlock≠some b∧∀o∈os,o.2.1.ownBlock≠some b)∧(∀t x,t<5→(x∈D t↔∃p∈its0,p.due≤now∧p.to=t∧p.en=x))∧(∀t,t<5→(D t).length≤12)∧an [some rb,wv0.ownBlock] w w':=by
 obtain⟨iF,hi0,hi1,hi2,hi3⟩:=info_parts Tryz.A6;have hrl:=hm.lt;have c0:=hm.c0;have f0:=hm.f 0;have hwlE:∀b,wv0.ownBlock=some b→b<w.heap.size:=fun b hb=>(hm.wrow.lt b hb).2
 have HM:=hid hm;have HTK:Hid (Calls Tryz.prog 56 #[.pointer (some ⟨rb,10,none⟩)] (w.setCell ⟨rb,0,none⟩ (.int .i32 1)) fun e w'=>∃p c D vs its wv,e=.returned (.slice p (ax D ow 5).length c)∧Hid (pI (w.setCell ⟨rb,0,none⟩ (.int .i32 1)) rb n me 1 log now its0 ow ev wv0 D vs its wv (.slice p (ax D ow 5).length c) w')):=by
  refine(wJ (hm.lock 1) hl h12 hnow).mono ?_;rintro e w' ⟨mv,D,vs,its,wv,rfl,ht⟩
  obtain⟨p,c,rfl⟩:=aW ht.mail;exact⟨p,c,D,vs,its,wv,rfl,ht⟩
 have HGL:Hid (ba w∧eS w):=⟨hv,hR⟩;have hr0:=hm.ne0 hv;have HW0:=hid hw0;clear hm hv hR;go_enter_defers Tryz.func29,Tryz.ntmps29
 go_wp2_with (first
  |(go_at_call 44;refine(lock_free dQ ⟨rb,0,none⟩ _ c0 f0).mono ?_;rintro e w' ⟨rfl,rfl⟩)
  |(go_at_call 56;refine HTK.out.mono ?_;rintro e w2 ⟨pm,cm,D,vs,its,wv,rfl,HT⟩))
 have hs2:w.heap.size≤w2.heap.size:=by have:=HT.out.upd.size;rwa[aj]at this
 have HG2:Hid (∀W,Below w2.heap.size w2 W→ba W∧eS W):=fun W hW=>by
  obtain⟨hv,hR⟩:=HGL.out;have hu:=HT.out.upd;have keep:∀b o v,b<w.heap.size→b≠rb→wv0.ownBlock≠some b→w.cell? ⟨b,o,none⟩=some v→W.cell? ⟨b,o,none⟩=some v:=fun b o v hb hbr hbw hc=>by
   have h1:(w.setCell ⟨rb,0,none⟩ (.int .i32 1)).cell? ⟨b,o,none⟩=some v:=(World.cell?_of_block (a:=⟨b,o,none⟩) (Below.heap_setCell _ _ _ _ hbr)).trans hc;exact aa hW (hu.cell h1 fun hmm=>by
    simp only[Co,Cq,or_false,Option.some.injEq]at hmm;rcases hmm with e|e
    ·exact hbr e
    exact hbw e.symm)
  exact⟨fun k=>keep 0 k.num _ (by omega) (Ne.symm hr0) HW0.out.1 (hv k),fun j hj=>keep 1 j _ hG (Ne.symm hrG) HW0.out.2 (hR j hj)⟩
 go_loopw [3,21] (fun v i wr=>∃k:Nat,k≤(ax D ow 5).length∧i=.int .i64 (k:Int)∧Hid (∃os,cV w2.heap.size v os wr∧os.map (fun o=>(o.1,o.2.2))=((ax D ow 5).take k).flatMap (iW me log D)∧Below w2.heap.size w2 wr)) (fun _ i _=>(ax D ow 5).length-(intOf i).toNat)
 case atStart=>exact⟨0,by omega,rfl,[],cV.nil _ _,by simp,Ck _ _⟩
 case round =>
  obtain⟨k,hk,rfl,HI⟩:=hrel;have hmt:=iE D ow 5;by_cases hlt:k<(ax D ow 5).length
  ·obtain⟨os,hos,hmap,hbr⟩:=HI.out;have ht5:(ax D ow 5)[k]<5:=by
    have:(ax D ow 5)[k]∈ax D ow 5:=List.getElem_mem hlt;simp only[ax,Dc,DJ]at this;exact this.1
   obtain⟨gm,cmm,hgm,-,hgl⟩:=HT.out.mail.form (by omega);simp only[Value.slice.injEq,true_and]at hgm;obtain⟨rfl,rfl⟩:=hgm;obtain⟨pt,ct,hvt⟩:=aW (HT.out.row _ ht5);have zR:wr.cell? ⟨gm,k*2,none⟩=some (.int .i64 ((ax D ow 5)[k]:Int)):=by
    have:=HT.out.mail.cells (g:=gm) rfl (k*2) _ (kT vs (ax D ow 5) hlt).1;rw[CS,CJ]at this
    exact aa hbr this
   have cm1:wr.cell? ⟨gm,k*2+1,none⟩=some (.slice pt (D (ax D ow 5)[k]).length ct):=by
    have:=HT.out.mail.cells (g:=gm) rfl (k*2+1) _ (kT vs (ax D ow 5) hlt).2;rw[CS,CJ,hvt]at this
    exact aa hbr this
   have hks:(k:Int)<((ax D ow 5).length:Int):=by omega
   have HSN:Hid ((ax D ow 5).take (k+1)=(ax D ow 5).take k++[(ax D ow 5)[k]]):=List.take_succ_eq_append_getElem hlt;generalize htd:(ax D ow 5)[k]=t at *;go_upto_region 7 with fail
   have hdl12:=HT.out.len t ht5;have HRW:Hid (w2.ownsRow 0 122 10 (.slice pt (D t).length ct) (D t).length (aP (D t))):=by
    have:=jh (HT.out.row t ht5);rwa[hvt]at this
   generalize hdl:(D t).length=dl at *;obtain⟨w3,hw3⟩:∃w3,wr.alloc (.cells #[.int .i64 (t:Int),.slice pt dl ct] 137)=w3:=⟨_,rfl⟩
   have hb3:w3.heap[wr.heap.size]?=some (.cells #[.int .i64 (t:Int),.slice pt dl ct] 137 (0,0)):=by rw[←hw3];exact heap_alloc_new wr _
   have hbl3:Below wr.heap.size wr w3:=by rw[←hw3];exact(Ck _ wr).alloc (Cl _) _
   have hs3:w3.heap.size=wr.heap.size+1:=by rw[←hw3];simp
   rw[hw3];clear hw3;have hsr:=hbr.size;have hb23:Below w2.heap.size w2 w3:=hbr.trans (hbl3.mono hsr);have HOS:Hid (cV w2.heap.size u3 os w3∧os.map (fun o=>(o.1,o.2.2))=((ax D ow 5).take k).flatMap (iW me log D)∧Below w2.heap.size w2 w3):=⟨hos.below hbl3,hmap,hb23⟩;have HRC:Hid (∀W,Below w3.heap.size w3 W→Calls Tryz.prog 57 #[.pointer (some ⟨rb,4,none⟩)] W fun e w'=>e=.returned (.agg #[.int .i64 (aq log 0:Int),.int .i64 (aq log 1:Int),.int .i64 (aq log 2:Int),.int .i64 (aq log 3:Int),.int .i64 (aq log 4:Int)])∧Below W.heap.size W w'):=fun W hW=>HT.out.rep.reach (hb23.trans (hW.mono (by omega)))
   have cme:w3.cell? ⟨rb,2,none⟩=some (.int .i64 (me:Int)):=by rw[cell_of_heap (HT.out.rep.below hb23).rbk];rfl
   have hrw3:rb<w2.heap.size:=HT.out.rep.lt;clear zR cm1 hbl3 hos hmap HI;generalize hmb:wr.heap.size=mb at *;have hix:∀W,(Instr.index 102 (.agg #[.int .i64 (aq log 0:Int),.int .i64 (aq log 1:Int),.int .i64 (aq log 2:Int),.int .i64 (aq log 3:Int),.int .i64 (aq log 4:Int)]) (.int .i64 (t:Int))).run Tryz.prog W=.ok (.int .i64 ((aq log t:Nat):Int)) W:=fun W=>by
    rcases(show t=0∨t=1∨t=2∨t=3∨t=4 by omega) with h|h|h|h|h <;> (subst h;kernel_rfl)
   have hfd:∀W,(Instr.field 104 (.agg #[.int .i64 (aq log 0:Int),.int .i64 (aq log 1:Int),.int .i64 (aq log 2:Int),.int .i64 (aq log 3:Int),.int .i64 (aq log 4:Int)]) 0).run Tryz.prog W=.ok (.agg #[.int .i64 (aq log 0:Int),.int .i64 (aq log 1:Int),.int .i64 (aq log 2:Int),.int .i64 (aq log 3:Int),.int .i64 (aq log 4:Int)]) W:=fun W=>by kernel_rfl
   have hmx:Tryz.prog.follows .mixedOrders=true:=by kernel_rfl
   go_cut [6] from 42 to 57 (fun v wc=>∃lb,v=.pointer (some ⟨lb,0,none⟩)∧Hid (wc.heap[lb]?=some (.cells #[.int .i64 (me:Int),.int .i64 (t:Int),.int .i64 ((aq log t:Nat):Int),.slice pt dl ct] 140 (0,0))∧wc.heap[mb]?=some (.cells #[.int .i64 (t:Int),.slice pt dl ct] 137 (0,0))∧Below w3.heap.size w3 wc))
   case first =>
    have hSw:∀W,Below w3.heap.size w3 W→(fun w':World=>w'.cell? ⟨rb,2,none⟩=some (.int .i64 (me:Int))∧w'.heap[mb]?=some (.cells #[.int .i64 (t:Int),.slice pt dl ct] 137 (0,0))) W:=fun W hW=>⟨aa hW cme,(hW.block mb (by omega)).trans hb3⟩
    have hS:=hSw w3.drew (Ck _ w3).drew
    have HLET:Hid (∀(W:World) (lb:Nat),w3.heap.size≤lb→Below w3.heap.size w3 W→W.heap[lb]?=some (.cells #[.int .i64 0,.int .i64 0,.int .i64 0,.slice none 0 0] 140 (0,0))→Hid ((((( W.setCell ⟨lb,0,none⟩ (.int .i64 (me:Int))).setCell ⟨lb,1,none⟩ (.int .i64 (t:Int))).setCell ⟨lb,2,none⟩ (.int .i64 ((aq log t:Nat):Int))).setCell ⟨lb,3,none⟩ (.slice pt dl ct)).heap[lb]?=some (.cells #[.int .i64 (me:Int),.int .i64 (t:Int),.int .i64 ((aq log t:Nat):Int),.slice pt dl ct] 140 (0,0))∧(((( W.setCell ⟨lb,0,none⟩ (.int .i64 (me:Int))).setCell ⟨lb,1,none⟩ (.int .i64 (t:Int))).setCell ⟨lb,2,none⟩ (.int .i64 ((aq log t:Nat):Int))).setCell ⟨lb,3,none⟩ (.slice pt dl ct)).heap[mb]?=some (.cells #[.int .i64 (t:Int),.slice pt dl ct] 137 (0,0))∧Below w3.heap.size w3 (((( W.setCell ⟨lb,0,none⟩ (.int .i64 (me:Int))).setCell ⟨lb,1,none⟩ (.int .i64 (t:Int))).setCell ⟨lb,2,none⟩ (.int .i64 ((aq log t:Nat):Int))).setCell ⟨lb,3,none⟩ (.slice pt dl ct)))):=fun W lb hlb hW hz=>by
     have b4:Below w3.heap.size w3 (((( W.setCell ⟨lb,0,none⟩ (.int .i64 (me:Int))).setCell ⟨lb,1,none⟩ (.int .i64 (t:Int))).setCell ⟨lb,2,none⟩ (.int .i64 ((aq log t:Nat):Int))).setCell ⟨lb,3,none⟩ (.slice pt dl ct)):=(((hW.setCell hlb _).setCell hlb _).setCell hlb _).setCell hlb _;have k1:=ae (o:=0) hz (.int .i64 (me:Int));have k2:=ae (o:=1) k1 (.int .i64 (t:Int));have k3:=ae (o:=2) k2 (.int .i64 ((aq log t:Nat):Int));have k4:=ae (o:=3) k3 (.slice pt dl ct);exact⟨k4,(b4.block mb (by omega)).trans hb3,b4⟩
    refine wp_region_noPanic ?_;refine wp_region_held (S:=(fun w':World=>w'.cell? ⟨rb,2,none⟩=some (.int .i64 (me:Int))∧w'.heap[mb]?=some (.cells #[.int .i64 (t:Int),.slice pt dl ct] 137 (0,0)))) hmx ?_;refine wpAnyH_take (i:=0) (v:=(.pointer (some ⟨rb,0,none⟩))) rfl (by kernel_rfl) (by kernel_rfl) (by kernel_rfl) (fun _ _ _ h=>h) (Or.inl ⟨by rfl,?_⟩) hS ?_
    ·intro W hSw;obtain⟨s0,sb⟩:=hSw;have s1:W.cell? ⟨mb,0,none⟩=some (.int .i64 (t:Int)):=cell_of_heap sb _;have s2:W.cell? ⟨mb,1,none⟩=some (.slice pt dl ct):=cell_of_heap sb _;go_simp
    dsimp only[Ct,Cu,Cv];simp only[Act.put,Cw,Cs,Cx];refine wpAnyH_take (i:=1) (v:=(.pointer (some ⟨rb,0,none⟩))) rfl (by kernel_rfl) (by kernel_rfl) (by kernel_rfl) (fun _ _ _ h=>h) (Or.inl ⟨by rfl,?_⟩) hS ?_
    ·intro W hSw;obtain⟨s0,sb⟩:=hSw;have s1:W.cell? ⟨mb,0,none⟩=some (.int .i64 (t:Int)):=cell_of_heap sb _;have s2:W.cell? ⟨mb,1,none⟩=some (.slice pt dl ct):=cell_of_heap sb _;go_simp
    dsimp only[Ct,Cu,Cv];simp only[Act.put,Cw,Cs,Cx];refine wpAnyH_take (i:=2) (v:=(.pointer (some ⟨rb,2,none⟩))) rfl (by kernel_rfl) (by kernel_rfl) (by kernel_rfl) (fun _ _ _ h=>h) (Or.inl ⟨by rfl,?_⟩) hS ?_
    ·intro W hSw;obtain⟨s0,sb⟩:=hSw;have s1:W.cell? ⟨mb,0,none⟩=some (.int .i64 (t:Int)):=cell_of_heap sb _;have s2:W.cell? ⟨mb,1,none⟩=some (.slice pt dl ct):=cell_of_heap sb _;go_simp
    dsimp only[Ct,Cu,Cv];simp only[Act.put,Cw,Cs,Cx];refine wpAnyH_take (i:=3) (v:=(.int .i64 (me:Int))) rfl (by kernel_rfl) (by kernel_rfl) (by kernel_rfl) (fun _ _ _ h=>h) (Or.inl ⟨by rfl,?_⟩) hS ?_
    ·intro W hSw;obtain⟨s0,sb⟩:=hSw;have s1:W.cell? ⟨mb,0,none⟩=some (.int .i64 (t:Int)):=cell_of_heap sb _;have s2:W.cell? ⟨mb,1,none⟩=some (.slice pt dl ct):=cell_of_heap sb _;go_simp
    dsimp only[Ct,Cu,Cv];simp only[Act.put,Cw,Cs,Cx];refine wpAnyH_take (i:=4) (v:=(.pointer (some ⟨mb,0,none⟩))) rfl (by kernel_rfl) (by kernel_rfl) (by kernel_rfl) (fun _ _ _ h=>h) (Or.inl ⟨by rfl,?_⟩) hS ?_
    ·intro W hSw;obtain⟨s0,sb⟩:=hSw;have s1:W.cell? ⟨mb,0,none⟩=some (.int .i64 (t:Int)):=cell_of_heap sb _;have s2:W.cell? ⟨mb,1,none⟩=some (.slice pt dl ct):=cell_of_heap sb _;go_simp
    dsimp only[Ct,Cu,Cv];simp only[Act.put,Cw,Cs,Cx];refine wpAnyH_take (i:=5) (v:=(.int .i64 (t:Int))) rfl (by kernel_rfl) (by kernel_rfl) (by kernel_rfl) (fun _ _ _ h=>h) (Or.inl ⟨by rfl,?_⟩) hS ?_
    ·intro W hSw;obtain⟨s0,sb⟩:=hSw;have s1:W.cell? ⟨mb,0,none⟩=some (.int .i64 (t:Int)):=cell_of_heap sb _;have s2:W.cell? ⟨mb,1,none⟩=some (.slice pt dl ct):=cell_of_heap sb _;go_simp
    dsimp only[Ct,Cu,Cv];simp only[Act.put,Cw,Cs,Cx];refine wpAnyH_take (i:=6) (v:=(.pointer (some ⟨rb,0,none⟩))) rfl (by kernel_rfl) (by kernel_rfl) (by kernel_rfl) (fun _ _ _ h=>h) (Or.inl ⟨by rfl,?_⟩) hS ?_
    ·intro W hSw;obtain⟨s0,sb⟩:=hSw;have s1:W.cell? ⟨mb,0,none⟩=some (.int .i64 (t:Int)):=cell_of_heap sb _;have s2:W.cell? ⟨mb,1,none⟩=some (.slice pt dl ct):=cell_of_heap sb _;go_simp
    dsimp only[Ct,Cu,Cv];simp only[Act.put,Cw,Cs,Cx];refine wpAnyH_take (i:=7) (v:=(.pointer (some ⟨rb,0,none⟩))) rfl (by kernel_rfl) (by kernel_rfl) (by kernel_rfl) (fun _ _ _ h=>h) (Or.inl ⟨by rfl,?_⟩) hS ?_
    ·intro W hSw;obtain⟨s0,sb⟩:=hSw;have s1:W.cell? ⟨mb,0,none⟩=some (.int .i64 (t:Int)):=cell_of_heap sb _;have s2:W.cell? ⟨mb,1,none⟩=some (.slice pt dl ct):=cell_of_heap sb _;go_simp
    dsimp only[Ct,Cu,Cv];simp only[Act.put,Cw,Cs,Cx];refine wpAnyH_take (i:=8) (v:=(.pointer (some ⟨rb,4,none⟩))) rfl (by kernel_rfl) (by kernel_rfl) (by kernel_rfl) (fun _ _ _ h=>h) (Or.inl ⟨by rfl,?_⟩) hS ?_
    ·intro W hSw;obtain⟨s0,sb⟩:=hSw;have s1:W.cell? ⟨mb,0,none⟩=some (.int .i64 (t:Int)):=cell_of_heap sb _;have s2:W.cell? ⟨mb,1,none⟩=some (.slice pt dl ct):=cell_of_heap sb _;go_simp
    dsimp only[Ct,Cu,Cv];simp only[Act.put,Cw,Cs,Cx];refine wpAnyH_take (i:=11) (v:=(.pointer (some ⟨mb,0,none⟩))) rfl (by kernel_rfl) (by kernel_rfl) (by kernel_rfl) (fun _ _ _ h=>h) (Or.inl ⟨by rfl,?_⟩) hS ?_
    ·intro W hSw;obtain⟨s0,sb⟩:=hSw;have s1:W.cell? ⟨mb,0,none⟩=some (.int .i64 (t:Int)):=cell_of_heap sb _;have s2:W.cell? ⟨mb,1,none⟩=some (.slice pt dl ct):=cell_of_heap sb _;go_simp
    dsimp only[Ct,Cu,Cv];simp only[Act.put,Cw,Cs,Cx];refine wpAnyH_take (i:=12) (v:=(.int .i64 (t:Int))) rfl (by kernel_rfl) (by kernel_rfl) (by kernel_rfl) (fun _ _ _ h=>h) (Or.inl ⟨by rfl,?_⟩) hS ?_
    ·intro W hSw;obtain⟨s0,sb⟩:=hSw;have s1:W.cell? ⟨mb,0,none⟩=some (.int .i64 (t:Int)):=cell_of_heap sb _;have s2:W.cell? ⟨mb,1,none⟩=some (.slice pt dl ct):=cell_of_heap sb _;go_simp
    dsimp only[Ct,Cu,Cv];simp only[Act.put,Cw,Cs,Cx];refine wpAnyH_take (i:=14) (v:=(.pointer (some ⟨mb,1,none⟩))) rfl (by kernel_rfl) (by kernel_rfl) (by kernel_rfl) (fun _ _ _ h=>h) (Or.inl ⟨by rfl,?_⟩) hS ?_
    ·intro W hSw;obtain⟨s0,sb⟩:=hSw;have s1:W.cell? ⟨mb,0,none⟩=some (.int .i64 (t:Int)):=cell_of_heap sb _;have s2:W.cell? ⟨mb,1,none⟩=some (.slice pt dl ct):=cell_of_heap sb _;go_simp
    dsimp only[Ct,Cu,Cv];simp only[Act.put,Cw,Cs,Cx];refine wpAnyH_take (i:=15) (v:=(.slice pt dl ct)) rfl (by kernel_rfl) (by kernel_rfl) (by kernel_rfl) (fun _ _ _ h=>h) (Or.inl ⟨by rfl,?_⟩) hS ?_
    ·intro W hSw;obtain⟨s0,sb⟩:=hSw;have s1:W.cell? ⟨mb,0,none⟩=some (.int .i64 (t:Int)):=cell_of_heap sb _;have s2:W.cell? ⟨mb,1,none⟩=some (.slice pt dl ct):=cell_of_heap sb _;go_simp
    dsimp only[Ct,Cu,Cv];simp only[Act.put,Cw,Cs,Cx];refine wpAnyH_ready (rs:=[9,17]) (by kernel_rfl) (by simp) ?_;refine AllReadyH.cons rfl (fun K hK=>?_) (AllReadyH.cons rfl (fun K hK=>?_) AllReadyH.nil)
    ·
     rw[if_pos (by rfl)];dsimp only[Ct,Cu,Cv];go_simp
     refine(HRC.out _ (Ck _ w3).drew).mono ?_;rintro e w4 ⟨rfl,hb4⟩
     have hb34:Below w3.heap.size w3 w4:=(Ck _ w3).drew.trans hb4;have hS4:=hSw w4 hb34;have hs4:=hb34.size;refine hK.out _ _ hS4 (fun _=>?_);clear hK K
     try simp only[Act.put,Cw,Cs,Cx]
     refine wpAnyH_take (i:=10) (v:=(.agg #[.int .i64 (aq log 0:Int),.int .i64 (aq log 1:Int),.int .i64 (aq log 2:Int),.int .i64 (aq log 3:Int),.int .i64 (aq log 4:Int)])) rfl (by kernel_rfl) (by kernel_rfl) (by kernel_rfl) (fun _ _ _ h=>h) (Or.inl ⟨by rfl,?_⟩) hS4 ?_
     ·intro W hSw;obtain⟨s0,sb⟩:=hSw;have s1:W.cell? ⟨mb,0,none⟩=some (.int .i64 (t:Int)):=cell_of_heap sb _;have s2:W.cell? ⟨mb,1,none⟩=some (.slice pt dl ct):=cell_of_heap sb _;go_simp
     dsimp only[Ct,Cu,Cv];simp only[Act.put,Cw,Cs,Cx];refine wpAnyH_take (i:=13) (v:=(.int .i64 ((aq log t:Nat):Int))) rfl (by kernel_rfl) (by kernel_rfl) (by kernel_rfl) (fun _ _ _ h=>h) (Or.inl ⟨by rfl,?_⟩) hS4 ?_
     ·intro W hSw;obtain⟨s0,sb⟩:=hSw;have s1:W.cell? ⟨mb,0,none⟩=some (.int .i64 (t:Int)):=cell_of_heap sb _;have s2:W.cell? ⟨mb,1,none⟩=some (.slice pt dl ct):=cell_of_heap sb _;go_simp
     dsimp only[Ct,Cu,Cv];simp only[Act.put,Cw,Cs,Cx];refine wpAnyH_take (i:=16) (v:=(.agg #[.int .i64 (me:Int),.int .i64 (t:Int),.int .i64 ((aq log t:Nat):Int),.slice pt dl ct])) rfl (by kernel_rfl) (by kernel_rfl) (by kernel_rfl) (fun _ _ _ h=>h) (Or.inl ⟨by rfl,?_⟩) hS4 ?_
     ·intro W hSw;obtain⟨s0,sb⟩:=hSw;have s1:W.cell? ⟨mb,0,none⟩=some (.int .i64 (t:Int)):=cell_of_heap sb _;have s2:W.cell? ⟨mb,1,none⟩=some (.slice pt dl ct):=cell_of_heap sb _;go_simp
     dsimp only[Ct,Cu,Cv];simp only[Act.put,Cw,Cs,Cx];refine wpAnyH_ready (rs:=[17]) (by kernel_rfl) (by simp) ?_;refine AllReadyH.cons rfl (fun K hK=>?_) AllReadyH.nil;rw[if_pos (by rfl)];dsimp only[Ct,Cu,Cv];go_simp
     obtain⟨w5,hw5⟩:∃w5,w4.alloc (.cells #[.int .i64 0,.int .i64 0,.int .i64 0,.slice none 0 0] 140)=w5:=⟨_,rfl⟩
     have hz:w5.heap[w4.heap.size]?=some (.cells #[.int .i64 0,.int .i64 0,.int .i64 0,.slice none 0 0] 140 (0,0)):=by rw[←hw5];exact heap_alloc_new w4 _
     have hb35:Below w3.heap.size w3 w5:=by rw[←hw5];exact hb34.alloc hs4 _
     rw[hw5];clear hw5;refine hK.out _ _ (hSw w5 hb35) (fun _=>?_);clear hK K
     try simp only[Act.put,Cw,Cs,Cx]
     have z0:w5.cell? ⟨w4.heap.size,0,none⟩=some (.int .i64 0):=cell_of_heap hz _;have z1:w5.cell? ⟨w4.heap.size,1,none⟩=some (.int .i64 0):=cell_of_heap hz _;have z2:w5.cell? ⟨w4.heap.size,2,none⟩=some (.int .i64 0):=cell_of_heap hz _;have z3:w5.cell? ⟨w4.heap.size,3,none⟩=some (.slice none 0 0):=cell_of_heap hz _;have zf:=frozen_of_heap hz;refine wpAnyH_ready (rs:=[18]) (by kernel_rfl) (by simp) ?_;refine AllReadyH.cons rfl (fun K hK=>?_) AllReadyH.nil;rw[if_pos (by rfl)];dsimp only[Ct,Cu,Cv];go_simp
     have HLt:=HLET.out w5 w4.heap.size (by omega) hb35 hz;refine hK.out _ _ (hSw _ HLt.out.2.2) (fun _=>?_);clear hK K
     try simp only[Act.put,Cw,Cs,Cx]
     refine wpAnyH_done (by kernel_rfl) ?_ _;refine NoPanic.normal ?_;go_wp2_with fail
     go_meet
     case rel=>exact⟨_,rfl,HLt⟩
    
    rw[if_pos (by rfl)];dsimp only[Ct,Cu,Cv];go_simp
    obtain⟨w4,hw4⟩:∃w4,(w3.alloc (.cells #[.int .i64 0,.int .i64 0,.int .i64 0,.slice none 0 0] 140)).drew=w4:=⟨_,rfl⟩
    have hz4:w4.heap[mb+1]?=some (.cells #[.int .i64 0,.int .i64 0,.int .i64 0,.slice none 0 0] 140 (0,0)):=by rw[←hw4,←hs3];exact heap_alloc_new w3 _
    have hb34:Below w3.heap.size w3 w4:=by rw[←hw4];exact((Ck _ w3).alloc (Cl _) _).drew
    have hs4:=hb34.size;have hs4':mb+1<w4.heap.size:=(Cn.1 hz4).1;rw[hw4];have hS4:=hSw w4 hb34;clear hw4;refine hK.out _ _ hS4 (fun _=>?_);clear hK K
    try simp only[Act.put,Cw,Cs,Cx]
    refine wpAnyH_ready (rs:=[9]) (by kernel_rfl) (by simp) ?_;refine AllReadyH.cons rfl (fun K hK=>?_) AllReadyH.nil;rw[if_pos (by rfl)];dsimp only[Ct,Cu,Cv];go_simp
    refine(HRC.out _ hb34).mono ?_;rintro e w5 ⟨rfl,hb5⟩
    have hb35:Below w3.heap.size w3 w5:=hb34.trans (hb5.mono hs4);have hS5:=hSw w5 hb35;have hz:w5.heap[mb+1]?=some (.cells #[.int .i64 0,.int .i64 0,.int .i64 0,.slice none 0 0] 140 (0,0)):=(hb5.block _ hs4').trans hz4;refine hK.out _ _ hS5 (fun _=>?_);clear hK K
    try simp only[Act.put,Cw,Cs,Cx]
    refine wpAnyH_take (i:=10) (v:=(.agg #[.int .i64 (aq log 0:Int),.int .i64 (aq log 1:Int),.int .i64 (aq log 2:Int),.int .i64 (aq log 3:Int),.int .i64 (aq log 4:Int)])) rfl (by kernel_rfl) (by kernel_rfl) (by kernel_rfl) (fun _ _ _ h=>h) (Or.inl ⟨by rfl,?_⟩) hS5 ?_
    ·intro W hSw;obtain⟨s0,sb⟩:=hSw;have s1:W.cell? ⟨mb,0,none⟩=some (.int .i64 (t:Int)):=cell_of_heap sb _;have s2:W.cell? ⟨mb,1,none⟩=some (.slice pt dl ct):=cell_of_heap sb _;go_simp
    dsimp only[Ct,Cu,Cv];simp only[Act.put,Cw,Cs,Cx];refine wpAnyH_take (i:=13) (v:=(.int .i64 ((aq log t:Nat):Int))) rfl (by kernel_rfl) (by kernel_rfl) (by kernel_rfl) (fun _ _ _ h=>h) (Or.inl ⟨by rfl,?_⟩) hS5 ?_
    ·intro W hSw;obtain⟨s0,sb⟩:=hSw;have s1:W.cell? ⟨mb,0,none⟩=some (.int .i64 (t:Int)):=cell_of_heap sb _;have s2:W.cell? ⟨mb,1,none⟩=some (.slice pt dl ct):=cell_of_heap sb _;go_simp
    dsimp only[Ct,Cu,Cv];simp only[Act.put,Cw,Cs,Cx];refine wpAnyH_take (i:=16) (v:=(.agg #[.int .i64 (me:Int),.int .i64 (t:Int),.int .i64 ((aq log t:Nat):Int),.slice pt dl ct])) rfl (by kernel_rfl) (by kernel_rfl) (by kernel_rfl) (fun _ _ _ h=>h) (Or.inl ⟨by rfl,?_⟩) hS5 ?_
    ·intro W hSw;obtain⟨s0,sb⟩:=hSw;have s1:W.cell? ⟨mb,0,none⟩=some (.int .i64 (t:Int)):=cell_of_heap sb _;have s2:W.cell? ⟨mb,1,none⟩=some (.slice pt dl ct):=cell_of_heap sb _;go_simp
    dsimp only[Ct,Cu,Cv];simp only[Act.put,Cw,Cs,Cx];have z0:w5.cell? ⟨mb+1,0,none⟩=some (.int .i64 0):=cell_of_heap hz _;have z1:w5.cell? ⟨mb+1,1,none⟩=some (.int .i64 0):=cell_of_heap hz _;have z2:w5.cell? ⟨mb+1,2,none⟩=some (.int .i64 0):=cell_of_heap hz _;have z3:w5.cell? ⟨mb+1,3,none⟩=some (.slice none 0 0):=cell_of_heap hz _;have zf:=frozen_of_heap hz;refine wpAnyH_ready (rs:=[18]) (by kernel_rfl) (by simp) ?_;refine AllReadyH.cons rfl (fun K hK=>?_) AllReadyH.nil;rw[if_pos (by rfl)];dsimp only[Ct,Cu,Cv];go_simp
    have HLt:=HLET.out w5 (mb+1) (by omega) hb35 hz;refine hK.out _ _ (hSw _ HLt.out.2.2) (fun _=>?_);clear hK K
    try simp only[Act.put,Cw,Cs,Cx]
    refine wpAnyH_done (by kernel_rfl) ?_ _;refine NoPanic.normal ?_;go_wp2_with fail
    go_meet
    case rel=>exact⟨_,rfl,HLt⟩
   case rest =>
    obtain⟨lb,rfl,HLB⟩:=hcut;obtain⟨hl0,hm0,hbc⟩:=HLB.out;have l0:wc.cell? ⟨lb,0,none⟩=some (.int .i64 (me:Int)):=cell_of_heap hl0 _;have l1:wc.cell? ⟨lb,1,none⟩=some (.int .i64 (t:Int)):=cell_of_heap hl0 _;have l2:wc.cell? ⟨lb,2,none⟩=some (.int .i64 ((aq log t:Nat):Int)):=cell_of_heap hl0 _;have l3:wc.cell? ⟨lb,3,none⟩=some (.slice pt dl ct):=cell_of_heap hl0 _;have hsc:=hbc.size;have hb2c:Below w2.heap.size w2 wc:=hb23.trans (hbc.mono (by omega));have HMB:Hid (wc.heap[mb]?=some (.cells #[.int .i64 (t:Int),.slice pt dl ct] 137 (0,0))):=hm0;have HWR:Hid (Calls Tryz.prog 58 #[.agg #[.int .i64 (me:Int),.int .i64 (t:Int),.int .i64 ((aq log t:Nat):Int),.slice pt dl ct]] wc fun e w'=>∃p c vf,e=.returned (.slice p vf.length c)∧Hid (cY wc.heap.size (.slice p vf.length c) vf (ed me t (aq log t) (D t)) w'∧Below wc.heap.size wc w')):=by
     obtain⟨hvc,hRc⟩:=HG2.out wc hb2c;have hrc:wc.ownsRow 0 122 10 (.slice pt dl ct) (D t).length (aP (D t)):=by
      have:=(an.of_below (S:=[]) hb2c).owns HRW.out (by simp);rwa[hdl]
     have hcl:=fW log t;refine(yd me t (aq log t) (by omega) (by omega) (by omega) (D t) (by omega) _ wc hvc hRc (by omega) hrc).mono ?_;rintro e w' ⟨fv,vf,rfl,h1,h2⟩
     obtain⟨p,c,rfl⟩:=aW h1.row;exact⟨p,c,vf,rfl,h1,h2⟩
    have HOC:Hid (cV w2.heap.size u3 os wc):=HOS.out.1.below hbc;clear hl0 hm0 hix hfd cme hb3 HLB;go_wp2_with (go_at_call 58;refine HWR.out.mono ?_;rintro e w4 ⟨pf,cf,vf,rfl,HF⟩)
    have hs4:wc.heap.size≤w4.heap.size:=HF.out.2.size;have HFL:Hid (vf.length=(ed me t (aq log t) (D t)).length):=HF.out.1.len;have hwl:(ed me t (aq log t) (D t)).length≤dl+1:=by have:=lJ me t (aq log t) (D t);omega
    have hvl:vf.length≤dl+1:=by have:=HFL.out;omega
    have holen:os.length≤65:=by
     have h1:=congrArg List.length HOS.out.2.1;rw[List.length_map]at h1
     have h2:=od me log D ((ax D ow 5).take k) fun x hx=>HT.out.len x (by
      have:=List.mem_of_mem_take hx;simp only[ax,Dc,DJ]at this;exact this.1)
     have h3:((ax D ow 5).take k).length≤5:=by rw[List.length_take];have:=iE D ow 5;omega
     omega
    go_loopw [3,45] (fun v i wr=>∃j:Nat,j≤vf.length∧i=.int .i64 (j:Int)∧Hid (∃os2,sE w2.heap.size wc.heap.size t (.slice pf vf.length cf) vf (ed me t (aq log t) (D t)) os j v os2 wr∧wr.heap[mb]?=some (.cells #[.int .i64 (t:Int),.slice pt dl ct] 137 (0,0))∧Below w2.heap.size w2 wr)) (fun _ i _=>vf.length-(intOf i).toNat)
    case atStart =>
     refine⟨0,by omega,rfl,os,⟨HOC.out.below HF.out.2,by simp,fun o ho b hb=>((HOC.out.each o ho).lt b hb).2,HF.out.1,fun b hb=>?_⟩,(HF.out.2.block mb (by omega)).trans HMB.out,hb2c.trans (HF.out.2.mono (by omega))⟩;have h1:=(HOC.out.row.lt b hb).2;refine⟨fun e=>?_,fun v hv e=>?_⟩
     ·have:=aU HF.out.1.row e;omega
     obtain⟨f',hf'⟩:=HF.out.1.mem hv;have:=aU hf' e;omega
    case round =>
     obtain⟨j,hj,rfl,HJ⟩:=hrel;by_cases hjl:j<vf.length
     ·obtain⟨os2,hp,hmm,hbw⟩:=HJ.out;have hjf:j<(ed me t (aq log t) (D t)).length:=by have:=HFL.out;omega
      obtain⟨gf,cff,hgf,-,hgfl⟩:=hp.fr.row.form (by omega);simp only[Value.slice.injEq,true_and]at hgf;obtain⟨rfl,rfl⟩:=hgf;obtain⟨pj,cj,hvj⟩:=aW (hp.fr.each j _ _ (Cr hjl) (Cr hjf));have cj0:wr.cell? ⟨gf,j,none⟩=some (.slice pj (ed me t (aq log t) (D t))[j].length cj):=by
       have:=hp.fr.row.cells (g:=gf) rfl j _ (Cr hjl);rw[CS,CJ,hvj]at this
       exact this
      have cmb:wr.cell? ⟨mb,0,none⟩=some (.int .i64 (t:Int)):=cell_of_heap hmm _;have hjs:(j:Int)<(vf.length:Int):=by omega
      have hol:=hp.len;have hsw:=hbw.size;have hmbl:mb<wr.heap.size:=(Cn.1 hmm).1;have hne:u3.ownBlock≠some mb:=fun e=>by
       rcases id hp.out.row.2 with⟨h1,-⟩|⟨g',cap',cur,h1,-,hg',-⟩
       ·rw[h1]at e;simp[Cp]at e
       rw[h1]at e;have e':g'=mb:=by simpa[Cp] using e
       subst e';rw[hmm]at hg'
       simp at hg'
      have HAA:Hid (∀o,(wr.alloc o).ownsRow w2.heap.size 57 2 u3 os2.length (cL os2)):=fun o=>(an.alloc (an.refl [] wr) o).owns hp.out.row (by simp)
      have HN:Hid (∀(g cap:Nat) (o:Obj) (w5:World),w5.ownsRow w2.heap.size 57 2 (.slice (some ⟨g,0,none⟩) (os2.length+1) cap) (os2.length+1) (cL os2++[.int .i64 (t:Int),.slice pj (ed me t (aq log t) (D t))[j].length cj])→(wr.alloc o).grownBy w5 u3.ownBlock→(u3.ownBlock=some g∨g=wr.heap.size+1)→Hid (∃os3,sE w2.heap.size wc.heap.size t (.slice (some ⟨gf,0,none⟩) vf.length cf) vf (ed me t (aq log t) (D t)) os (j+1) (.slice (some ⟨g,0,none⟩) (os2.length+1) cap) os3 w5∧w5.heap[mb]?=some (.cells #[.int .i64 (t:Int),.slice pt dl ct] 137 (0,0))∧Below w2.heap.size w2 w5)):=fun g cap o w5 ho hg hat=>by
       have u5:an [u3.ownBlock] wr w5:=((an.refl _ wr).alloc o).grown hg fun b hb=>.inl (by simp[hb])
       refine⟨_,hp.step (by omega) (Cr hjl) (Cr hjf) u5 (by rw[hvj];exact ho) (hat.imp id fun h=>by omega),(u5.block mb hmbl fun hmem=>?_).trans hmm,⟨u5.os.trans hbw.os,u5.tape.trans hbw.tape,u5.output.trans hbw.output,Nat.le_trans hbw.size u5.size,fun b hbl=>(u5.block b (by omega) fun hmem=>?_).trans (hbw.block b hbl)⟩⟩
       ·simp only[Co,Cq,or_false]at hmem;exact hne hmem.symm
       simp only[Co,Cq,or_false]at hmem;have:=aU hp.out.row hmem.symm;omega
      clear hp hmm hbw HJ hvj;generalize (ed me t (aq log t) (D t))[j].length=nj at *;generalize os2.length=ol at *;go_wp2_with (at_builtin;refine wpList_append_lies _ rfl _ _ 64 rfl w2.heap.size 57 iF (.agg #[.int .i64 0,.slice none 0 0]) 2 32 Tryz.underlying64 hi0 hi1 hi2 hi3 rfl (by decide) u3 ol (cL os2) (by rfl) (HAA.out _) ⟨wr.heap.size,0,none⟩ 1 1 [.int .i64 (t:Int),.slice pj nj cj] (by rfl) (by rfl) (World.news_of_block (heap_alloc_new _ _)) (by simp[Value.oneCell']) (by omega) (by unfold maxLen;omega) (by omega) (by simp;omega) (wr.heap.size+1) (by simp) ?_;intro g5 cap5 w5 ho5 hg5 hat5 hgl5)
      go_roundw
      case rel =>
       have R:j+1≤vf.length∧Value.int .i64 ((j:Int)+1)=.int .i64 ((j+1:Nat):Int)∧_:=⟨by omega,by go_num,HN.out _ _ _ _ ho5 hg5 hat5⟩
       first
        |exact⟨j+1,R⟩
        |((repeat apply Exists.intro);exact⟨⟨j+1,R⟩,rfl⟩)
      case measure=>simp[intOf];omega
     obtain rfl:j=vf.length:=by omega
     obtain⟨os2,hp,hmm,hbw⟩:=HJ.out;have HE:Hid (cV w2.heap.size u3 os2 wr∧os2.map (fun o=>(o.1,o.2.2))=((ax D ow 5).take (k+1)).flatMap (iW me log D)∧Below w2.heap.size w2 wr):=by
      refine⟨hp.out,?_,hbw⟩;rw[hp.os,List.map_append,HOS.out.2.1,HSN.out,List.flatMap_append];congr 1
      rw[List.flatMap_cons,List.flatMap_nil,List.append_nil];unfold iW;have hfl:=HFL.out;rw[List.take_of_length_le (by rw[List.length_zip];omega),DR];have e:((fun o:Nat×Value×List UInt8=>(o.1,o.2.2)) ∘ fun p:Value×List UInt8=>(t,p.1,p.2))=(fun f=>(t,f)) ∘ Prod.snd:=rfl;rw[e,←DR,List.map_snd_zip (by omega)]
     clear hp hmm hbw HJ;go_wp2
     go_roundw
     case rel=>exact⟨k+1,by omega,by go_num,os2,HE.out⟩
     case measure=>simp[intOf];omega
  obtain rfl:k=(ax D ow 5).length:=by omega
  obtain⟨os,hos,hmap,hbr⟩:=HI.out;rw[List.take_length]at hmap
  have hrq:=HT.out.rep.below hbr;go_wp2
  refine leaves_cons (f:=45) (args:=#[.pointer (some ⟨rb,0,none⟩)]) (by simp) (by simp[go_sem]) ?_;refine(unlock_deferred dQ ⟨rb,0,none⟩ .returning _ hrq.c0 (hrq.f 0)).mono ?_;rintro e u' w'' ⟨rfl,rfl,rfl⟩
  have ne:∀b,b≠rb→some b∉[some rb]:=fun b hb hm=>by simp at hm;exact hb hm
  have uu:an [some rb] wr (wr.setCell ⟨rb,0,none⟩ (.int .i32 0)):=(an.refl _ wr).setCell (.inl (by simp)) _;refine⟨_,results_tmp rfl _ _ _,_,os,D,its,wv,rfl,?_,hmap,hrq.lock 0,HT.out.its,fun b hb=>⟨?_,fun e=>?_,fun o ho e=>?_⟩,HT.out.due,HT.out.len,?_⟩
  ·have h1:cV w2.heap.size _ os (wr.setCell ⟨rb,0,none⟩ (.int .i32 0)):=hos.upd uu (fun b hb=>ne b (by have:=aU hos.row hb;omega)) fun o ho b hb=>ne b (by have:=aU (hos.each o ho) hb;omega)
   exact⟨dc h1.row hs2,fun o ho=>dc (h1.each o ho) hs2,h1.apart,h1.dist⟩
  ·have:=HT.out.own b hb;rwa[aj]at this
  ·have h1:=aU hos.row e;have h2:=(HT.out.rep.wrow.lt b hb).2;omega
  ·have h1:=aU (hos.each o ho) e;have h2:=(HT.out.rep.wrow.lt b hb).2;omega
  have u0:an [some rb,wv0.ownBlock] w (w.setCell ⟨rb,0,none⟩ (.int .i32 1)):=(an.refl _ w).setCell (.inl (by simp)) _;have u1:=(u0.trans HT.out.upd fun i hi=>.inl hi).below hbr;exact u1.setCell (.inl (by simp)) _
end Go.Proofs.YtckmppkdpnhodaaGreatDoor
