import Derived.Test.YtckmppkdpnhodaaGreatDoorCards
import Derived.Test.YtckmppkdpnhodaaGreatDoorTie
import Derived.ProofKit
import Derived.Deep.DeepHandedRow
import Derived.Test.YtckmppkdpnhodaaGreatDoorT35
set_option maxRecDepth 100000
set_option maxHeartbeats 8000000
set_option linter.unusedVariables false
set_option linter.unusedSimpArgs false
open List renaming mem_cons_of_mem→CQ,mem_cons_self→Db,getElem?_eq_getElem→Cr,replicate→CM,getElem_append_left→Df,length_append→Cz,length_cons→CR,length_nil→Dh,getElem?_append_right→C5,mem_cons→Co,not_mem_nil→Cq,mem_append→CP,drop_eq_getElem_cons→C9
open Go.World renaming block_lt_of_cell?→Cy,holding→Di,cell?_of_block→CE
open Array renaming getElem?_eq_some_iff→Cn
open Nat renaming lt_of_lt_of_le→CG,le_trans→CC,add_sub_cancel_left→DM
open Go.RowKit.Below renaming refl→Ck
open Go.Value renaming ownBlock→Cp
open Option renaming map_some→Dk
namespace Go.Proofs.YtckmppkdpnhodaaGreatDoor
section
open Go.ChangeShapes Go.WideShapes Go.ChangeAt Go.RowKit Go.Deep
theorem Tryz.BL:ownKnob Tryz.prog.godebug=none:=by kernel_rfl
theorem Tryz.BA : Tryz.prog.globalNamed "cartel/commands.verbs" = some 0 := by kernel_rfl
theorem Tryz.Bq:(Tryz.prog.globals[0]?).map (·.type)=some 221:=by kernel_rfl
theorem Tryz.BC:Tryz.prog.cellsOf 221=5:=by kernel_rfl
theorem Tryz.A3:Tryz.prog.cellsOf 9=1:=by kernel_rfl
theorem Tryz.BO:(Tryz.prog.globals[3]?).map (·.type)=some 287:=by kernel_rfl
theorem Tryz.B8:Tryz.prog.cellsOf 287=20:=by kernel_rfl
theorem Tryz.B4:Tryz.prog.cellsOf 268=1:=by kernel_rfl
theorem Tryz.BI : Tryz.prog.globalNamed "cartel/wire.remainders" = some 1 := by kernel_rfl
theorem Tryz.BN:(Tryz.prog.globals[1]?).map (·.type)=some 255:=by kernel_rfl
theorem Tryz.B7:Tryz.prog.cellsOf 255=16:=by kernel_rfl
theorem Tryz.B6:Tryz.prog.cellsOf 96=1:=by kernel_rfl
def oj:List (String×DataW Unit):=Rows.notesRow.laid
theorem pA{W:World}(h:laidMetH Tryz.prog oj W):bH W:=by
 have h':laidMet Tryz.prog oj W:=h;have hp:fu W:=vd Tryz.Bi Tryz.BO Tryz.underlying287 Tryz.underlying268 Tryz.B4 Tryz.B8 h' (CQ _ (CQ _ (Db ..)))
 have hr : Lib.TabIs Tryz.prog W "cartel/wire.remainders" .u32 (ee.map fun n => ((n : Nat) : Int)) := vd Tryz.BI Tryz.BN Tryz.underlying255 Tryz.underlying96 Tryz.B6 Tryz.B7 h' (CQ _ (CQ _ (CQ _ (CQ _ (Db ..)))))
 have hs:=xd (zs:=[[97,100,100],[114,101,109,111,118,101],[97,112,112,108,121],[114,101,118,111,107,101],[110,111,116,101]]) Tryz.BA Tryz.Bq Tryz.underlying221 Tryz.underlying9 Tryz.A3 Tryz.BC h' (CQ _ (CQ _ (CQ _ (Db ..))));have hv:ba W:=fun k=>by
  cases k
  ·exact hs 0 _ rfl
  ·exact hs 1 _ rfl
  ·exact hs 2 _ rfl
  ·exact hs 3 _ rfl
  exact hs 4 _ rfl
 have hR:eS W:=fun i hi=>by
  have hl:(ee.map fun n=>((n:Nat):Int)).length=16:=by decide
  have h1:=Lib.TabIs.cell hr Tryz.BI i (by rw[hl];exact hi);have h2:∀i,i<16→(ee.map fun n=>((n:Nat):Int)).getD i 0=((ee.getD i 0:Nat):Int):=by decide
  rw[h2 i hi]at h1;exact h1
 exact⟨hv,hp,hR,Cy W _ (hv .closed),Cy W _ (hR 0 (by omega))⟩
def aO(cs:Array Value):Obj→Obj
 |.cells _ t frozen=>.cells cs t frozen
 |o=>o
theorem kt(os:Os)(args:Array Value):laidMet Tryz.prog oj (({Di Tryz.prog os ⟨#[],#[],[]⟩ with heap:=((((((Di Tryz.prog os ⟨#[],#[],[]⟩).heap.modify 0 (aO #[.string ⟨#[97,100,100]⟩,.string ⟨#[114,101,109,111,118,101]⟩,.string ⟨#[97,112,112,108,121]⟩,.string ⟨#[114,101,118,111,107,101]⟩,.string ⟨#[110,111,116,101]⟩])).modify 1 (aO (([0,498536548,997073096,651767980,1994146192,1802195444,1303535960,1342533948,3988292384,4027552580,3604390888,3412177804,2607071920,2262029012,2685067896,3183342108]:List Int).map fun z=>Value.int .u32 z).toArray)).modify 3 (aO (([1,10,100,1000,10000,100000,1000000,10000000,100000000,1000000000,10000000000,100000000000,1000000000000,10000000000000,100000000000000,1000000000000000,10000000000000000,100000000000000000,1000000000000000000,10000000000000000000]:List Int).map fun z=>Value.int .u64 z).toArray)).modify 4 (aO (([0,1,28,2,29,14,24,3,30,22,20,15,25,17,4,8,31,27,13,23,21,19,16,7,26,12,18,6,11,5,10,9]:List Int).map fun z=>Value.int .u8 z).toArray)).modify 5 (aO (([0,1,56,2,57,49,28,3,61,58,42,50,38,29,17,4,62,47,59,36,45,43,51,22,53,39,33,30,24,18,12,5,63,55,48,27,60,41,37,16,46,35,44,21,52,32,23,11,54,26,40,15,34,20,31,10,25,14,19,9,13,8,7,6]:List Int).map fun z=>Value.int .u8 z).toArray))}:World).forCall (fun _ _=>0) ⟨#[],args,[]⟩).memory:=laidMet_of_run' 8 (by kernel_rfl) (by kernel_rfl)
theorem se{z:Int}(h:(Lit.int .i64 z).wf=true) : -9223372036854775808≤z∧z≤9223372036854775807:=by
 have h1:=(Lit.wf_int_iff .i64 z).1 h;have e1:IntKind.i64.min = -9223372036854775808:=by decide +kernel
 have e2:IntKind.i64.max=9223372036854775807:=by decide +kernel
 rw[e1,e2]at h1;exact h1
end
section
open Go.RowKit Go.Proofs
variable {B b cap cc m rb s ti wb z:Nat} {C:Array Value} {S:Nat→Sr} {c2:Nat→Nat} {e:TypeId} {f:List UInt8} {fr:Int} {g hh j kov' osv' u v:Value} {p:Option Addr} {xs:List Value} {α β:Type}
structure Qn where
 S:Nat→Sr
 air:List (Nat×Nat×List UInt8)
 bb:List (Nat×Nat)
 bf:List (Nat×Int)
def au(air:List (Nat×Nat×List UInt8))(avs:List Value):List Value:=(air.zip avs).flatMap fun x=>[.int .i64 (x.1.1:Int),.int .i64 (x.1.2.1:Int),x.2]
structure dZ(LB NB:Nat)(w:World)(n:Nat)(rbs:List Nat)(rv:cX)(q:Qn)(c:Nat→Nat)(d:cU)(avs bus fus:List Value):Prop where
 rbl:∀i,i<n→rbs[i]?=some (d.rb i)
 net:gy w n q.S d
 ok:ay n q.S
 fit:Fit n LB NB q.S
 foot:∀i b,i<n→d.foot i b→c b=1
 arow:w.ownsRow 0 154 3 rv.av q.air.length (au q.air avs)
 avc:∀b,rv.av.ownBlock=some b→c b=2
 alen:avs.length=q.air.length
 adat:∀i (h:i<avs.length) (h':i<q.air.length),w.ownsRow 0 5 1 avs[i] q.air[i].2.2.length (Lib.byteCells q.air[i].2.2)∧∀b,avs[i].ownBlock=some b→c b=3
 brow:w.ownsRow 0 55 1 rv.bsv q.bb.length bus
 bvc:∀b,rv.bsv.ownBlock=some b→c b=4
 bkrow:w.ownsRow 0 3 1 rv.kbv q.bb.length (q.bb.map fun e=>.int .i64 (e.2:Int))
 bkc:∀b,rv.kbv.ownBlock=some b→c b=5
 bmarks:∀i (h:i<q.bb.length) (h':i<bus.length),aJ w bus[i] q.bb[i].1 q.bb[i].2∧∀b,bus[i].ownBlock=some b→c b=6∧b<w.heap.size
 frow:w.ownsRow 0 64 1 rv.fsv q.bf.length fus
 fvc:∀b,rv.fsv.ownBlock=some b→c b=7
 fkrow:w.ownsRow 0 3 1 rv.kfv q.bf.length (q.bf.map fun e=>.int .i64 e.2)
 fkc:∀b,rv.kfv.ownBlock=some b→c b=8
 fmarks:∀i (h:i<q.bf.length) (h':i<fus.length),aI w fus[i] q.bf[i].1 q.bf[i].2∧∀b,fus[i].ownBlock=some b→c b=9∧b<w.heap.size
 bbm:∀e∈q.bb,e.1≤maxLen∧e.2<256
 bfm:∀e∈q.bf,e.1≤maxLen
def aB(LB NB:Nat)(w:World)(n:Nat)(rbs:List Nat)(rv:cX)(q:Qn)(F:Nat→Prop):Prop:=∃c d avs bus fus,dZ LB NB w n rbs rv q c d avs bus fus∧∀b,b<w.heap.size→c b≠0→F b
theorem aN{w w':World}{n:Nat}(h:w.ownsRow B e s v n xs)(hs:∀b,v.ownBlock=some b→b<w.heap.size→w'.heap[b]?=w.heap[b]?):w'.ownsRow B e s v n xs:=by
 refine⟨h.1,?_⟩;rcases h.2 with hn|⟨g,cap,cur,rfl,hb,hg,rest⟩
 ·exact .inl hn
 exact .inr ⟨g,cap,cur,rfl,hb,by rw[hs g rfl (Cn.1 hg).1];exact hg,rest⟩
theorem bp.same{w w':World}{n me:Nat}{lk:Int}{log:List En}{now:Nat}{its:List It}{ow:Nat→Bool}{ev wv:Value}(h:bp w rb n me lk log now its ow ev wv)(hs:∀b,b<w.heap.size→(b=rb∨ev.ownBlock=some b∨wv.ownBlock=some b)→w'.heap[b]?=w.heap[b]?):bp w' rb n me lk log now its ow ev wv:=⟨(hs rb h.lt (.inl rfl)).trans h.rbk,aN h.erow fun b hb hl=>hs b hl (.inr (.inl hb)),h.eN,aN h.wrow fun b hb hl=>hs b hl (.inr (.inr hb)),h.wN,h.ew,h.heap⟩
theorem gy.same{w w':World}{n:Nat}{S:Nat→Sr}{d:cU}(h:gy w n S d)(hs:∀i b,i<n→b<w.heap.size→d.foot i b→w'.heap[b]?=w.heap[b]?):gy w' n S d:=⟨fun i hi=>(h.rep i hi).same fun b hl hf=>hs i b hi hl hf,h.perm,h.apart⟩
theorem aJ.same{w w':World}{k:Nat}(h:aJ w u m k)(hs:∀b,u.ownBlock=some b→b<w.heap.size→w'.heap[b]?=w.heap[b]?):aJ w' u m k:=by
 obtain⟨p,cap,rfl,hc⟩:=h;refine⟨p,cap,rfl,fun i hi=>?_⟩;obtain⟨g,rfl,c0⟩:=hc i hi;exact⟨g,rfl,(CE (a:=⟨g,i,none⟩) (hs g rfl (Cy w _ c0))).trans c0⟩
theorem aI.same{w w':World}{k:Int}(h:aI w u m k)(hs:∀b,u.ownBlock=some b→b<w.heap.size→w'.heap[b]?=w.heap[b]?):aI w' u m k:=by
 obtain⟨p,cap,rfl,hc⟩:=h;refine⟨p,cap,rfl,fun i hi=>?_⟩;obtain⟨g,rfl,c0,c1⟩:=hc i hi;have hb:=hs g rfl (Cy w _ c0);exact⟨g,rfl,(CE (a:=⟨g,i*2,none⟩) hb).trans c0,(CE (a:=⟨g,i*2+1,none⟩) hb).trans c1⟩
section
variable {LB NB:Nat} {w w':World} {n:Nat} {rbs:List Nat} {rv:cX} {q:Qn} {c c':Nat→Nat} {d:cU} {avs bus fus:List Value}
theorem dZ.same(h:dZ LB NB w n rbs rv q c d avs bus fus)(hz:w.heap.size≤w'.heap.size)(hs:∀b,b<w.heap.size→c b≠0→w'.heap[b]?=w.heap[b]?)(hc:∀b,b<w.heap.size→c' b=c b):dZ LB NB w' n rbs rv q c' d avs bus fus where
 rbl:=h.rbl
 net:=h.net.same fun i b hi hl hf=>hs b hl (by rw[h.foot i b hi hf];omega)
 ok:=h.ok
 fit:=h.fit
 foot:=fun i b hi hf=>(hc b (h.net.lt hi hf)).trans (h.foot i b hi hf)
 arow:=aN h.arow fun b hb hl=>hs b hl (by rw[h.avc b hb];omega)
 avc:=fun b hb=>(hc b (h.arow.lt b hb).2).trans (h.avc b hb)
 alen:=h.alen
 adat:=fun i h1 h2=>⟨aN (h.adat i h1 h2).1 fun b hb hl=>hs b hl (by rw[(h.adat i h1 h2).2 b hb];omega),fun b hb=>(hc b ((h.adat i h1 h2).1.lt b hb).2).trans ((h.adat i h1 h2).2 b hb)⟩
 brow:=aN h.brow fun b hb hl=>hs b hl (by rw[h.bvc b hb];omega)
 bvc:=fun b hb=>(hc b (h.brow.lt b hb).2).trans (h.bvc b hb)
 bkrow:=aN h.bkrow fun b hb hl=>hs b hl (by rw[h.bkc b hb];omega)
 bkc:=fun b hb=>(hc b (h.bkrow.lt b hb).2).trans (h.bkc b hb)
 bmarks:=fun i h1 h2=>⟨(h.bmarks i h1 h2).1.same fun b hb hl=>hs b hl (by rw[((h.bmarks i h1 h2).2 b hb).1];omega),fun b hb=>⟨(hc b ((h.bmarks i h1 h2).2 b hb).2).trans ((h.bmarks i h1 h2).2 b hb).1,CG ((h.bmarks i h1 h2).2 b hb).2 hz⟩⟩
 frow:=aN h.frow fun b hb hl=>hs b hl (by rw[h.fvc b hb];omega)
 fvc:=fun b hb=>(hc b (h.frow.lt b hb).2).trans (h.fvc b hb)
 fkrow:=aN h.fkrow fun b hb hl=>hs b hl (by rw[h.fkc b hb];omega)
 fkc:=fun b hb=>(hc b (h.fkrow.lt b hb).2).trans (h.fkc b hb)
 fmarks:=fun i h1 h2=>⟨(h.fmarks i h1 h2).1.same fun b hb hl=>hs b hl (by rw[((h.fmarks i h1 h2).2 b hb).1];omega),fun b hb=>⟨(hc b ((h.fmarks i h1 h2).2 b hb).2).trans ((h.fmarks i h1 h2).2 b hb).1,CG ((h.fmarks i h1 h2).2 b hb).2 hz⟩⟩
 bbm:=h.bbm
 bfm:=h.bfm
theorem aw(LB NB:Nat):dT (aB LB NB):=⟨fun {w w' n rbs rv q F F'} h hz hs=>by
 obtain⟨c,d,avs,bus,fus,h,hF⟩:=h;refine⟨fun b=>if b<w.heap.size then c b else 0,d,avs,bus,fus,h.same hz (fun b hl hc=>(hs b (hF b hl hc) hl).1) (fun b hb=>if_pos hb),fun b _ hc=>?_⟩;by_cases hl:b<w.heap.size
 ·simp only[hl,if_true]at hc;exact(hs b (hF b hl hc) hl).2
 simp only[hl,if_false]at hc;exact absurd rfl hc⟩
theorem dZ.step(h:dZ LB NB w n rbs rv q c d avs bus fus){d':cU}{S':Nat→Sr}{LB' NB':Nat}(st:fP n w d w' d')(hm:gy w' n S' d')(ok:ay n S')(fit:Fit n LB' NB' S'):dZ LB' NB' w' n rbs rv {q with S:=S'} (fun b=>if b<w.heap.size then c b else 1) d' avs bus fus:=by
 have far:∀b,c b≠1→d.far n b:=fun b hc i hi hf=>hc (h.foot i b hi hf)
 have same:∀b,b<w.heap.size→c b≠1→w'.heap[b]?=w.heap[b]?:=fun b hl hc=>st.block b hl (far b hc)
 have hc:∀b,b<w.heap.size→(if b<w.heap.size then c b else 1)=c b:=fun b hb=>if_pos hb
 exact
  {rbl:=fun i hi=>by rw[h.rbl i hi,st.rb]
   net:=hm
   ok:=ok
   fit:=fit
   foot:=fun i b hi hf=>by
    by_cases hl:b<w.heap.size
    ·rw[hc b hl];by_cases e:c b=1
     ·exact e
     exact absurd hf (st.far b hl (far b e) i hi)
    exact if_neg hl
   arow:=aN h.arow fun b hb hl=>same b hl (by rw[h.avc b hb];omega)
   avc:=fun b hb=>(hc b (h.arow.lt b hb).2).trans (h.avc b hb)
   alen:=h.alen
   adat:=fun i h1 h2=>⟨aN (h.adat i h1 h2).1 fun b hb hl=>same b hl (by rw[(h.adat i h1 h2).2 b hb];omega),fun b hb=>(hc b ((h.adat i h1 h2).1.lt b hb).2).trans ((h.adat i h1 h2).2 b hb)⟩
   brow:=aN h.brow fun b hb hl=>same b hl (by rw[h.bvc b hb];omega)
   bvc:=fun b hb=>(hc b (h.brow.lt b hb).2).trans (h.bvc b hb)
   bkrow:=aN h.bkrow fun b hb hl=>same b hl (by rw[h.bkc b hb];omega)
   bkc:=fun b hb=>(hc b (h.bkrow.lt b hb).2).trans (h.bkc b hb)
   bmarks:=fun i h1 h2=>⟨(h.bmarks i h1 h2).1.same fun b hb hl=>same b hl (by rw[((h.bmarks i h1 h2).2 b hb).1];omega),fun b hb=>⟨(hc b ((h.bmarks i h1 h2).2 b hb).2).trans ((h.bmarks i h1 h2).2 b hb).1,CG ((h.bmarks i h1 h2).2 b hb).2 st.size⟩⟩
   frow:=aN h.frow fun b hb hl=>same b hl (by rw[h.fvc b hb];omega)
   fvc:=fun b hb=>(hc b (h.frow.lt b hb).2).trans (h.fvc b hb)
   fkrow:=aN h.fkrow fun b hb hl=>same b hl (by rw[h.fkc b hb];omega)
   fkc:=fun b hb=>(hc b (h.fkrow.lt b hb).2).trans (h.fkc b hb)
   fmarks:=fun i h1 h2=>⟨(h.fmarks i h1 h2).1.same fun b hb hl=>same b hl (by rw[((h.fmarks i h1 h2).2 b hb).1];omega),fun b hb=>⟨(hc b ((h.fmarks i h1 h2).2 b hb).2).trans ((h.fmarks i h1 h2).2 b hb).1,CG ((h.fmarks i h1 h2).2 b hb).2 st.size⟩⟩
   bbm:=h.bbm
   bfm:=h.bfm}
end
theorem gy.BB{w:World}{n:Nat}{d:cU}(h:gy w n S d){t:TypeId}(hb:w.heap[b]?=some (.cells C t (0,0)))(h1:t≠113)(h2:t≠122)(h3:t≠171):d.far n b:=fun i hi hf=>by
 have hr:=h.rep i hi;rcases hf with e|e|e
 ·have:=hr.rbk;rw[←e,hb]at this
  simp only[Option.some.injEq,Obj.cells.injEq]at this;exact h1 this.2.1
 ·exact sL hr.erow hb (Ne.symm h2) e
 exact sL hr.wrow hb (Ne.symm h3) e
section
variable {QT:Type} {R:World→Nat→List Nat→cX→QT→(Nat→Prop)→Prop}
theorem ar.keep(hR:dT R){w w':World}{c:Nat→Nat}{L:aC}{st:aS QT}(h:ar R w c L st)(hz:w.heap.size≤w'.heap.size)(same:∀b,b<w.heap.size→c b≠0→w'.heap[b]?=w.heap[b]?):ar R w' c L st:=by
 have owns:∀{e:TypeId} {size:Nat} {v':Value} {n:Nat} {xs:List Value} (col:Nat),w.ownsRow 0 e size v' n xs→(∀b,v'.ownBlock=some b→c b=col)→col≠0→w'.ownsRow 0 e size v' n xs:=fun col ho hcc a1=>aN ho fun b hb hl=>same b hl (by rw[hcc b hb];exact a1)
 have bl:∀{b:Nat} {o:Obj},w.heap[b]?=some o→c b≠0→w'.heap[b]?=some o:=fun {b o} ho hcc=>(same b (Cn.1 ho).1 hcc).trans ho
 have h0:0<st.rbs.length:=by rw[h.llen];have:=h.npos;omega
 have lbl:=Cy w _ (h.lcell 0 h0);exact
  {npos:=h.npos
   wbk:=bl h.wbk (by rw[h.wbc];omega)
   wbc:=h.wbc
   lbc:=h.lbc
   lcell:=fun i hi=>(CE (a:=⟨L.lb,i,none⟩) (same L.lb lbl (by rw[h.lbc];omega))).trans (h.lcell i hi)
   llen:=h.llen
   trow:=owns 3 h.trow h.tvc (by omega)
   tvc:=h.tvc
   blen:=h.blen
   bef:=fun i hi hi'=>by
    obtain⟨a1,a2,a3⟩:=h.bef i hi hi';refine⟨a1.same fun b hb hl=>?_,fun b hb=>⟨(a2 b hb).1,CG (a2 b hb).2 hz⟩,a3⟩;have e:=(a2 b hb).1;exact same b hl (by omega)
   kbk:=bl h.kbk (by rw[h.kbc];omega)
   kbc:=h.kbc
   xlen:=h.xlen
   xrow:=fun i hi=>by
    obtain⟨u,a1,a2,a3⟩:=h.xrow i hi;exact⟨u,a1,owns (10+i) a2 a3 (by omega),a3⟩
   slen:=h.slen
   srow:=owns 5 h.srow h.svc (by omega)
   svc:=h.svc
   fbk:=bl h.fbk (by rw[h.fbc];omega)
   fbc:=h.fbc
   flen:=h.flen
   fcell:=h.fcell
   orow:=owns 7 h.orow h.ovc (by omega)
   ovc:=h.ovc
   marks:=fun i hi hi'=>by
    obtain⟨a1,a2⟩:=h.marks i hi hi';refine⟨?_,fun b hb=>⟨(a2 b hb).1,CG (a2 b hb).2 hz⟩⟩;obtain⟨p,cap,hv,hc⟩:=a1;refine⟨p,cap,hv,fun j hj=>?_⟩;obtain⟨g,hg,c0,c1,c2⟩:=hc j hj;have hl:=Cy w _ c0;have e:=(a2 g (by rw[hv,hg];rfl)).1;have hs:=same g hl (by omega);exact⟨g,hg,(CE (a:=⟨g,_,none⟩) hs).trans c0,(CE (a:=⟨g,_,none⟩) hs).trans c1,(CE (a:=⟨g,_,none⟩) hs).trans c2⟩
   krow:=owns 8 h.krow h.kvc (by omega)
   kvc:=h.kvc
   rest:=hR.same h.rest hz fun b hF hl=>⟨same b hl (by omega),hF⟩}
end
structure bN(w0:World)(c:Nat→Nat)(w:World):Prop where
 old:Below w0.heap.size w0 w
 zero:∀b,b<w0.heap.size→c b=0
theorem bN.step{w0 w w':World}{c c':Nat→Nat}(h:bN w0 c w)(st:aG w c w' c'):bN w0 c' w':=⟨⟨st.os.trans h.old.os,st.tape.trans h.old.tape,st.output.trans h.old.output,CC h.old.size st.size,fun b hb=>(st.zero b (CG hb h.old.size) (h.zero b hb)).trans (h.old.block b hb)⟩,fun b hb=>(st.col b (CG hb h.old.size)).trans (h.zero b hb)⟩
section
variable {w0 w w':World} {LB NB:Nat} {c:Nat→Nat} {L:aC} {st:aS Qn}
theorem ar.AZ(h:ar (aB LB NB) w c L st)(ho:bN w0 c w):∃c2 d avs bus fus,dZ LB NB w st.n st.rbs L.rv st.q c2 d avs bus fus∧(∀b,b<w.heap.size→c2 b≠0→c b=20)∧dr w0 st.n LB NB st.q.S d w:=by
 obtain⟨c2,d,avs,bus,fus,hI,hF⟩:=h.rest;refine⟨c2,d,avs,bus,fus,hI,hF,hI.net,hI.ok,hI.fit,ho.old.size,fun b hb=>⟨ho.old.block b hb,fun i hi hf=>?_⟩⟩;have h1:c b=20:=hF b (hI.net.lt hi hf) (by rw[hI.foot i b hi hf];omega);rw[ho.zero b hb]at h1
 omega
theorem ar.A4(h:ar (aB LB NB) w c L st){d d':cU}{avs bus fus:List Value}(hI:dZ LB NB w st.n st.rbs L.rv st.q c2 d avs bus fus)(hF:∀b,b<w.heap.size→c2 b≠0→c b=20){S':Nat→Sr}(hN:dr w0 st.n LB NB S' d' w')(sp:fP st.n w d w' d'):∃c',ar (aB LB NB) w' c' L {st with q:={st.q with S:=S'}}∧aG w c w' c':=by
 refine ar.did (aw LB NB) h 0 (q:={st.q with S:=S'}) sp.os sp.tape sp.output sp.size (fun b hl hc=>sp.block b hl fun i hi hf=>hc (hF b hl (by rw[hI.foot i b hi hf];omega))) ?_;refine⟨_,d',avs,bus,fus,hI.step sp hN.m hN.ok hN.fit,fun b hl hc=>?_⟩;by_cases hb:b<w.heap.size
 ·simp only[hb,if_true]at hc;exact .inl ⟨hb,hF b hb hc⟩
 exact .inr (by omega)
end
def oE(n:Nat)(S:Nat→Sr)(fr:Int)(ti:Nat)(f:List UInt8)(S':Nat→Sr):Prop:=(∃l:Lt,fB n S l∧Bears l f∧fr=(l.src:Int)∧ti=l.dst∧S'=bR S ti (dY (S ti) l))∨(okB f=false∧S'=S)∨(∃a b h es,Whole f a b h es∧gS n ti (S ti).log a b h fr=false∧S'=S)
def wV(w:World)(p:Option Addr):Prop:=∀b o,p=some ⟨b,o,none⟩→∃C,w.heap[b]?=some (.cells C 5 (0,0))
theorem eX{w w':World}{c:Nat}(h:aM w (.slice p f.length c) f)(hs:∀b o,p=some ⟨b,o,none⟩→b<w.heap.size→w'.heap[b]?=w.heap[b]?):aM w' (.slice p f.length c) f:=by
 obtain⟨p',cap',e,hc⟩:=h;simp only[Value.slice.injEq,true_and]at e;obtain⟨rfl,rfl⟩:=e;refine⟨_,_,rfl,fun i x hx=>?_⟩;obtain⟨b,off,hp,h0⟩:=hc i x hx;exact⟨b,off,hp,(CE (a:=⟨b,off+i,none⟩) (hs b off hp (Cy w _ h0))).trans h0⟩
theorem zr{w0 W:World}{n LB NB:Nat}{S':Nat→Sr}{d:cU}(h:dr w0 n LB NB S d W)(hg:bH w0)(hto:ti<n)(hH:oE n S fr ti f S'){c:Nat}(hfl:f.length≤1000000)(hc:f.length≤c)(hc9:c≤9223372036854775807)(hz:z<W.heap.size)(hzf:d.far n z)(hb:aM W (.slice (some ⟨z,0,none⟩) f.length c) f):Calls Tryz.prog 30 #[.pointer (some ⟨d.rb ti,0,none⟩),.int .i64 fr,.slice (some ⟨z,0,none⟩) f.length c] W fun e w'=>e=.returned (.tuple #[])∧∃d',dr w0 n LB NB S' d' w'∧fP n W d w' d':=by
 have hn5:=h.fit.n5.2;have hzr:z≠d.rb ti:=fun e=>hzf _ hto (.inl e)
 rcases hH with⟨l,hl,hbe,rfl,rfl,rfl⟩|⟨hok,rfl⟩|⟨a,b,hh,es,hw,hmy,rfl⟩
 ·exact vx h hg hl hbe hc hc9 hz hzf hb
 ·refine(oT (h.rem hg) (h.g1 hg) (h.rbG hg hto) (h.m.rep _ hto) z 0 c f hc hc9 (by omega) hzr hb hok fr).mono ?_;rintro e w' ⟨rfl,hbl⟩
  exact⟨rfl,d,h.below hbl,fP.below hbl d⟩
 refine(lU (h.verbs hg) (h.rem hg) (h.g1 hg) (h.rbG hg hto) (h.m.rep _ hto) (by omega) z 0 c f hc hc9 hzr hz hb hw fr hmy).mono ?_;rintro e w' ⟨rfl,hbl⟩
 exact⟨rfl,d,h.below hbl,fP.below hbl d⟩
def ze(LB NB:Nat)(w:World)(c:Nat→Nat)(L:aC)(st:aS Qn)(S':Nat→Sr)(w':World):Prop:=∃c',ar (aB LB NB) w' c' L {st with q:={st.q with S:=S'}}∧aG w c w' c'∧∀(b:Nat) (C:Array Value),w.heap[b]?=some (.cells C 5 (0,0))→w'.heap[b]?=w.heap[b]?
theorem zq{w0 w:World}{LB NB:Nat}{c:Nat→Nat}{L:aC}{st:aS Qn}(h:ar (aB LB NB) w c L st)(ho:bN w0 c w)(hg:bH w0)(hto:ti<st.n){S':Nat→Sr}(hH:oE st.n st.q.S fr ti f S')(hfl:f.length≤1000000)(hc:f.length≤cc)(hc9:cc≤9223372036854775807)(hz:w.heap[z]?=some (.cells C 5 (0,0)))(hb:aM w (.slice (some ⟨z,0,none⟩) f.length cc) f)(hrb:st.rbs[ti]?=some rb):Calls Tryz.prog 30 #[.pointer (some ⟨rb,0,none⟩),.int .i64 fr,.slice (some ⟨z,0,none⟩) f.length cc] w fun e w'=>e=.returned (.tuple #[])∧ze LB NB w c L st S' w':=by
 obtain⟨c2,d,avs,bus,fus,hI,hF,hN⟩:=h.AZ ho;have e:rb=d.rb ti:=by
  have:=hI.rbl ti hto;rw[hrb]at this
  simpa using this
 rw[e];have ft:∀(b:Nat) (C:Array Value),w.heap[b]?=some (.cells C 5 (0,0))→d.far st.n b:=fun b C hC=>hI.net.BB hC (by decide) (by decide) (by decide)
 refine(zr hN hg hto hH hfl hc hc9 (Cn.1 hz).1 (ft z C hz) hb).mono ?_;rintro e w' ⟨rfl,d',hN',sp⟩
 obtain⟨c',hm,hst⟩:=h.A4 hI hF hN' sp;exact⟨rfl,c',hm,hst,fun b C hC=>sp.block b (Cn.1 hC).1 (ft b C hC)⟩
theorem j9{w0 w:World}{LB NB:Nat}{c:Nat→Nat}{L:aC}{st:aS Qn}(h:ar (aB LB NB) w c L st)(ho:bN w0 c w)(hg:bH w0)(hto:ti<st.n){S':Nat→Sr}(hH:oE st.n st.q.S fr ti f S')(hfl:f.length≤1000000)(hb:aM w (.slice p f.length cc) f)(hp:wV w p):Calls Tryz.prog 70 #[.pointer (some ⟨L.wb,0,none⟩),.int .i64 fr,.int .i64 (ti:Int),.slice p f.length cc] w fun e w'=>e=.returned (.bool true)∧∃c' L',L'.wb=L.wb∧L'.rv=L.rv∧ar (aB LB NB) w' c' L' {st with q:={st.q with S:=S'},fresh:=st.fresh.set ti true}∧aG w c w' c':=by
 have hn:=h.npos;have hrl:ti<st.rbs.length:=by rw[h.llen];exact hto
 obtain⟨rb,hrb⟩:∃rb,st.rbs[ti]?=some rb:=⟨_,Cr hrl⟩
 obtain⟨zb,hzb⟩:∃zb,zb=w.heap.size:=⟨_,rfl⟩
 have HGV:Hid (Calls Tryz.prog 114 #[.slice p f.length cc] w fun e w'=>e=.returned (.slice (some ⟨zb,0,none⟩) (f.length+8) (f.length+8))∧Hid (w'.heap[zb]?=some (.cells (Lib.byteCells f++CM 8 (Value.int .u8 77)).toArray 5 (0,0))∧Below w.heap.size w w'∧ar (aB LB NB) w' (cD w c) L st∧aG w c w' (cD w c))∧w'.cell? ⟨L.wb,1,none⟩=some (.slice (some ⟨L.lb,0,none⟩) st.n L.capl)∧w'.cell? ⟨L.lb,ti,none⟩=some (.pointer (some ⟨rb,0,none⟩))):=by
  rw[hzb];refine(yN p cc f hfl w hb).mono ?_;rintro e w' ⟨rfl,hz,hbl⟩
  have hm:=(h.Az (aw LB NB)).below (aw LB NB) hbl;refine⟨rfl,⟨hz,hbl,hm,hbl.os,hbl.tape,hbl.output,hbl.size,fun b hb=>if_pos hb,fun b hb _=>hbl.block b hb⟩,by rw[hm.cell];simp[aC.C],?_⟩;have:=hm.lcell ti hrl;rw[Cr hrl,Option.some.injEq]at hrb
  rwa[hrb]at this
 have HRC:Hid (∀w1,(w1.heap[zb]?=some (.cells (Lib.byteCells f++CM 8 (Value.int .u8 77)).toArray 5 (0,0))∧Below w.heap.size w w1∧ar (aB LB NB) w1 (cD w c) L st∧aG w c w1 (cD w c))→Calls Tryz.prog 30 #[.pointer (some ⟨rb,0,none⟩),.int .i64 fr,.slice (some ⟨zb,0,none⟩) f.length (f.length+8)] w1 fun e w'=>e=.returned (.tuple #[])∧Hid (ze LB NB w1 (cD w c) L st S' w')∧w'.cell? ⟨L.wb,1,none⟩=some (.slice (some ⟨L.lb,0,none⟩) st.n L.capl)∧w'.cell? ⟨L.lb,ti,none⟩=some (.pointer (some ⟨rb,0,none⟩))∧w'.cell? ⟨L.wb,6,none⟩=some (.slice (some ⟨L.fb,0,none⟩) st.n L.capf)∧(∃v,w'.cell? ⟨L.fb,ti,none⟩=some (.bool v))∧w'.frozen? ⟨L.fb,ti,none⟩=false):=fun w1 h1=>by
  obtain⟨hz,hbl,hm,hst⟩:=h1;have hbz:aM w1 (.slice (some ⟨zb,0,none⟩) f.length (f.length+8)) f:=by
   refine⟨_,_,rfl,fun i x hx=>⟨zb,0,rfl,?_⟩⟩;have hi:i<f.length:=(List.getElem?_eq_some_iff.1 hx).1;rw[cell_of_heap hz,List.getElem?_toArray,List.getElem?_append_left (by rw[aV];omega),Nat.zero_add];unfold Lib.byteCells;rw[List.getElem?_map,hx]
   rfl
  refine(zq hm (ho.step hst) hg hto hH hfl (by omega) (by omega) hz hbz hrb).mono ?_;rintro e w' ⟨rfl,hR⟩
  obtain⟨c',hm',hst',hd'⟩:=id hR;obtain⟨k0,k1,-,-⟩:=hm'.flag (aw LB NB) hto true;refine⟨rfl,hR,by rw[hm'.cell];simp[aC.C],?_,by rw[hm'.cell];simp[aC.C],⟨_,k0⟩,k1⟩;have:=hm'.lcell ti hrl;rw[Cr hrl,Option.some.injEq]at hrb
  rwa[hrb]at this
 have HCL:Hid (∀w1 w2,(w1.heap[zb]?=some (.cells (Lib.byteCells f++CM 8 (Value.int .u8 77)).toArray 5 (0,0))∧Below w.heap.size w w1∧ar (aB LB NB) w1 (cD w c) L st∧aG w c w1 (cD w c))→ze LB NB w1 (cD w c) L st S' w2→Calls Tryz.prog 115 #[.slice (some ⟨zb,0,none⟩) (f.length+8) (f.length+8),.slice p f.length cc] (w2.setCell ⟨L.fb,ti,none⟩ (.bool true)) fun e w'=>e=.returned (.bool true)∧∃c' L',L'.wb=L.wb∧L'.rv=L.rv∧ar (aB LB NB) w' c' L' {st with q:={st.q with S:=S'},fresh:=st.fresh.set ti true}∧aG w c w' c'):=fun w1 w2 h1 h2=>by
  obtain⟨hz,hbl,hm,hst⟩:=h1;obtain⟨c2,hm2,hst2,hd2⟩:=h2;obtain⟨-,-,hm3,hst3⟩:=hm2.flag (aw LB NB) hto true;have tag:∀(b:Nat) (C:Array Value),w1.heap[b]?=some (.cells C 5 (0,0))→(w2.setCell ⟨L.fb,ti,none⟩ (.bool true)).heap[b]?=w1.heap[b]?:=fun b C hC=>by
   have h2:=hd2 b C hC;rw[←h2];refine Below.heap_setCell _ _ _ _ fun e=>?_
   rw[hC,e,hm2.fbk]at h2;simp only[Option.some.injEq,Obj.cells.injEq]at h2;exact absurd h2.2.1 (by decide)
  have hzz:=(tag zb _ hz).trans hz;have hbb:aM (w2.setCell ⟨L.fb,ti,none⟩ (.bool true)) (.slice p f.length cc) f:=eX hb fun b o hpb hlt=>by
   obtain⟨C,hC⟩:=hp b o hpb;have h1:=hbl.block b hlt;exact(tag b C (h1.trans hC)).trans h1
  refine(yR zb p cc f hfl _ hzz hbb fun i x hx b o hpb e=>?_).mono ?_
  ·obtain⟨C,hC⟩:=hp b o hpb;have:=(Cn.1 hC).1;omega
  rintro e w' ⟨rfl,hu⟩
  have hzl:zb<w1.heap.size:=(Cn.1 hz).1;have hcz:c2 zb=0:=by
   rw[hst2.col zb hzl];exact if_neg (by omega)
  have t3:=(hst.trans hst2).trans hst3;have hne:∀b,b≠zb→some b∉[some zb]:=fun b hb hm=>by simp at hm;exact hb hm
  refine⟨rfl,c2,{L with FB:=L.FB.setIfInBounds ti (.bool true)},rfl,rfl,hm3.keep (aw LB NB) hu.size fun b hl hc=>hu.block b hl (hne b fun e=>hc (by rw[e];exact hcz)),hu.os.trans t3.os,hu.tape.trans t3.tape,hu.output.trans t3.output,CC t3.size hu.size,t3.col,fun b hl hc=>?_⟩;exact(hu.block b (CG hl t3.size) (hne b (by omega))).trans (t3.zero b hl hc)
 have t0:(0:Int)≤(ti:Int):=by omega
 have t1:(ti:Int)<(st.n:Int):=by omega
 have f0:(0:Int)≤(f.length:Int):=by omega
 have f8:(f.length:Int)≤((f.length+8:Nat):Int):=by omega
 have f9:f.length≤f.length+8:=by omega
 generalize f.length+8=N at *;generalize L.wb=wb at *;generalize L.lb=lb at *;generalize L.fb=fb at *;generalize L.capl=capl at *;generalize L.capf=capf at *;generalize st.n=n at *;clear h hb hp hH ho hrb hrl hzb;go_enter Tryz.func70,Tryz.ntmps70
 go_upto_region 2 with(first
  |(go_at_call 114;refine HGV.out.mono ?_;rintro e w1 ⟨rfl,H1,e0,e1⟩))
 have HD:Hid (w1.drew.heap[zb]?=some (.cells (Lib.byteCells f++CM 8 (Value.int .u8 77)).toArray 5 (0,0))∧Below w.heap.size w w1.drew∧ar (aB LB NB) w1.drew (cD w c) L st∧aG w c w1.drew (cD w c)):=⟨H1.out.1,H1.out.2.1.drew,H1.out.2.2.1.below (aw LB NB) (Ck _ w1).drew,H1.out.2.2.2.trans (aG.below (Ck _ w1).drew)⟩;go_region_held3 (fun w'=>w'.cell? ⟨wb,1,none⟩=some (.slice (some ⟨lb,0,none⟩) n capl)∧w'.cell? ⟨lb,ti,none⟩=some (.pointer (some ⟨rb,0,none⟩))) (first|exact⟨e0,e1⟩|exact⟨s0,s1⟩) (first|(go_at_call 30;refine(HRC.out _ HD.out).mono ?_;rintro e w2 ⟨rfl,H2,s0,s1,s6,⟨v,s7⟩,s8⟩))
 go_wp2_with (first
  |(go_at_call 115;refine(HCL.out _ _ HD.out H2.out).mono ?_;rintro e w4 ⟨rfl,H4⟩))
 go_ret
 exact⟨rfl,H4⟩
section
variable {QT:Type} {R:World→Nat→List Nat→cX→QT→(Nat→Prop)→Prop}
theorem ar.AQ{w w':World}{c c':Nat→Nat}{L:aC}{st:aS QT}(h:ar R w c L st){rv:cX}{q:QT}(hsz:w.heap.size≤w'.heap.size)(cold:∀b,b<w.heap.size→c b≠0→c b≠20→c' b=c b)(same:∀b,b<w.heap.size→c b≠0→c b≠20→c b≠1→w'.heap[b]?=w.heap[b]?)(wbk':w'.heap[L.wb]?=some (.cells (aC.C {L with rv:=rv} st.n st.sp) 82 (0,0)))(hR':R w' st.n st.rbs rv q fun b=>c' b=20):ar R w' c' {L with rv:=rv} {st with q:=q}:=by
 have hn:=h.npos;have owns:∀{e:TypeId} {size:Nat} {v:Value} {n:Nat} {xs:List Value} (col:Nat),w.ownsRow 0 e size v n xs→(∀b,v.ownBlock=some b→c b=col)→col≠0→col≠20→col≠1→w'.ownsRow 0 e size v n xs:=fun col ho hc a0 a1 a2=>by
  refine⟨ho.1,?_⟩;rcases ho.2 with hn|⟨g,cap,cur,rfl,hb,hg,rest⟩
  ·exact .inl hn
  have e:=hc g rfl;exact .inr ⟨g,cap,cur,rfl,hb,by rw[same g (Cn.1 hg).1 (by omega) (by omega) (by omega)];exact hg,rest⟩
 have clt:∀{e:TypeId} {size:Nat} {v:Value} {n:Nat} {xs:List Value} {col:Nat},w.ownsRow 0 e size v n xs→(∀b,v.ownBlock=some b→c b=col)→col≠0→col≠20→∀b,v.ownBlock=some b→c' b=col:=fun ho hc a0 a1 b hb=>by
  have e:=hc b hb;rw[cold b (ho.lt b hb).2 (by omega) (by omega)];exact e
 have bl:∀{b:Nat} {o:Obj},w.heap[b]?=some o→c b≠0→c b≠20→c b≠1→w'.heap[b]?=some o:=fun {b o} ho hc0 hc hc1=>(same b (Cn.1 ho).1 hc0 hc hc1).trans ho
 have h0:0<st.rbs.length:=by rw[h.llen];omega
 have lbl:=Cy w _ (h.lcell 0 h0);exact
  {npos:=h.npos
   wbk:=wbk'
   wbc:=(cold _ (Cn.1 h.wbk).1 (by rw[h.wbc];omega) (by rw[h.wbc];omega)).trans h.wbc
   lbc:=(cold _ lbl (by rw[h.lbc];omega) (by rw[h.lbc];omega)).trans h.lbc
   lcell:=fun i hi=>(CE (a:=⟨L.lb,i,none⟩) (same L.lb lbl (by rw[h.lbc];omega) (by rw[h.lbc];omega) (by rw[h.lbc];omega))).trans (h.lcell i hi)
   llen:=h.llen
   trow:=owns 3 h.trow h.tvc (by omega) (by omega) (by omega)
   tvc:=clt h.trow h.tvc (by omega) (by omega)
   blen:=h.blen
   bef:=fun i hi hi'=>by
    obtain⟨a1,a2,a3⟩:=h.bef i hi hi';refine⟨a1.same fun b hb hl=>?_,fun b hb=>?_,a3⟩
    ·have e:=(a2 b hb).1;exact same b hl (by omega) (by omega) (by omega)
    have e:=a2 b hb;exact⟨(cold b e.2 (by omega) (by omega)).trans e.1,CG e.2 hsz⟩
   kbk:=bl h.kbk (by rw[h.kbc];omega) (by rw[h.kbc];omega) (by rw[h.kbc];omega)
   kbc:=(cold _ (Cn.1 h.kbk).1 (by rw[h.kbc];omega) (by rw[h.kbc];omega)).trans h.kbc
   xlen:=h.xlen
   xrow:=fun i hi=>by
    obtain⟨u,a1,a2,a3⟩:=h.xrow i hi;have hin:i<st.n:=by rw[←h.xlen];exact hi
    exact⟨u,a1,owns (10+i) a2 a3 (by omega) (by omega) (by omega),clt a2 a3 (by omega) (by omega)⟩
   slen:=h.slen
   srow:=owns 5 h.srow h.svc (by omega) (by omega) (by omega)
   svc:=clt h.srow h.svc (by omega) (by omega)
   fbk:=bl h.fbk (by rw[h.fbc];omega) (by rw[h.fbc];omega) (by rw[h.fbc];omega)
   fbc:=(cold _ (Cn.1 h.fbk).1 (by rw[h.fbc];omega) (by rw[h.fbc];omega)).trans h.fbc
   flen:=h.flen
   fcell:=h.fcell
   orow:=owns 7 h.orow h.ovc (by omega) (by omega) (by omega)
   ovc:=clt h.orow h.ovc (by omega) (by omega)
   marks:=fun i hi hi'=>by
    obtain⟨a1,a2⟩:=h.marks i hi hi';refine⟨?_,fun b hb=>⟨(cold b (a2 b hb).2 (by have:=(a2 b hb).1;omega) (by have:=(a2 b hb).1;omega)).trans (a2 b hb).1,CG (a2 b hb).2 hsz⟩⟩;obtain⟨p,cap,hv,hc⟩:=a1;refine⟨p,cap,hv,fun j hj=>?_⟩;obtain⟨g,hg,c0,c1,c2⟩:=hc j hj;have hl:=Cy w _ c0;have e:=(a2 g (by rw[hv,hg];rfl)).1;have hs:=same g hl (by omega) (by omega) (by omega);exact⟨g,hg,(CE (a:=⟨g,_,none⟩) hs).trans c0,(CE (a:=⟨g,_,none⟩) hs).trans c1,(CE (a:=⟨g,_,none⟩) hs).trans c2⟩
   krow:=owns 8 h.krow h.kvc (by omega) (by omega) (by omega)
   kvc:=clt h.krow h.kvc (by omega) (by omega)
   rest:=hR'}
end
section
variable {LB NB:Nat} {w w':World} {n:Nat} {rbs:List Nat} {rv:cX} {q:Qn} {c c':Nat→Nat} {d d':cU} {avs bus fus:List Value}
theorem dZ.thin(h:dZ LB NB w n rbs rv q c d avs bus fus)(hc:∀b,c b≠1→c' b=c b)(hf:∀i b,i<n→d.foot i b→c' b=1):dZ LB NB w n rbs rv q c' d avs bus fus where
 rbl:=h.rbl
 net:=h.net
 ok:=h.ok
 fit:=h.fit
 foot:=hf
 arow:=h.arow
 avc:=fun b hb=>(hc b (by rw[h.avc b hb];omega)).trans (h.avc b hb)
 alen:=h.alen
 adat:=fun i h1 h2=>⟨(h.adat i h1 h2).1,fun b hb=>(hc b (by rw[(h.adat i h1 h2).2 b hb];omega)).trans ((h.adat i h1 h2).2 b hb)⟩
 brow:=h.brow
 bvc:=fun b hb=>(hc b (by rw[h.bvc b hb];omega)).trans (h.bvc b hb)
 bkrow:=h.bkrow
 bkc:=fun b hb=>(hc b (by rw[h.bkc b hb];omega)).trans (h.bkc b hb)
 bmarks:=fun i h1 h2=>⟨(h.bmarks i h1 h2).1,fun b hb=>⟨(hc b (by rw[((h.bmarks i h1 h2).2 b hb).1];omega)).trans ((h.bmarks i h1 h2).2 b hb).1,((h.bmarks i h1 h2).2 b hb).2⟩⟩
 frow:=h.frow
 fvc:=fun b hb=>(hc b (by rw[h.fvc b hb];omega)).trans (h.fvc b hb)
 fkrow:=h.fkrow
 fkc:=fun b hb=>(hc b (by rw[h.fkc b hb];omega)).trans (h.fkc b hb)
 fmarks:=fun i h1 h2=>⟨(h.fmarks i h1 h2).1,fun b hb=>⟨(hc b (by rw[((h.fmarks i h1 h2).2 b hb).1];omega)).trans ((h.fmarks i h1 h2).2 b hb).1,((h.fmarks i h1 h2).2 b hb).2⟩⟩
 bbm:=h.bbm
 bfm:=h.bfm
end
section
variable {w0 w w':World} {LB NB:Nat} {c:Nat→Nat} {L:aC} {st:aS Qn}
open Classical in
theorem ar.Bu(h:ar (aB LB NB) w c L st){d d':cU}{avs bus fus:List Value}(hI:dZ LB NB w st.n st.rbs L.rv st.q c2 d avs bus fus)(hF:∀b,b<w.heap.size→c2 b≠0→c b=20){S':Nat→Sr}(hN:dr w0 st.n LB NB S' d' w')(sp:fP st.n w d w' d'):∃c',ar (aB LB NB) w' c' L {st with q:={st.q with S:=S'}}∧aG w c w' c'∧∀b,w.heap.size≤b→d'.far st.n b→c' b=0:=by
 have hI':=hI.step sp hN.m hN.ok hN.fit;have same:∀b,b<w.heap.size→c b≠20→w'.heap[b]?=w.heap[b]?:=fun b hl hc=>sp.block b hl fun i hi hf=>hc (hF b hl (by rw[hI.foot i b hi hf];omega))
 refine⟨fun b=>if b<w.heap.size then c b else if d'.far st.n b then 0 else 20,?_,⟨sp.os,sp.tape,sp.output,sp.size,fun b hb=>if_pos hb,fun b hb e=>same b hb (by omega)⟩,fun b hb hf=>by simp only[if_neg (Nat.not_lt.2 hb),hf,if_true]⟩;refine ar.AQ (rv:=L.rv) h sp.size (fun b hb _ _=>if_pos hb) (fun b hb _ h1 _=>same b hb h1) ((same _ (Cn.1 h.wbk).1 (by rw[h.wbc];omega)).trans h.wbk) ?_;refine⟨fun b=>if b<w.heap.size then c2 b else if d'.far st.n b then 0 else 1,d',avs,bus,fus,hI'.thin (fun b hb=>?_) (fun i b hi hf=>?_),fun b hl hc=>?_⟩
 ·by_cases hl:b<w.heap.size
  ·simp only[hl,if_true]
  simp only[hl,if_false,ne_eq,not_true]at hb
 ·by_cases hl:b<w.heap.size
  ·have:=hI'.foot i b hi hf;simp only[hl,if_true]at this ⊢;exact this
  have hnf:¬ d'.far st.n b:=fun hx=>hx i hi hf
  simp only[hl,if_false,hnf]
 by_cases hb:b<w.heap.size
 ·simp only[hb,if_true]at hc ⊢;exact hF b hb hc
 by_cases hx:d'.far st.n b
 ·simp only[hb,if_false,hx,if_true,ne_eq,not_true]at hc
 simp only[hb,if_false,hx]
theorem xy(h:ar (aB LB NB) w c L st)(ho:bN w0 c w)(hg:bH w0){k:Nat}(hk:k<st.n)(hrb:st.rbs[k]?=some rb):Calls Tryz.prog 29 #[.pointer (some ⟨rb,0,none⟩)] w fun e w'=>∃fv os Ls s' c',e=.returned fv∧cV w.heap.size fv os w'∧os.length≤65∧er (fun(o:Nat×Value×List UInt8) (L:Lt)=>o.1=L.dst∧Bears L o.2.2) os Ls∧dU st.n k (st.q.S k) s' Ls∧ar (aB LB NB) w' c' L {st with q:={st.q with S:=bR st.q.S k s'}}∧aG w c w' c'∧(∀b,fv.ownBlock=some b→c' b=0)∧∀o∈os,∀b,o.2.1.ownBlock=some b→c' b=0:=by
 obtain⟨c2,d,avs,bus,fus,hI,hF,hN⟩:=h.AZ ho;have e:rb=d.rb k:=by
  have:=hI.rbl k hk;rw[hrb]at this
  simpa using this
 rw[e];refine(xA hN hg hk).mono ?_;rintro e w' ⟨fv,os,Ls,s',d',rfl,hout,hlen,hboth,hft,hN',sp,hf1,hf2⟩
 obtain⟨c',hm,hst,hnew⟩:=h.Bu hI hF hN' sp;exact⟨fv,os,Ls,s',c',rfl,hout,hlen,hboth,hft,hm,hst,fun b hb=>hnew b (hout.row.lt b hb).1 (hf1 b hb),fun o ho b hb=>hnew b ((hout.each o ho).lt b hb).1 (hf2 o ho b hb)⟩
end
theorem oD{P:α→β→Prop}{ls:List α}{bs:List β}(hl:ls.length=bs.length)(h:∀i (h1:i<ls.length) (h2:i<bs.length),P ls[i] bs[i]){a1 a2 a3 a4:α}{b1 b2 b3 b4:β}(p1:P a1 b1)(p2:P a2 b2)(p3:P a3 b3)(p4:P a4 b4):∀i (h1:i<(ls++[a1,a2,a3,a4]).length) (h2:i<(bs++[b1,b2,b3,b4]).length),P (ls++[a1,a2,a3,a4])[i] (bs++[b1,b2,b3,b4])[i]:=fun i h1 h2=>by
 by_cases hi:i<ls.length
 ·rw[Df hi,Df (by omega)];exact h i hi (by omega)
 simp only[Cz,CR,Dh]at h1;obtain⟨t,rfl⟩:∃t,i=ls.length+t:=⟨i-ls.length,by omega⟩
 have e1:∀x,[a1,a2,a3,a4][t]?=some x→(ls++[a1,a2,a3,a4])[ls.length+t]=x:=fun x hx=>by
  have:(ls++[a1,a2,a3,a4])[ls.length+t]?=some x:=by
   rw[C5 (by omega),DM];exact hx
  rw[Cr (by simp;omega)]at this;exact Option.some.inj this
 have e2:∀x,[b1,b2,b3,b4][t]?=some x→(bs++[b1,b2,b3,b4])[ls.length+t]=x:=fun x hx=>by
  have:(bs++[b1,b2,b3,b4])[ls.length+t]?=some x:=by
   rw[C5 (by omega),hl,DM];exact hx
  rw[Cr (by simp;omega)]at this;exact Option.some.inj this
 rcases(show t=0∨t=1∨t=2∨t=3 by omega) with rfl|rfl|rfl|rfl
 ·rw[e1 a1 rfl,e2 b1 rfl];exact p1
 ·rw[e1 a2 rfl,e2 b2 rfl];exact p2
 ·rw[e1 a3 rfl,e2 b3 rfl];exact p3
 rw[e1 a4 rfl,e2 b4 rfl];exact p4
theorem aJ.blk{w:World}{k:Nat}(h:aJ w u (m+1) k)(hb:u.ownBlock=some b):b<w.heap.size:=by
 obtain⟨p,cap,rfl,hc⟩:=h;obtain⟨g,rfl,c0⟩:=hc 0 (by omega);have:=Cy w _ c0;simp only[Cp,Dk,Option.some.injEq]at hb;rw[←hb];exact this
theorem aI.blk{w:World}{k:Int}(h:aI w u (m+1) k)(hb:u.ownBlock=some b):b<w.heap.size:=by
 obtain⟨p,cap,rfl,hc⟩:=h;obtain⟨g,rfl,c0,-⟩:=hc 0 (by omega);have:=Cy w _ c0;simp only[Cp,Dk,Option.some.injEq]at hb;rw[←hb];exact this
section
variable {LB NB:Nat} {w w':World} {n:Nat} {rbs:List Nat} {rv:cX} {q:Qn} {c:Nat→Nat} {d:cU} {avs bus fus:List Value}
def fZ(w:World)(c:Nat→Nat)(v osv kov:Value):Nat→Nat:=fun b=>if b<w.heap.size then(if v.ownBlock=some b then 6 else c b) else if osv.ownBlock=some b then 4 else if kov.ownBlock=some b then 5 else 6
theorem dZ.bytes(h:dZ LB NB w n rbs rv q c d avs bus fus){mk:Nat}(hvl:∀b,v.ownBlock=some b→b<w.heap.size)(hvc:∀b,v.ownBlock=some b→c b=0)(hwb:c wb=0)(pos:w'.ownsRow 0 55 1 osv' (q.bb.length+4) (bus++[v,g,hh,j]))(pko:w'.ownsRow 0 3 1 kov' (q.bb.length+4) ((q.bb.map fun e=>Value.int .i64 (e.2:Int))++[.int .i64 (mk:Int),.int .i64 (mk:Int),.int .i64 (mk:Int),.int .i64 (mk:Int)]))(m1:aJ w' v m mk)(m2:aJ w' g (m+1) mk)(m3:aJ w' hh (m+2) mk)(m4:aJ w' j (m+3) mk)(up:an [some wb,rv.bsv.ownBlock,rv.kbv.ownBlock,v.ownBlock] w w')(nos:∀b,osv'.ownBlock=some b→rv.bsv.ownBlock=some b∨w.heap.size≤b)(nko:∀b,kov'.ownBlock=some b→rv.kbv.ownBlock=some b∨w.heap.size≤b)(ng:∀b,g.ownBlock=some b→v.ownBlock=some b∨w.heap.size≤b)(nh:∀b,hh.ownBlock=some b→v.ownBlock=some b∨w.heap.size≤b)(nj:∀b,j.ownBlock=some b→v.ownBlock=some b∨w.heap.size≤b)(dos:∀b,osv'.ownBlock=some b→kov'.ownBlock≠some b∧∀x∈[v,g,hh,j],x.ownBlock≠some b)(dko:∀b,kov'.ownBlock=some b→∀x∈[v,g,hh,j],x.ownBlock≠some b)(hm3:m+3≤maxLen)(hmk:mk<256):dZ LB NB w' n rbs {rv with bsv:=osv',kbv:=kov'} {q with bb:=q.bb++[(m,mk),(m+1,mk),(m+2,mk),(m+3,mk)]} (fZ w c v osv' kov') d avs (bus++[v,g,hh,j]) fus:=by
 have hc:∀b,b<w.heap.size→c b≠0→fZ w c v osv' kov' b=c b:=fun b hb h0=>by
  unfold fZ;rw[if_pos hb,if_neg (fun e=>h0 (hvc b e))]
 have same:∀b,b<w.heap.size→c b≠0→c b≠4→c b≠5→w'.heap[b]?=w.heap[b]?:=fun b hb h0 h4 h5=>up.block b hb fun hm=>by
  simp only[Co,Cq,or_false,Option.some.injEq]at hm;rcases hm with hm|hm|hm|hm
  ·rw[hm]at h0;exact h0 hwb
  ·exact h4 (h.bvc b hm.symm)
  ·exact h5 (h.bkc b hm.symm)
  exact h0 (hvc b hm.symm)
 have cnew:∀x∈[v,g,hh,j],∀b,x.ownBlock=some b→(v.ownBlock=some b∨w.heap.size≤b)→fZ w c v osv' kov' b=6:=fun x hx b hb hn=>by
  unfold fZ;by_cases hl:b<w.heap.size
  ·rcases hn with hn|hn
   ·rw[if_pos hl,if_pos hn]
   omega
  rw[if_neg hl,if_neg (fun e=>(dos b e).2 x hx hb),if_neg (fun e=>dko b e x hx hb)]
 have bul:q.bb.length=bus.length:=by
  have:=h.brow.1;omega
 have e:∀b,b<w.heap.size→c b≠0→fZ w c v osv' kov' b=c b:=hc
 exact
  {rbl:=h.rbl
   net:=h.net.same fun i b hi hl hf=>by
    have:=h.foot i b hi hf;exact same b hl (by omega) (by omega) (by omega)
   ok:=h.ok
   fit:=h.fit
   foot:=fun i b hi hf=>by
    have:=h.foot i b hi hf;rw[hc b (h.net.lt hi hf) (by omega)];exact this
   arow:=aN h.arow fun b hb hl=>by
    have:=h.avc b hb;exact same b hl (by omega) (by omega) (by omega)
   avc:=fun b hb=>by
    have:=h.avc b hb;rw[hc b (h.arow.lt b hb).2 (by omega)];exact this
   alen:=h.alen
   adat:=fun i h1 h2=>⟨aN (h.adat i h1 h2).1 fun b hb hl=>by
    have:=(h.adat i h1 h2).2 b hb;exact same b hl (by omega) (by omega) (by omega),fun b hb=>by
    have:=(h.adat i h1 h2).2 b hb;rw[hc b ((h.adat i h1 h2).1.lt b hb).2 (by omega)];exact this⟩
   brow:=by simpa using pos
   bvc:=fun b hb=>by
    rcases nos b hb with h1|h1
    ·have:=h.bvc b h1;rw[hc b (h.brow.lt b h1).2 (by omega)];exact this
    unfold fZ;rw[if_neg (by omega),if_pos hb]
   bkrow:=by simpa using pko
   bkc:=fun b hb=>by
    rcases nko b hb with h1|h1
    ·have:=h.bkc b h1;rw[hc b (h.bkrow.lt b h1).2 (by omega)];exact this
    unfold fZ;rw[if_neg (by omega),if_neg (fun e=>(dos b e).1 hb),if_pos hb]
   bmarks:=oD (P:=fun(e:Nat×Nat) (u:Value)=>aJ w' u e.1 e.2∧∀b,u.ownBlock=some b→fZ w c v osv' kov' b=6∧b<w'.heap.size) bul (fun i h1 h2=>by
     obtain⟨a1,a2⟩:=h.bmarks i h1 h2;refine⟨a1.same fun b hb hl=>?_,fun b hb=>?_⟩
     ·have:=(a2 b hb).1;exact same b hl (by omega) (by omega) (by omega)
     have:=a2 b hb;exact⟨(hc b this.2 (by omega)).trans this.1,CG this.2 up.size⟩) ⟨m1,fun b hb=>⟨cnew v (by simp) b hb (.inl hb),CG (hvl b hb) up.size⟩⟩ ⟨m2,fun b hb=>⟨cnew g (by simp) b hb (ng b hb),m2.blk hb⟩⟩ ⟨m3,fun b hb=>⟨cnew hh (by simp) b hb (nh b hb),m3.blk hb⟩⟩ ⟨m4,fun b hb=>⟨cnew j (by simp) b hb (nj b hb),m4.blk hb⟩⟩
   frow:=aN h.frow fun b hb hl=>by
    have:=h.fvc b hb;exact same b hl (by omega) (by omega) (by omega)
   fvc:=fun b hb=>by
    have:=h.fvc b hb;rw[hc b (h.frow.lt b hb).2 (by omega)];exact this
   fkrow:=aN h.fkrow fun b hb hl=>by
    have:=h.fkc b hb;exact same b hl (by omega) (by omega) (by omega)
   fkc:=fun b hb=>by
    have:=h.fkc b hb;rw[hc b (h.fkrow.lt b hb).2 (by omega)];exact this
   fmarks:=fun i h1 h2=>⟨(h.fmarks i h1 h2).1.same fun b hb hl=>by
    have:=((h.fmarks i h1 h2).2 b hb).1;exact same b hl (by omega) (by omega) (by omega),fun b hb=>by
    have:=(h.fmarks i h1 h2).2 b hb;exact⟨(hc b this.2 (by omega)).trans this.1,CG this.2 up.size⟩⟩
   bbm:=fun e he=>by
    rcases CP.1 he with he|he
    ·exact h.bbm e he
    simp only[Co,Cq,or_false]at he;rcases he with rfl|rfl|rfl|rfl <;> exact⟨by simp only;omega,hmk⟩
   bfm:=h.bfm}
def fc(w:World)(c:Nat→Nat)(v osv kov:Value):Nat→Nat:=fun b=>if b<w.heap.size then(if v.ownBlock=some b then 9 else c b) else if osv.ownBlock=some b then 7 else if kov.ownBlock=some b then 8 else 9
theorem dZ.AV(h:dZ LB NB w n rbs rv q c d avs bus fus){mk:Int}(hvl:∀b,v.ownBlock=some b→b<w.heap.size)(hvc:∀b,v.ownBlock=some b→c b=0)(hwb:c wb=0)(pos:w'.ownsRow 0 64 1 osv' (q.bf.length+4) (fus++[v,g,hh,j]))(pko:w'.ownsRow 0 3 1 kov' (q.bf.length+4) ((q.bf.map fun e=>Value.int .i64 e.2)++[.int .i64 mk,.int .i64 mk,.int .i64 mk,.int .i64 mk]))(m1:aI w' v m mk)(m2:aI w' g (m+1) mk)(m3:aI w' hh (m+2) mk)(m4:aI w' j (m+3) mk)(up:an [some wb,rv.fsv.ownBlock,rv.kfv.ownBlock,v.ownBlock] w w')(nos:∀b,osv'.ownBlock=some b→rv.fsv.ownBlock=some b∨w.heap.size≤b)(nko:∀b,kov'.ownBlock=some b→rv.kfv.ownBlock=some b∨w.heap.size≤b)(ng:∀b,g.ownBlock=some b→v.ownBlock=some b∨w.heap.size≤b)(nh:∀b,hh.ownBlock=some b→v.ownBlock=some b∨w.heap.size≤b)(nj:∀b,j.ownBlock=some b→v.ownBlock=some b∨w.heap.size≤b)(dos:∀b,osv'.ownBlock=some b→kov'.ownBlock≠some b∧∀x∈[v,g,hh,j],x.ownBlock≠some b)(dko:∀b,kov'.ownBlock=some b→∀x∈[v,g,hh,j],x.ownBlock≠some b)(hm3:m+3≤maxLen):dZ LB NB w' n rbs {rv with fsv:=osv',kfv:=kov'} {q with bf:=q.bf++[(m,mk),(m+1,mk),(m+2,mk),(m+3,mk)]} (fc w c v osv' kov') d avs bus (fus++[v,g,hh,j]):=by
 have hc:∀b,b<w.heap.size→c b≠0→fc w c v osv' kov' b=c b:=fun b hb h0=>by
  unfold fc;rw[if_pos hb,if_neg (fun e=>h0 (hvc b e))]
 have same:∀b,b<w.heap.size→c b≠0→c b≠7→c b≠8→w'.heap[b]?=w.heap[b]?:=fun b hb h0 h4 h5=>up.block b hb fun hm=>by
  simp only[Co,Cq,or_false,Option.some.injEq]at hm;rcases hm with hm|hm|hm|hm
  ·rw[hm]at h0;exact h0 hwb
  ·exact h4 (h.fvc b hm.symm)
  ·exact h5 (h.fkc b hm.symm)
  exact h0 (hvc b hm.symm)
 have cnew:∀x∈[v,g,hh,j],∀b,x.ownBlock=some b→(v.ownBlock=some b∨w.heap.size≤b)→fc w c v osv' kov' b=9:=fun x hx b hb hn=>by
  unfold fc;by_cases hl:b<w.heap.size
  ·rcases hn with hn|hn
   ·rw[if_pos hl,if_pos hn]
   omega
  rw[if_neg hl,if_neg (fun e=>(dos b e).2 x hx hb),if_neg (fun e=>dko b e x hx hb)]
 have bul:q.bf.length=fus.length:=by
  have:=h.frow.1;omega
 have e:∀b,b<w.heap.size→c b≠0→fc w c v osv' kov' b=c b:=hc
 exact
  {rbl:=h.rbl
   net:=h.net.same fun i b hi hl hf=>by
    have:=h.foot i b hi hf;exact same b hl (by omega) (by omega) (by omega)
   ok:=h.ok
   fit:=h.fit
   foot:=fun i b hi hf=>by
    have:=h.foot i b hi hf;rw[hc b (h.net.lt hi hf) (by omega)];exact this
   arow:=aN h.arow fun b hb hl=>by
    have:=h.avc b hb;exact same b hl (by omega) (by omega) (by omega)
   avc:=fun b hb=>by
    have:=h.avc b hb;rw[hc b (h.arow.lt b hb).2 (by omega)];exact this
   alen:=h.alen
   adat:=fun i h1 h2=>⟨aN (h.adat i h1 h2).1 fun b hb hl=>by
    have:=(h.adat i h1 h2).2 b hb;exact same b hl (by omega) (by omega) (by omega),fun b hb=>by
    have:=(h.adat i h1 h2).2 b hb;rw[hc b ((h.adat i h1 h2).1.lt b hb).2 (by omega)];exact this⟩
   frow:=by simpa using pos
   fvc:=fun b hb=>by
    rcases nos b hb with h1|h1
    ·have:=h.fvc b h1;rw[hc b (h.frow.lt b h1).2 (by omega)];exact this
    unfold fc;rw[if_neg (by omega),if_pos hb]
   fkrow:=by simpa using pko
   fkc:=fun b hb=>by
    rcases nko b hb with h1|h1
    ·have:=h.fkc b h1;rw[hc b (h.fkrow.lt b h1).2 (by omega)];exact this
    unfold fc;rw[if_neg (by omega),if_neg (fun e=>(dos b e).1 hb),if_pos hb]
   fmarks:=oD (P:=fun(e:Nat×Int) (u:Value)=>aI w' u e.1 e.2∧∀b,u.ownBlock=some b→fc w c v osv' kov' b=9∧b<w'.heap.size) bul (fun i h1 h2=>by
     obtain⟨a1,a2⟩:=h.fmarks i h1 h2;refine⟨a1.same fun b hb hl=>?_,fun b hb=>?_⟩
     ·have:=(a2 b hb).1;exact same b hl (by omega) (by omega) (by omega)
     have:=a2 b hb;exact⟨(hc b this.2 (by omega)).trans this.1,CG this.2 up.size⟩) ⟨m1,fun b hb=>⟨cnew v (by simp) b hb (.inl hb),CG (hvl b hb) up.size⟩⟩ ⟨m2,fun b hb=>⟨cnew g (by simp) b hb (ng b hb),m2.blk hb⟩⟩ ⟨m3,fun b hb=>⟨cnew hh (by simp) b hb (nh b hb),m3.blk hb⟩⟩ ⟨m4,fun b hb=>⟨cnew j (by simp) b hb (nj b hb),m4.blk hb⟩⟩
   brow:=aN h.brow fun b hb hl=>by
    have:=h.bvc b hb;exact same b hl (by omega) (by omega) (by omega)
   bvc:=fun b hb=>by
    have:=h.bvc b hb;rw[hc b (h.brow.lt b hb).2 (by omega)];exact this
   bkrow:=aN h.bkrow fun b hb hl=>by
    have:=h.bkc b hb;exact same b hl (by omega) (by omega) (by omega)
   bkc:=fun b hb=>by
    have:=h.bkc b hb;rw[hc b (h.bkrow.lt b hb).2 (by omega)];exact this
   bmarks:=fun i h1 h2=>⟨(h.bmarks i h1 h2).1.same fun b hb hl=>by
    have:=((h.bmarks i h1 h2).2 b hb).1;exact same b hl (by omega) (by omega) (by omega),fun b hb=>by
    have:=(h.bmarks i h1 h2).2 b hb;exact⟨(hc b this.2 (by omega)).trans this.1,CG this.2 up.size⟩⟩
   bbm:=h.bbm
   bfm:=fun e he=>by
    rcases CP.1 he with he|he
    ·exact h.bfm e he
    simp only[Co,Cq,or_false]at he;rcases he with rfl|rfl|rfl|rfl <;> (simp only;omega)}
end
structure xO(w:World)(c:Nat→Nat)(ov:Option Nat)(w':World)(c':Nat→Nat):Prop where
 os:w'.os=w.os
 tape:w'.tape=w.tape
 output:w'.output=w.output
 size:w.heap.size≤w'.heap.size
 col:∀b,b<w.heap.size→ov≠some b→c' b=c b
 zero:∀b,b<w.heap.size→ov≠some b→c b=0→w'.heap[b]?=w.heap[b]?
theorem xO.after{w0 w w':World}{c0 c c':Nat→Nat}{ov:Option Nat}(h:xO w c ov w' c')(s:aG w0 c0 w c)(hb:∀b,ov=some b→w0.heap.size≤b):aG w0 c0 w' c':=⟨h.os.trans s.os,h.tape.trans s.tape,h.output.trans s.output,CC s.size h.size,fun b hl=>(h.col b (CG hl s.size) fun e=>by have:=hb b e;omega).trans (s.col b hl),fun b hl h0=>(h.zero b (CG hl s.size) (fun e=>by have:=hb b e;omega) ((s.col b hl).trans h0)).trans (s.zero b hl h0)⟩
section
variable {w:World} {LB NB:Nat} {c:Nat→Nat} {L:aC} {st:aS Qn}
theorem yW(h:ar (aB LB NB) w c L st)(hv:w.ownsRow 0 5 1 (.slice p m cap) m xs)(hvc:∀b,(Value.slice p m cap).ownBlock=some b→c b=0)(hN:st.q.bb.length≤100000000000)(hm:m≤100000000000):Calls Tryz.prog 68 #[.pointer (some ⟨L.wb,8,none⟩),.slice p m cap] w fun e w'=>e=.returned (.tuple #[])∧∃c' rv' bb',bb'.length=st.q.bb.length+4∧rv'.av=L.rv.av∧ar (aB LB NB) w' c' {L with rv:=rv'} {st with q:={st.q with bb:=bb'}}∧xO w c (Value.slice p m cap).ownBlock w' c':=by
 obtain⟨c2,d,avs,bus,fus,hI,hF⟩:=id h.rest;have hn:=h.npos;have wl:=(Cn.1 h.wbk).1;have c2w:c2 L.wb=0:=by
  by_cases e:c2 L.wb=0
  ·exact e
  have h1:c L.wb=20:=hF _ wl e;rw[h.wbc]at h1
  omega
 have c2v:∀b,(Value.slice p m cap).ownBlock=some b→c2 b=0:=fun b hb=>by
  by_cases e:c2 b=0
  ·exact e
  have h1:c b=20:=hF _ (hv.lt b hb).2 e;rw[hvc b hb]at h1
  omega
 have d1:L.rv.bsv.ownBlock≠some L.wb:=fun e=>by have:=hI.bvc _ e;omega
 have d2:L.rv.kbv.ownBlock≠some L.wb:=fun e=>by have:=hI.bkc _ e;omega
 have d3:∀k,L.rv.bsv.ownBlock=some k→L.rv.kbv.ownBlock≠some k:=fun k e e'=>by have:=hI.bvc _ e;have:=hI.bkc _ e';omega
 have d4:(Value.slice p m cap).ownBlock≠some L.wb:=fun e=>by have:=hvc _ e;rw[h.wbc]at this;omega
 have d5:∀k,(Value.slice p m cap).ownBlock=some k→L.rv.bsv.ownBlock≠some k∧L.rv.kbv.ownBlock≠some k:=fun k e=>⟨fun e'=>by have:=hI.bvc _ e';have:=c2v _ e;omega,fun e'=>by have:=hI.bkc _ e';have:=c2v _ e;omega⟩
 obtain⟨mk,hmk⟩:∃mk,mk=(st.q.bb.length / 4*37+1) % 256:=⟨_,rfl⟩
 refine(yX L.wb (L.C st.n st.sp) 82 L.rv.bsv L.rv.kbv st.q.bb.length bus _ p m cap xs w h.wbk rfl rfl rfl hI.brow hI.bkrow hv d1 d2 d3 d4 d5 hN hm mk hmk).mono ?_;rintro e w' ⟨rfl,osv',kov',g,hh,j,hwb',pos,pko,m1,m2,m3,m4,up,nos,nko,ng,nh,nj,dos,dko⟩
 refine⟨rfl,fun b=>if b<w.heap.size then(if(Value.slice p m cap).ownBlock=some b then 20 else c b) else 20,{L.rv with bsv:=osv',kbv:=kov'},st.q.bb++[(m,mk),(m+1,mk),(m+2,mk),(m+3,mk)],by simp,rfl,?_,up.os,up.tape,up.output,up.size,fun b hb hn=>?_,fun b hb hn h0=>?_⟩
 ·refine ar.AQ h up.size (fun b hb h0 h20=>?_) (fun b hb h0 h20 h1=>?_) ?_ ?_
  ·simp only[hb,if_true];rw[if_neg fun e=>h0 (hvc b e)]
  ·refine up.block b hb fun hm=>?_
   simp only[Co,Cq,or_false,Option.some.injEq]at hm;rcases hm with hm|hm|hm|hm
   ·rw[hm,h.wbc]at h1;omega
   ·exact h20 (hF b hb (by rw[hI.bvc b hm.symm];omega))
   ·exact h20 (hF b hb (by rw[hI.bkc b hm.symm];omega))
   exact h0 (hvc b hm.symm)
  ·rw[hwb'];simp[aC.C]
  refine⟨_,d,avs,_,fus,hI.bytes (fun b hb=>(hv.lt b hb).2) c2v c2w pos pko m1 m2 m3 m4 up nos nko ng nh nj dos dko (by unfold maxLen;omega) (by rw[hmk];omega),fun b hl hc=>?_⟩;by_cases hb:b<w.heap.size
  ·simp only[fZ,hb,if_true]at hc ⊢;by_cases e:(Value.slice p m cap).ownBlock=some b
   ·rw[if_pos e]
   rw[if_neg e]at hc ⊢;exact hF b hb hc
  simp only[hb,if_false]
 ·simp only[hb,if_true];rw[if_neg hn]
 refine up.block b hb fun hm=>?_
 simp only[Co,Cq,or_false,Option.some.injEq]at hm;rcases hm with hm|hm|hm|hm
 ·rw[hm,h.wbc]at h0;omega
 ·have h2:c b=20:=hF b hb (by rw[hI.bvc b hm.symm];omega);omega
 ·have h2:c b=20:=hF b hb (by rw[hI.bkc b hm.symm];omega);omega
 exact hn hm.symm
theorem yY(h:ar (aB LB NB) w c L st)(hv:w.ownsRow 0 57 2 (.slice p m cap) m xs)(hvc:∀b,(Value.slice p m cap).ownBlock=some b→c b=0)(hN:st.q.bf.length≤100000000000)(hm:m≤100000000000):Calls Tryz.prog 69 #[.pointer (some ⟨L.wb,8,none⟩),.slice p m cap] w fun e w'=>e=.returned (.tuple #[])∧∃c' rv' bf',bf'.length=st.q.bf.length+4∧rv'.av=L.rv.av∧ar (aB LB NB) w' c' {L with rv:=rv'} {st with q:={st.q with bf:=bf'}}∧xO w c (Value.slice p m cap).ownBlock w' c':=by
 obtain⟨c2,d,avs,bus,fus,hI,hF⟩:=id h.rest;have hn:=h.npos;have wl:=(Cn.1 h.wbk).1;have c2w:c2 L.wb=0:=by
  by_cases e:c2 L.wb=0
  ·exact e
  have h1:c L.wb=20:=hF _ wl e;rw[h.wbc]at h1
  omega
 have c2v:∀b,(Value.slice p m cap).ownBlock=some b→c2 b=0:=fun b hb=>by
  by_cases e:c2 b=0
  ·exact e
  have h1:c b=20:=hF _ (hv.lt b hb).2 e;rw[hvc b hb]at h1
  omega
 have d1:L.rv.fsv.ownBlock≠some L.wb:=fun e=>by have:=hI.fvc _ e;omega
 have d2:L.rv.kfv.ownBlock≠some L.wb:=fun e=>by have:=hI.fkc _ e;omega
 have d3:∀k,L.rv.fsv.ownBlock=some k→L.rv.kfv.ownBlock≠some k:=fun k e e'=>by have:=hI.fvc _ e;have:=hI.fkc _ e';omega
 have d4:(Value.slice p m cap).ownBlock≠some L.wb:=fun e=>by have:=hvc _ e;rw[h.wbc]at this;omega
 have d5:∀k,(Value.slice p m cap).ownBlock=some k→L.rv.fsv.ownBlock≠some k∧L.rv.kfv.ownBlock≠some k:=fun k e=>⟨fun e'=>by have:=hI.fvc _ e';have:=c2v _ e;omega,fun e'=>by have:=hI.fkc _ e';have:=c2v _ e;omega⟩
 refine(xB L.wb (L.C st.n st.sp) 82 L.rv.fsv L.rv.kfv st.q.bf.length fus _ p m cap xs w h.wbk rfl rfl rfl hI.frow hI.fkrow hv d1 d2 d3 d4 d5 hN hm).mono ?_;rintro e w' ⟨rfl,osv',kov',g,hh,j,hwb',pos,pko,m1,m2,m3,m4,up,nos,nko,ng,nh,nj,dos,dko⟩
 refine⟨rfl,fun b=>if b<w.heap.size then(if(Value.slice p m cap).ownBlock=some b then 20 else c b) else 20,{L.rv with fsv:=osv',kfv:=kov'},st.q.bf++[(m,-1-(st.q.bf.length:Int)),(m+1,-1-(st.q.bf.length:Int)),(m+2,-1-(st.q.bf.length:Int)),(m+3,-1-(st.q.bf.length:Int))],by simp,rfl,?_,up.os,up.tape,up.output,up.size,fun b hb hn=>?_,fun b hb hn h0=>?_⟩
 ·refine ar.AQ h up.size (fun b hb h0 h20=>?_) (fun b hb h0 h20 h1=>?_) ?_ ?_
  ·simp only[hb,if_true];rw[if_neg fun e=>h0 (hvc b e)]
  ·refine up.block b hb fun hm=>?_
   simp only[Co,Cq,or_false,Option.some.injEq]at hm;rcases hm with hm|hm|hm|hm
   ·rw[hm,h.wbc]at h1;omega
   ·exact h20 (hF b hb (by rw[hI.fvc b hm.symm];omega))
   ·exact h20 (hF b hb (by rw[hI.fkc b hm.symm];omega))
   exact h0 (hvc b hm.symm)
  ·rw[hwb'];simp[aC.C]
  refine⟨_,d,avs,bus,_,hI.AV (fun b hb=>(hv.lt b hb).2) c2v c2w pos pko m1 m2 m3 m4 up nos nko ng nh nj dos dko (by unfold maxLen;omega),fun b hl hc=>?_⟩;by_cases hb:b<w.heap.size
  ·simp only[fc,hb,if_true]at hc ⊢;by_cases e:(Value.slice p m cap).ownBlock=some b
   ·rw[if_pos e]
   rw[if_neg e]at hc ⊢;exact hF b hb hc
  simp only[hb,if_false]
 ·simp only[hb,if_true];rw[if_neg hn]
 refine up.block b hb fun hm=>?_
 simp only[Co,Cq,or_false,Option.some.injEq]at hm;rcases hm with hm|hm|hm|hm
 ·rw[hm,h.wbc]at h0;omega
 ·have h2:c b=20:=hF b hb (by rw[hI.fvc b hm.symm];omega);omega
 ·have h2:c b=20:=hF b hb (by rw[hI.fkc b hm.symm];omega);omega
 exact hn hm.symm
end
theorem wS{P:α→β→Prop}{ls:List α}{bs:List β}(hl:ls.length=bs.length)(h:∀i (h1:i<ls.length) (h2:i<bs.length),P ls[i] bs[i]){a1:α}{b1:β}(p1:P a1 b1):∀i (h1:i<(ls++[a1]).length) (h2:i<(bs++[b1]).length),P (ls++[a1])[i] (bs++[b1])[i]:=fun i h1 h2=>by
 by_cases hi:i<ls.length
 ·rw[Df hi,Df (by omega)];exact h i hi (by omega)
 simp only[Cz,CR,Dh]at h1;obtain rfl:i=ls.length:=by omega
 rw[List.getElem_append_right (by omega),List.getElem_append_right (by omega)];simpa using p1
theorem kA{air:List (Nat×Nat×List UInt8)}{avs:List Value}(hl:avs.length=air.length)(a:Nat×Nat×List UInt8)(v:Value):au (air++[a]) (avs++[v])=au air avs++[.int .i64 (a.1:Int),.int .i64 (a.2.1:Int),v]:=by
 unfold au;rw[List.zip_append hl.symm,List.flatMap_append];simp
section
variable {LB NB:Nat} {w w':World} {n:Nat} {rbs:List Nat} {rv:cX} {q:Qn} {c:Nat→Nat} {d:cU} {avs bus fus:List Value}
def um(w:World)(c:Nat→Nat)(av dv:Value):Nat→Nat:=fun b=>if b<w.heap.size then c b else if av.ownBlock=some b then 2 else if dv.ownBlock=some b then 3 else 0
theorem dZ.fly(h:dZ LB NB w n rbs rv q c d avs bus fus){k:Nat}{av' dv:Value}(hwb:c wb=0)(own5:w'.ownsRow 0 154 3 av' (q.air.length+1) (au q.air avs++[.int .i64 (k:Int),.int .i64 (ti:Int),dv]))(own1:w'.ownsRow 0 5 1 dv f.length (Lib.byteCells f))(up:an [some wb,rv.av.ownBlock] w w')(n5:∀b,av'.ownBlock=some b→rv.av.ownBlock=some b∨w.heap.size≤b)(n1:∀b,dv.ownBlock=some b→w.heap.size≤b):dZ LB NB w' n rbs {rv with av:=av'} {q with air:=q.air++[(k,ti,f)]} (um w c av' dv) d (avs++[dv]) bus fus:=by
 have hc:∀b,b<w.heap.size→um w c av' dv b=c b:=fun b hb=>if_pos hb
 have same:∀b,b<w.heap.size→c b≠0→c b≠2→w'.heap[b]?=w.heap[b]?:=fun b hb h0 h2=>up.block b hb fun hm=>by
  simp only[Co,Cq,or_false,Option.some.injEq]at hm;rcases hm with hm|hm
  ·rw[hm]at h0;exact h0 hwb
  exact h2 (h.avc b hm.symm)
 exact
  {rbl:=h.rbl
   net:=h.net.same fun i b hi hl hf=>by
    have:=h.foot i b hi hf;exact same b hl (by omega) (by omega)
   ok:=h.ok
   fit:=h.fit
   foot:=fun i b hi hf=>(hc b (h.net.lt hi hf)).trans (h.foot i b hi hf)
   arow:=by
    rw[kA h.alen];simpa using own5
   avc:=fun b hb=>by
    rcases n5 b hb with h1|h1
    ·exact(hc b (h.arow.lt b h1).2).trans (h.avc b h1)
    unfold um;rw[if_neg (by omega),if_pos hb]
   alen:=by simp[h.alen]
   adat:=wS (P:=fun(v:Value) (a:Nat×Nat×List UInt8)=>w'.ownsRow 0 5 1 v a.2.2.length (Lib.byteCells a.2.2)∧∀b,v.ownBlock=some b→um w c av' dv b=3) h.alen (fun i h1 h2=>by
     obtain⟨a1,a2⟩:=h.adat i h1 h2;refine⟨aN a1 fun b hb hl=>?_,fun b hb=>(hc b (a1.lt b hb).2).trans (a2 b hb)⟩;have:=a2 b hb;exact same b hl (by omega) (by omega)) ⟨own1,fun b hb=>by
     have hx:=n1 b hb;unfold um;rw[if_neg (by omega),if_neg (vc own1 own5 (by decide) hb),if_pos hb]⟩
   brow:=aN h.brow fun b hb hl=>by
    have:=h.bvc b hb;exact same b hl (by omega) (by omega)
   bvc:=fun b hb=>(hc b (h.brow.lt b hb).2).trans (h.bvc b hb)
   bkrow:=aN h.bkrow fun b hb hl=>by
    have:=h.bkc b hb;exact same b hl (by omega) (by omega)
   bkc:=fun b hb=>(hc b (h.bkrow.lt b hb).2).trans (h.bkc b hb)
   bmarks:=fun i h1 h2=>⟨(h.bmarks i h1 h2).1.same fun b hb hl=>by
    have:=((h.bmarks i h1 h2).2 b hb).1;exact same b hl (by omega) (by omega),fun b hb=>⟨(hc b ((h.bmarks i h1 h2).2 b hb).2).trans ((h.bmarks i h1 h2).2 b hb).1,CG ((h.bmarks i h1 h2).2 b hb).2 up.size⟩⟩
   frow:=aN h.frow fun b hb hl=>by
    have:=h.fvc b hb;exact same b hl (by omega) (by omega)
   fvc:=fun b hb=>(hc b (h.frow.lt b hb).2).trans (h.fvc b hb)
   fkrow:=aN h.fkrow fun b hb hl=>by
    have:=h.fkc b hb;exact same b hl (by omega) (by omega)
   fkc:=fun b hb=>(hc b (h.fkrow.lt b hb).2).trans (h.fkc b hb)
   fmarks:=fun i h1 h2=>⟨(h.fmarks i h1 h2).1.same fun b hb hl=>by
    have:=((h.fmarks i h1 h2).2 b hb).1;exact same b hl (by omega) (by omega),fun b hb=>⟨(hc b ((h.fmarks i h1 h2).2 b hb).2).trans ((h.fmarks i h1 h2).2 b hb).1,CG ((h.fmarks i h1 h2).2 b hb).2 up.size⟩⟩
   bbm:=h.bbm
   bfm:=h.bfm}
end
section
variable {w w':World} {LB NB:Nat} {c:Nat→Nat} {L:aC} {st:aS Qn}
theorem ar.air(h:ar (aB LB NB) w c L st):∃avs,avs.length=st.q.air.length∧w.ownsRow 0 154 3 L.rv.av st.q.air.length (au st.q.air avs)∧(∀b,L.rv.av.ownBlock=some b→c b=20)∧(∀i (h:i<avs.length) (h':i<st.q.air.length),w.ownsRow 0 5 1 avs[i] st.q.air[i].2.2.length (Lib.byteCells st.q.air[i].2.2)∧∀b,avs[i].ownBlock=some b→c b=20)∧∀w' k ti f av' dv,w'.os=w.os→w'.tape=w.tape→w'.output=w.output→w'.ownsRow 0 154 3 av' (st.q.air.length+1) (au st.q.air avs++[.int .i64 (k:Int),.int .i64 (ti:Int),dv])→w'.ownsRow 0 5 1 dv f.length (Lib.byteCells f)→an [some L.wb,L.rv.av.ownBlock] w w'→w'.heap[L.wb]?=some (.cells ((L.C st.n st.sp).setIfInBounds 4 av') 82 (0,0))→(∀b,av'.ownBlock=some b→L.rv.av.ownBlock=some b∨w.heap.size≤b)→(∀b,dv.ownBlock=some b→w.heap.size≤b)→∃c',ar (aB LB NB) w' c' {L with rv:={L.rv with av:=av'}} {st with q:={st.q with air:=st.q.air++[(k,ti,f)]}}∧aG w c w' c':=by
 obtain⟨c2,d,avs,bus,fus,hI,hF⟩:=id h.rest;have wl:=(Cn.1 h.wbk).1;have c2w:c2 L.wb=0:=by
  by_cases e:c2 L.wb=0
  ·exact e
  have h1:c L.wb=20:=hF _ wl e;rw[h.wbc]at h1
  omega
 refine⟨avs,hI.alen,hI.arow,fun b hb=>hF b (hI.arow.lt b hb).2 (by rw[hI.avc b hb];omega),fun i h1 h2=>⟨(hI.adat i h1 h2).1,fun b hb=>hF b ((hI.adat i h1 h2).1.lt b hb).2 (by rw[(hI.adat i h1 h2).2 b hb];omega)⟩,?_⟩;intro w' k ti f av' dv hos htape hout own5 own1 up hwb' n5 n1;have same:∀b,b<w.heap.size→c b≠20→c b≠1→w'.heap[b]?=w.heap[b]?:=fun b hb h20 h1=>up.block b hb fun hm=>by
  simp only[Co,Cq,or_false,Option.some.injEq]at hm;rcases hm with hm|hm
  ·rw[hm,h.wbc]at h1;omega
  exact h20 (hF b hb (by rw[hI.avc b hm.symm];omega))
 refine⟨fun b=>if b<w.heap.size then c b else 20,?_,hos,htape,hout,up.size,fun b hb=>if_pos hb,fun b hb h0=>same b hb (by omega) (by omega)⟩;refine ar.AQ h up.size (fun b hb _ _=>if_pos hb) (fun b hb _ h1 h2=>same b hb h1 h2) ?_ ?_
 ·rw[hwb'];simp[aC.C]
 refine⟨_,d,_,bus,fus,hI.fly c2w own5 own1 up n5 n1,fun b hl hc=>?_⟩;by_cases hb:b<w.heap.size
 ·simp only[um,hb,if_true]at hc ⊢;exact hF b hb hc
 simp only[hb,if_false]
end
theorem iD{w:World}{n:Nat}(h:w.ownsRow B e s v n xs):w.ownsRow 0 e s v n xs:=by
 refine⟨h.1,?_⟩;rcases h.2 with hn|⟨g,cap,cur,rfl,hb,rest⟩
 ·exact .inl hn
 exact .inr ⟨g,cap,cur,rfl,Nat.zero_le _,rest⟩
theorem dN{w:World}{n:Nat}(h:w.ownsRow B e s v n xs):∃p cap,v=.slice p n cap:=by
 rcases h.2 with⟨h1,h2⟩|⟨g,cap,cur,rfl,rest⟩
 ·exact⟨none,0,by rw[h1,h2]⟩
 exact⟨_,_,rfl⟩
section
variable {w W:World} {LB NB:Nat} {c:Nat→Nat} {L:aC} {st:aS Qn} {S':Nat→Sr} {k:Nat} {fv:Value} {os:List (Nat×Value×List UInt8)} {i:Nat}
def dP(k:Nat)(os:List (Nat×Value×List UInt8))(i:Nat):List (Nat×Nat×List UInt8):=(os.take i).map fun o=>(k,o.1,o.2.2)
theorem ji(k:Nat)(hi:i≤os.length):(dP k os i).length=i:=by
 unfold dP;rw[List.length_map,List.length_take];omega
theorem qD(k:Nat)(hi:i<os.length):dP k os (i+1)=dP k os i++[(k,os[i].1,os[i].2.2)]:=by
 unfold dP;rw[List.take_succ_eq_append_getElem hi,List.map_append]
 rfl
def xM(LB NB:Nat)(w:World)(c:Nat→Nat)(L:aC)(st:aS Qn)(S':Nat→Sr)(k:Nat)(fv:Value)(os:List (Nat×Value×List UInt8))(i:Nat)(W:World):Prop:=∃c' rv' bb',bb'.length=st.q.bb.length+4*i∧ar (aB LB NB) W c' {L with rv:=rv'} {st with q:=⟨S',st.q.air++dP k os i,bb',st.q.bf⟩}∧aG w c W c'∧W.ownsRow w.heap.size 57 2 fv os.length (cL os)∧(∀b,fv.ownBlock=some b→c' b=0)∧∀o∈os.drop i,W.ownsRow w.heap.size 5 1 o.2.1 o.2.2.length (Lib.byteCells o.2.2)∧∀b,o.2.1.ownBlock=some b→c' b=0
theorem xM.go(h:xM LB NB w c L st S' k fv os i W)(hi:i<os.length)(hap:∀o∈os,∀b,o.2.1.ownBlock=some b→fv.ownBlock≠some b)(hdi:os.Pairwise fun x y=>∀b,x.2.1.ownBlock=some b→y.2.1.ownBlock≠some b)(hN:st.q.bb.length+4*i≤100000000000)(hm:os[i].2.2.length≤200):∃rv avs,W.heap[L.wb]?=some (.cells (aC.C {L with rv:=rv} st.n st.sp) 82 (0,0))∧W.ownsRow 0 154 3 rv.av (st.q.air.length+i) (au (st.q.air++dP k os i) avs)∧rv.av.ownBlock≠some L.wb∧W.ownsRow w.heap.size 5 1 os[i].2.1 os[i].2.2.length (Lib.byteCells os[i].2.2)∧W.ownsRow w.heap.size 57 2 fv os.length (cL os)∧∀W9 av' dv,W9.os=W.os→W9.tape=W.tape→W9.output=W.output→W9.ownsRow 0 154 3 av' (st.q.air.length+i+1) (au (st.q.air++dP k os i) avs++[.int .i64 (k:Int),.int .i64 (os[i].1:Int),dv])→W9.ownsRow 0 5 1 dv os[i].2.2.length (Lib.byteCells os[i].2.2)→an [some L.wb,rv.av.ownBlock] W W9→W9.heap[L.wb]?=some (.cells ((aC.C {L with rv:=rv} st.n st.sp).setIfInBounds 4 av') 82 (0,0))→(∀b,av'.ownBlock=some b→rv.av.ownBlock=some b∨W.heap.size≤b)→(∀b,dv.ownBlock=some b→W.heap.size≤b)→Calls Tryz.prog 68 #[.pointer (some ⟨L.wb,8,none⟩),os[i].2.1] W9.drew fun e w'=>e=.returned (.tuple #[])∧xM LB NB w c L st S' k fv os (i+1) w':=by
 obtain⟨c',rv,bb,hbb,hM,hst,hrow,hfc,hdat⟩:=h;obtain⟨avs,hal,harow,hac,-,hgo⟩:=hM.air;have hlen:(st.q.air++dP k os i).length=st.q.air.length+i:=by rw[Cz,ji k (by omega)]
 have hoi:os[i]∈os.drop i:=by rw[C9 hi];exact Db ..
 have hor:=hdat _ hoi;simp only[hlen]at harow hgo;refine⟨rv,avs,hM.wbk,harow,fun e=>?_,hor.1,hrow,?_⟩
 ·have h1:=hac _ e;have h2:c' L.wb=1:=hM.wbc;omega
 intro W9 av' dv hos htape hout own5 own1 up hwb' n5 n1;obtain⟨c9,hM9,hst9⟩:=hgo W9 k os[i].1 os[i].2.2 av' dv hos htape hout own5 own1 up hwb' n5 n1;have zero9:∀{e:TypeId} {s n:Nat} {v:Value} {xs:List Value},W.ownsRow w.heap.size e s v n xs→(∀b,v.ownBlock=some b→c' b=0)→W9.drew.ownsRow w.heap.size e s v n xs∧∀b,v.ownBlock=some b→c9 b=0∧b<W9.drew.heap.size:=fun {e s n v xs} hr hc=>⟨aN hr fun b hb hl=>hst9.zero b hl (hc b hb),fun b hb=>⟨(hst9.col b (hr.lt b hb).2).trans (hc b hb),CG (hr.lt b hb).2 hst9.size⟩⟩
 obtain⟨p,cap,hv⟩:=dN hor.1;have hor9:=zero9 hor.1 hor.2;have hdr:Below W9.heap.size W9 W9.drew:=(Ck _ W9).drew;have hM9d:=hM9.below (aw LB NB) hdr;have hb9:(Value.slice p os[i].2.2.length cap).ownBlock=os[i].2.1.ownBlock:=by rw[hv]
 have hx:=yW (p:=p) (m:=os[i].2.2.length) (cap:=cap) hM9d (by rw[←hv];exact iD hor9.1) (fun b hb=>(hor9.2 b (by rw[←hb9];exact hb)).1) (by show bb.length≤_;omega) (by omega);rw[←hv]at hx
 refine hx.mono ?_;rintro e w' ⟨rfl,c10,rv10,bb10,hbl,-,hM10,hput⟩
 refine⟨rfl,c10,rv10,bb10,by rw[hbl];show bb.length+4=_;omega,?_,?_,?_⟩
 ·rw[qD k hi,←List.append_assoc];exact hM10
 ·exact hput.after ((hst.trans hst9).trans (aG.below hdr)) fun b hb=>(hor.1.lt b hb).1
 have keep:∀{e:TypeId} {s n:Nat} {v:Value} {xs:List Value},W.ownsRow w.heap.size e s v n xs→(∀b,v.ownBlock=some b→c' b=0)→(∀b,v.ownBlock=some b→os[i].2.1.ownBlock≠some b)→w'.ownsRow w.heap.size e s v n xs∧∀b,v.ownBlock=some b→c10 b=0:=fun {e s n v xs} hr hc hne=>by
  obtain⟨a1,a2⟩:=zero9 hr hc;exact⟨aN a1 fun b hb hl=>hput.zero b hl (hne b hb) (a2 b hb).1,fun b hb=>(hput.col b (a2 b hb).2 (hne b hb)).trans (a2 b hb).1⟩
 have hk1:=keep hrow hfc fun b hb e=>hap os[i] (List.getElem_mem hi) b e hb
 refine⟨hk1.1,hk1.2,fun o ho=>?_⟩;have ho':o∈os.drop i:=by rw[C9 hi];exact CQ _ ho
 have hd:=hdat o ho';refine keep hd.1 hd.2 fun b hb e=>?_
 have hp:=hdi.sublist (List.drop_sublist i os);rw[C9 hi]at hp
 exact(List.pairwise_cons.1 hp).1 o ho b e hb
end
end
end Go.Proofs.YtckmppkdpnhodaaGreatDoor
