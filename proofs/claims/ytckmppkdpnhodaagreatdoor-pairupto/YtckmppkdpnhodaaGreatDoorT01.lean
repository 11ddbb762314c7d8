import Derived.Test.YtckmppkdpnhodaaGreatDoorProg
import Derived.Deep.Modes
import Derived.Deep.Slices
import Derived.Lib.LaidTab
import Derived.OpenShut
import Derived.RowKit
import Derived.WalkKit
import Derived.Test.YtckmppkdpnhodaaGreatDoorRows
import Derived.WalkSpells
import Derived.WalkLawsBesides
import Derived.Deep.QuietTactic
import Derived.BigQuiet
import Derived.Deep.RegionHeld3
import Derived.Deep.DrawnRows
import Derived.Deep.AppendLies
import Derived.Deep.MidRow
import Derived.Deep.Draws
set_option maxRecDepth 100000
set_option maxHeartbeats 8000000
set_option linter.unusedVariables false
set_option linter.unusedSimpArgs false
open List renaming mem_append_left→C8,mem_cons→Co,map_cons→Dp,getElem?_eq_getElem→Cr,getElem_mem→CN,mem_append→CP,mem_singleton→CK,take_of_length_le→CX,getElem?_append_right→C5,drop_eq_getElem_cons→C9,set_append_right→Dz,not_mem_nil→Cq
open Nat renaming le_refl→Cl,zero_le→CB,le_trans→CC,lt_of_lt_of_le→CG,add_mul→DU,zero_add→CJ
open ByteArray renaming empty→CL
open Go.ByteArray renaming toList_eq→CZ
open Go.World renaming block_lt_of_cell?→Cy,setCell→Dy,cell?_of_block→CE,frozen?_of_block→C6,news_of_block→CH
open Go.RowKit.Below renaming refl→Ck,heap_setCell→CD,heap_alloc→CF
open Array renaming getElem?_eq_some_iff→Cn
open Go.Value renaming ownBlock→Cp
open Go.Addr renaming add_mid→CS
namespace Go.Proofs.YtckmppkdpnhodaaGreatDoor
section
open Go.ChangeShapes Go.WideShapes Go.RowKit Go.Deep
variable {e t:TypeId} {g n:Nat} {l:List (String×DataW Unit)} {name:String}
section
variable {H:Type} {enc:TypeId×Value→H} {P:Program} {W W':World}
theorem lS(hb:Below W.heap.size W W'){p:MemPlace}(h:p.block<W.heap.size):W.sameAt W' p:=by
 cases p with
 |cell b off=>exact hb.cell (p:=⟨b,off,none⟩) h
 |map b=>exact hb.block b h
theorem r9(hb:Below W.heap.size W W')(may:MemPlace→Prop):W.keptBut W' may:=by
 refine⟨hb.os,hb.output,fun i hi=>?_⟩;rw[hb.block i hi];cases W.heap[i]? with
 |none=>rfl
 |some o=>cases o <;> simp
theorem uG(a:Addr)(i:Nat):(a.add i).block=a.block:=by unfold Addr.add;split <;> rfl
theorem pY{cs:List Value}{x:DataW H×List MemPlace}(ht:P.underlying t=some (.slice e))(hb:Below W.heap.size W W')(hc:0<P.cellsOf e)(hel:∀n cs x,DataW.trod enc P W 0 (fun _=>true) true n e cs=some x→(∀q∈x.2,q.block<W.heap.size)→∃m,DataW.trod enc P W' 0 (fun b=>decide (b<W.heap.size)) true m e cs=some x)(h:DataW.trod enc P W 0 (fun _=>true) true n t cs=some x)(hp:∀q∈x.2,q.block<W.heap.size):∃m,DataW.trod enc P W' 0 (fun b=>decide (b<W.heap.size)) true m t cs=some x:=by
 rcases open_slice ht h with⟨rfl,rfl⟩|⟨a,len,cap,m,n,D,Pl,rfl,h0,hl,hm,hmm,rfl,hi⟩
 ·exact⟨1,by simp[DataW.trod,ht]⟩
 simp only[if_true]at hmm;subst hmm;have key:∀i,i<m→∃cs n,W'.cells? 0 (a.add (i*P.cellsOf e)) (P.cellsOf e)=some cs∧DataW.trod enc P W' 0 (fun b=>decide (b<W.heap.size)) true n e cs=some (D i,Pl i):=fun i him=>by
  obtain⟨cs',h1,h2⟩:=hi i him;have hab:a.block<W.heap.size:=hp (.cell a.block (a.off+0)) (C8 _ (MemPlace.mem_row.2 ⟨0,Nat.mul_pos (by omega) hc,rfl⟩));obtain⟨k,hk⟩:=hel n cs' (D i,Pl i) h2 (fun q hq=>hp q (List.mem_append_right _ (List.mem_flatMap.2 ⟨i,List.mem_range.2 him,hq⟩)));refine⟨cs',k,World.cells?_carry h1 (fun q hq=>?_),hk⟩;obtain⟨j,-,rfl⟩:=MemPlace.mem_row.1 hq;exact lS hb (by show(a.add _).block<_;rw[uG];exact hab)
 by_cases hm0:m=0
 ·subst hm0;have hl0:len=0:=by omega
  subst hl0;by_cases hs:a.block<W.heap.size
  ·exact shut_slice_whole_cells ht h0 hl hm (by simpa using hs) D Pl key
  simpa using shut_slice_cells (w:=W') (held:=true) ht h0 (Cl 0) hm (spare:=fun b=>decide (b<W.heap.size)) (by simpa using hs) D Pl key
 have hab:a.block<W.heap.size:=hp (.cell a.block (a.off+0)) (C8 _ (MemPlace.mem_row.2 ⟨0,Nat.mul_pos (by omega) hc,rfl⟩));exact shut_slice_whole_cells ht h0 hl hm (by simpa using hab) D Pl key
theorem ki{f:Func}{s:ChangeSpec}{args:Array Value}{ds gs:List (DataW H)}{before p:List MemPlace}{tb:TypeId}(hW:DataW.Whole enc P f.params.toList s.vars false W args.toList ds gs before)(hr:f.resultTypes=#[tb])(htb:P.underlying tb=some .bool)(hvars:s.vars=[])(hres:(s.fn H (ds++gs)).results=[.lit (.bool true)])(hargs:(s.fn H (ds++gs)).args=ds)(hv:(s.fn H (ds++gs)).vars=[])(hb:Below W.heap.size W W')(hag:DataW.TrodAll enc P W' 0 (fun b=>decide (b<W.heap.size)) true f.params.toList args.toList ds p):s.post enc P f false true false false W args (.bool true) W':=⟨ds,gs,before,[],p,[],hW,by rw[hres,hr];exact trodAll_cons_mk (shut_bool htb true) trodAll_mk0,by rw[hargs];exact hag,by rw[hvars,hv];rfl,r9 hb _,fun h=>by cases h⟩
theorem pr:∀{l:List (String×DataW Unit)} {ps:List MemPlace},DataW.LaidVars P W l ps→∀{n:String} {d:DataW Unit},(n,d)∈l→∃g t cs fuel p,P.globalNamed n=some g∧(P.globals[g]?).map (·.type)=some t∧W.var? P n=some cs∧DataW.trod (fun _=>()) P W 0 (fun _=>true) false fuel t cs.toList=some (d,p)
 |[],_,_,_,_,h=>by cases h
 |(n',d')::r,ps,⟨g,t,cs,fuel,p,q,h1,h2,h3,h4,h5,h6⟩,n,d,h=>by
  rcases Co.1 h with e|e
  ·cases e;exact⟨g,t,cs,fuel,p,h1,h2,h3,h4⟩
  exact pr h5 e
theorem vd{k:IntKind}{zs:List Int}(hg:P.globalNamed name=some g)(hty:(P.globals[g]?).map (·.type)=some t)(ht:P.underlying t=some (.array n e))(he:P.underlying e=some (.int k))(hce:P.cellsOf e=1)(hct:P.cellsOf t=n)(h:laidMet P l W)(hm:(name,Lib.tabData k zs)∈l):Lib.TabIs P W name k zs:=by
 obtain⟨ps,hl,-⟩:=h;obtain⟨g',t',cs,fuel,p,hg',ht',hvar,hd⟩:=pr hl hm;obtain rfl:=Option.some.inj (hg.symm.trans hg');obtain rfl:=Option.some.inj (hty.symm.trans ht');unfold Lib.TabIs;rw[hvar,←Lib.cells_of_tab ht he hce hct hd]
theorem xd{zs:List (List UInt8)}(hg:P.globalNamed name=some g)(hty:(P.globals[g]?).map (·.type)=some t)(ht:P.underlying t=some (.array n e))(he:P.underlying e=some .string)(hce:P.cellsOf e=1)(hct:P.cellsOf t=n)(h:laidMet P l W)(hm:(name,DataW.agg (zs.map fun z=>.lit (.string z)))∈l):∀(i:Nat) (z:List UInt8),zs[i]?=some z→W.cell? ⟨g,i,none⟩=some (.string ⟨z.toArray⟩):=by
 obtain⟨ps,hl,-⟩:=h;obtain⟨g',t',cs,fuel,p,hg',ht',hvar,hd⟩:=pr hl hm;obtain rfl:=Option.some.inj (hg.symm.trans hg');obtain rfl:=Option.some.inj (hty.symm.trans ht');intro i z hz;have hcell:=World.var?_cell hg hvar i;rw[hcell];cases fuel with
 |zero=>simp[DataW.trod]at hd
 |succ fuel =>
  simp only[DataW.trod,ht,hce,hct,Nat.mul_one]at hd;split at hd
  ·rename_i hlen;obtain⟨xs,hmm,hx⟩:=Option.map_eq_some_iff.1 hd;have hxs:xs.map (·.1)=zs.map fun z=>(DataW.lit (.string z):DataW Unit):=by
    have:=congrArg Prod.fst hx;simpa using this
   have hi:i<zs.length:=(List.getElem?_eq_some_iff.1 hz).1;have hxl:xs.length=n:=by simpa using Lib.mapM_length hmm
   have hzl:zs.length=n:=by
    have:=congrArg List.length hxs;simp at this;omega
   obtain⟨b,hb,hf⟩:=Lib.mapM_at hmm i i (by rw[List.getElem?_range (by omega)]);obtain⟨s,hc,rfl,-⟩:=DataW.trod_string he hf;have h1:cs[i]?=some (.string s):=by
    have:=congrArg (·[0]?) hc;simpa[List.getElem?_take,List.getElem?_drop] using this
   have h2:(xs.map (·.1))[i]?=some (DataW.lit (.string s.data.toList):DataW Unit):=by simp[hb]
   rw[hxs]at h2;simp only[List.getElem?_map,hz,Option.map_some,Option.some.injEq,DataW.lit.injEq,Lit.string.injEq]at h2;rw[h1,h2]
  cases hd
end
end
section
open Go.RowKit
variable {a y:Nat} {c n:Int} {v:Value} {w w':World} {xs:List Nat}
abbrev Kd:=Go.Tcp
def Kd.bs:Kd→ByteArray
 |.closed=>⟨#[97,100,100]⟩
 |.listen=>⟨#[114,101,109,111,118,101]⟩
 |.established=>⟨#[97,112,112,108,121]⟩
 |.finWait=>⟨#[114,101,118,111,107,101]⟩
 |.closeWait=>⟨#[110,111,116,101]⟩
structure Cm where
 k:Kd
 word:ByteArray
 count:Nat
def zR:Cm:=⟨.closed,CL,0⟩
structure Dn where
 org:Nat
 seq:Nat
 text:ByteArray
 c:Cm
 bef:List Nat
def zH:Dn:=⟨0,0,CL,zR,[]⟩
def iI(xs:List Nat)(n:Nat):Bool:=decide (n∈xs)
def cT(tr:List Dn)(a:Nat):Cm:=(tr[a]?.getD zH).c
def jX(tr:List Dn)(a:Nat):List Nat:=(tr[a]?.getD zH).bef
def fg(x y:Cm):Bool:=(decide (x.k=.closeWait) && decide (y.k=.closeWait)) || (decide (x.word=y.word) && ((decide (x.k=.closed) && decide (y.k=.listen)) || (decide (x.k=.established) && decide (y.k=.finWait))))
def mw(tr:List Dn)(a y:Nat):Bool:=fg (cT tr a) (cT tr y) && iI (jX tr y) a
def cZ(tr:List Dn)(known:List Nat)(a:Nat):Bool:=known.all fun y=>!mw tr a y
def nB(tr:List Dn)(known:List Nat)(word:ByteArray)(a:Nat):Nat:=if(cT tr a).k=.closed∧(cT tr a).word=word∧cZ tr known a=true then(cT tr a).count else 0
def sumOf(tr:List Dn)(known:List Nat)(word:ByteArray)(l:List Nat):Nat:=(l.map (nB tr known word)).sum
def bw(tr:List Dn)(known:List Nat)(word:ByteArray):Nat:=min 999 (sumOf tr known word known)
def dz(tr:List Dn)(known:List Nat)(k:Kd)(word:ByteArray)(a:Nat):Bool:=decide ((cT tr a).k=k) && decide ((cT tr a).word=word) && cZ tr known a
def hasB(tr:List Dn)(known:List Nat)(k:Kd)(word:ByteArray):Bool:=known.any (dz tr known k word)
def Small(tr:List Dn):Prop:=∀d∈tr,d.c.count≤99
theorem jT{tr:List Dn}{d:Dn}(h:tr[a]?=some d):cT tr a=d.c:=by simp[cT,h]
theorem rm{tr:List Dn}{d:Dn}(h:tr[a]?=some d):jX tr a=d.bef:=by simp[jX,h]
theorem cF{α:Type}(l:List α)(k:Nat)(h:k<l.length):l.take (k+1)=l.take k++[l[k]]:=by
 rw[List.take_succ_eq_append_getElem h]
theorem qI{n:Nat}(h:n∈xs):iI xs n=true:=by simp[iI,h]
theorem rD(tr:List Dn)(known:List Nat)(word:ByteArray)(l:List Nat)(a:Nat):sumOf tr known word (l++[a])=sumOf tr known word l+nB tr known word a:=by
 simp[sumOf]
theorem xL{tr:List Dn}(h:Small tr)(known:List Nat)(word:ByteArray)(a:Nat):nB tr known word a≤99:=by
 unfold nB;split
 ·unfold cT;cases ha:tr[a]? with
  |none=>simp[zH,zR]
  |some d=>simpa using h d (List.mem_of_getElem? ha)
 omega
theorem pS{tr:List Dn}(h:Small tr)(known:List Nat)(word:ByteArray)(l:List Nat):sumOf tr known word l≤99*l.length:=by
 induction l with
 |nil=>simp[sumOf]
 |cons a l ih =>
  have:=xL h known word a;simp only[sumOf,Dp,List.sum_cons,List.length_cons]at ih ⊢;omega
theorem toList_inj{a b:ByteArray}(h:a.toList=b.toList):a=b:=by
 rw[CZ,CZ]at h;exact ByteArray.ext (Array.toList_inj.mp h)
theorem jb{a b:ByteArray}(h:a≠b):(a.toList == b.toList)=false:=by
 rw[beq_eq_false_iff_ne];exact fun e=>h (toList_inj e)
theorem Kd.Bt{a b:Kd}(h:a.bs=b.bs):a=b:=by
 cases a <;> cases b <;> first|rfl|(simp[Kd.bs]at h)
theorem yz{k:Kd}(h:¬ k=.closed):(k.bs.toList == [97,100,100])=false:=by
 cases k <;> first|exact absurd rfl h|simp[Kd.bs,CZ]
theorem ko{k:Kd}(h:¬ k=.listen):(k.bs.toList == [114,101,109,111,118,101])=false:=by
 cases k <;> first|exact absurd rfl h|simp[Kd.bs,CZ]
theorem km{k:Kd}(h:¬ k=.finWait):(k.bs.toList == [114,101,118,111,107,101])=false:=by
 cases k <;> first|exact absurd rfl h|simp[Kd.bs,CZ]
theorem xt{k:Kd}(h:¬ k=.closeWait):(k.bs.toList == [110,111,116,101])=false:=by
 cases k <;> first|exact absurd rfl h|simp[Kd.bs,CZ]
theorem pT(tr:List Dn)(l:List Nat)(a y:Nat):cZ tr (l++[y]) a=(cZ tr l a && !mw tr a y):=by
 simp[cZ,List.all_append]
theorem bW{tr:List Dn}{l:List Nat}(hm:y∈l)(h:mw tr a y=true):cZ tr l a=false:=by
 simp only[cZ,List.all_eq_false];exact⟨y,hm,by simp[h]⟩
theorem ug{tr:List Dn}{known:List Nat}{k:Kd}{word:ByteArray}(hm:y∈known)(h:dz tr known k word y=true):hasB tr known k word=true:=by
 simp only[hasB,List.any_eq_true];exact⟨y,hm,h⟩
theorem cM{k:IntKind}{a b:Int}(h:a=b):Ending.returned (.int k a)=.returned (.int k b):=by rw[h]
theorem aF{a b:Bool}(h:a=b):Ending.returned (.bool a)=.returned (.bool b):=by rw[h]
def aT(w:World)(v:Value)(xs:List Nat):Prop:=∃p cap,v=.slice p xs.length cap∧∀(i x:Nat),xs[i]?=some x→∃g,p=some ⟨g,0,none⟩∧w.cell? ⟨g,i,none⟩=some (.int .i64 (x:Int))
theorem aa(hb:Below w.heap.size w w'){a:Addr}(h:w.cell? a=some v):w'.cell? a=some v:=(hb.cell (Cy w a h)).trans h
theorem aT.below(h:aT w v xs)(hb:Below w.heap.size w w'):aT w' v xs:=by
 obtain⟨p,cap,hv,hc⟩:=h;refine⟨p,cap,hv,fun i x hx=>?_⟩;obtain⟨g,hg,hcell⟩:=hc i x hx;exact⟨g,hg,aa hb hcell⟩
theorem wg(v:Value)(xs:List Nat)(n:Nat)(w:World)(hl:xs.length≤maxLen)(hv:aT w v xs):Calls Tryz.prog 66 #[v,.int .i64 (n:Int)] w fun e w'=>e=.returned (.bool (iI xs n))∧w'=w:=by
 obtain⟨p,cap,rfl,hc⟩:=hv;unfold maxLen at hl;go_enter Tryz.func66,Tryz.ntmps66
 go_wp2
 go_loop [5] (fun i=>∃k:Nat,k≤xs.length∧i=.int .i64 k∧iI (xs.take k) n=false) (fun i=>xs.length-(intOf i).toNat)
 case atStart=>exact⟨0,CB _,rfl,by simp[iI]⟩
 case round =>
  obtain⟨k,hk,rfl,hno⟩:=hrel;have HN:Hid (iI (xs.take k) n=false):=hno;clear hno;by_cases hlt:k<xs.length
  ·obtain⟨g,rfl,hck⟩:=hc k xs[k] (Cr hlt);clear hc;by_cases he:xs[k]=n
   ·go_wp2
    go_ret
    exact⟨aF (by simp only[iI];exact(decide_eq_true (he ▸ CN hlt)).symm),rfl⟩
   go_wp2
   go_round
   case rel=>exact⟨k+1,by omega,by go_num,by
    have:=HN.out;rw[cF xs k hlt];simp only[iI,decide_eq_false_iff_not]at this ⊢;simp only[CP,CK];rintro (h|h)
    ·exact this h
    exact he h.symm⟩
   case measure=>simp[intOf];omega
  clear hc;go_wp2
  go_ret
  exact⟨aF (by rw[←HN.out,CX (by omega)]),rfl⟩
def bL(w:World)(v:Value)(tr:List Dn):Prop:=∃p cap,v=.slice p tr.length cap∧∀(i:Nat) (d:Dn),tr[i]?=some d→∃g bv,p=some ⟨g,0,none⟩∧w.cell? ⟨g,i*7,none⟩=some (.int .i64 (d.org:Int))∧w.cell? ⟨g,i*7+1,none⟩=some (.int .i64 (d.seq:Int))∧w.cell? ⟨g,i*7+2,none⟩=some (.string d.text)∧w.cell? ⟨g,i*7+3,none⟩=some (.string d.c.k.bs)∧w.cell? ⟨g,i*7+4,none⟩=some (.string d.c.word)∧w.cell? ⟨g,i*7+5,none⟩=some (.int .i64 (d.c.count:Int))∧w.cell? ⟨g,i*7+6,none⟩=some bv∧aT w bv d.bef∧d.bef.length≤maxLen
theorem bL.below{w w':World}{v:Value}{tr:List Dn}(h:bL w v tr)(hb:Below w.heap.size w w'):bL w' v tr:=by
 obtain⟨p,cap,hv,hc⟩:=h;refine⟨p,cap,hv,fun i d hd=>?_⟩;obtain⟨g,bv,hg,c0,c1,c2,c3,c4,c5,c6,hn,hl⟩:=hc i d hd;exact⟨g,bv,hg,aa hb c0,aa hb c1,aa hb c2,aa hb c3,aa hb c4,aa hb c5,aa hb c6,hn.below hb,hl⟩
theorem uF(tv:Value)(tr:List Dn)(a b:Nat)(w:World)(hT:bL w tv tr)(hb:b<tr.length)(hl:tr.length≤maxLen):Calls Tryz.prog 116 #[tv,.int .i64 (a:Int),.int .i64 (b:Int)] w fun e w'=>e=.returned (.bool (iI (jX tr b) a))∧w'=w:=by
 obtain⟨p,cap,rfl,hc⟩:=hT;obtain⟨g,bv,rfl,-,-,-,-,-,-,c6,hn,hbl⟩:=hc b tr[b] (Cr hb);clear hc;have HB:Hid (jX tr b=tr[b].bef):=rm (Cr hb);generalize tr[b].bef=xs at *;generalize jX tr b=ys at *;generalize tr.length=n at *;obtain⟨q,capq,rfl,hc⟩:=hn;unfold maxLen at hl hbl;go_enter Tryz.func116,Tryz.ntmps116
 go_wp2
 go_loop [7] (fun i=>∃k:Nat,k≤xs.length∧i=.int .i64 k∧iI (xs.take k) a=false) (fun i=>xs.length-(intOf i).toNat)
 case atStart=>exact⟨0,CB _,rfl,by simp[iI]⟩
 case round =>
  obtain⟨k,hk,rfl,hno⟩:=hrel;have HN:Hid (iI (xs.take k) a=false):=hno;clear hno;by_cases hlt:k<xs.length
  ·obtain⟨g',rfl,hck⟩:=hc k xs[k] (Cr hlt);clear hc;by_cases he:xs[k]=a
   ·go_wp2
    go_ret
    exact⟨aF (by rw[HB.out];exact(qI (he ▸ CN hlt)).symm),rfl⟩
   go_wp2
   go_round
   case rel=>exact⟨k+1,by omega,by go_num,by
    have:=HN.out;rw[cF xs k hlt];simp only[iI,decide_eq_false_iff_not]at this ⊢;simp only[CP,CK];rintro (h|h)
    ·exact this h
    exact he h.symm⟩
   case measure=>simp[intOf];omega
  clear hc;go_wp2
  go_ret
  exact⟨aF (by rw[HB.out,←HN.out,CX (by omega)]),rfl⟩
def aE(c:Int)(n:Int):Nat:=((if c<0 then -(c+1) else c) % n).toNat
theorem cI(hn:0<n):(aE c n:Int)<n:=by
 unfold aE;generalize (if c<0 then -(c+1) else c)=x;have h1:=Int.emod_nonneg x (show n≠0 by omega);have h2:=Int.emod_lt_of_pos x hn;omega
theorem nU(hn:0<n):(aE c n:Int)=(if c<0 then -(c+1) else c) % n:=by
 unfold aE;have h1:=Int.emod_nonneg (if c<0 then -(c+1) else c) (show n≠0 by omega);omega
theorem jA(c n:Int)(w:World)(hc : -9223372036854775808≤c∧c≤9223372036854775807)(hn:0<n∧n≤100):Calls Tryz.prog 32 #[.int .i64 c,.int .i64 n] w fun e w'=>e=.returned (.int .i64 (aE c n:Int))∧w'=w:=by
 obtain⟨hc1,hc2⟩:=hc;obtain⟨hn1,hn2⟩:=hn;have HP:Hid ((aE c n:Int)=(if c<0 then -(c+1) else c) % n):=nU hn1;by_cases h:c<0
 ·have hp:0≤-(c+1):=by omega
  go_enter Tryz.func32,Tryz.ntmps32
  go_wp2
  go_ret
  refine⟨cM ?_,rfl⟩;rw[HP.out,if_pos h,←Int.neg_tmod,Int.tmod_eq_emod_of_nonneg hp]
 go_enter Tryz.func32,Tryz.ntmps32
 go_wp2
 go_ret
 exact⟨cM (by rw[HP.out,if_neg (by omega)]),rfl⟩
theorem kl(n:Int)(w:World)(hc : -9223372036854775808≤n∧n≤9223372036854775807):Calls Tryz.prog 14 #[.int .i64 n] w fun e w'=>e=.returned (.int .i64 ((2+aE n 4:Nat):Int))∧w'=w:=by
 have hl:(aE n 4:Int)<4:=cI (by omega);have HC:Hid (-9223372036854775808≤n∧n≤9223372036854775807):=hc;clear hc;go_enter Tryz.func14,Tryz.ntmps14
 go_wp2_with (go_at_call 32;refine(jA n 4 _ HC.out (by omega)).mono ?_;rintro e w' ⟨rfl,rfl⟩)
 go_ret
 exact⟨cM (by go_num),rfl⟩
theorem vE(wb:Nat)(tv:Value)(tr:List Dn)(p:Nat)(w:World)(h2:w.cell? ⟨wb,2,none⟩=some tv)(hT:bL w tv tr)(hl:tr.length≤maxLen)(hp:p<tr.length)(hno:∀j (h:j<tr.length),j<p→¬ (tr[j].org=tr[p].org∧tr[j].seq=tr[p].seq)):Calls Tryz.prog 65 #[.pointer (some ⟨wb,0,none⟩),.agg #[.int .i64 (tr[p].org:Int),.int .i64 (tr[p].seq:Int),.string tr[p].text]] w fun e w'=>e=.returned (.int .i64 (p:Int))∧Below w.heap.size w w':=by
 have hb2:=Cy w _ h2;generalize hO:tr[p].org=O at *;generalize hS:tr[p].seq=S at *;generalize hX:tr[p].text=X at *;obtain⟨q,cap,rfl,hc⟩:=hT;unfold maxLen at hl;have HO:Hid (tr[p].org=O∧tr[p].seq=S∧tr[p].text=X):=⟨hO,hS,hX⟩;have HN:Hid (∀j (h:j<tr.length),j<p→¬ (tr[j].org=O∧tr[j].seq=S)):=hno;clear hO hS hX hno;go_enter Tryz.func65,Tryz.ntmps65
 go_wp2
 go_loopw [5] (fun i wr=>∃k n:Nat,k≤p∧i=.int .i64 k∧wr=(w.alloc (.cells #[.int .i64 (O:Int),.int .i64 (S:Int),.string X] 68)).drewN n) (fun i _=>p+1-(intOf i).toNat)
 case atStart=>exact⟨0,0,CB _,rfl,rfl⟩
 case round =>
  obtain⟨k,nd,hk,rfl,rfl⟩:=hrel;have hlt:k<tr.length:=by omega
  obtain⟨g,bv,rfl,c0,c1,c2,-,-,-,-,-,-⟩:=hc k tr[k] (Cr hlt);have hbg:=Cy w _ c0;have k0:(0:Int)≤(k:Int):=by omega
  have k1:(k:Int)<(tr.length:Int):=by omega
  have HK:Hid (k<p→¬ (tr[k].org=O∧tr[k].seq=S)):=HN.out k hlt;clear hc;by_cases he:k=p
  ·subst he;rw[HO.out.1]at c0
   rw[HO.out.2.1]at c1;rw[HO.out.2.2]at c2
   go_wp2
   go_quiet ((fail))
   go_wp2
   go_ret
   exact⟨rfl,below_drewN (below_drewN ((Ck _ _).alloc (Cl _) _) _) _⟩
  have hkp:k<p:=by omega
  have HK2:=HK.out hkp;generalize tr[k].org=O' at *;generalize tr[k].seq=S' at *;generalize tr[k].text=X' at *;by_cases hoo:O'=O
  ·have hss:¬ S'=S:=fun e=>HK2 ⟨hoo,e⟩
   subst hoo;have b1:((S':Int) == (S:Int))=false:=by rw[beq_eq_false_iff_ne];omega
   have b2:¬ (S':Int)=(S:Int):=by omega
   clear hss HK2;go_wp2
   go_quiet ((fail))
   go_wp2
   go_roundw
   case rel=>exact⟨k+1,_,by omega,by go_num,rfl⟩
   case measure=>simp[intOf];omega
  have b1:((O':Int) == (O:Int))=false:=by rw[beq_eq_false_iff_ne];omega
  have b2:¬ (O':Int)=(O:Int):=by omega
  clear hoo HK2;go_wp2
  go_quiet ((fail))
  go_wp2
  go_roundw
  case rel=>exact⟨k+1,_,by omega,by go_num,rfl⟩
  case measure=>simp[intOf];omega
def tg(w:World)(v:Value)(xss:List (List Nat)):Prop:=∃p cap,v=.slice p xss.length cap∧∀(i:Nat) (xs:List Nat),xss[i]?=some xs→∃g u,p=some ⟨g,0,none⟩∧w.cell? ⟨g,i,none⟩=some u∧aT w u xs
def kP(tr:List Dn)(a:Nat):Nat:=(tr[a]?.getD zH).org
theorem vJ{tr:List Dn}{d:Dn}(h:tr[a]?=some d):kP tr a=d.org:=by simp[kP,h]
def gk(tr:List Dn)(k:Nat)(xs:List Nat)(m:Nat):Nat:=((List.range m).filter fun i=>decide (kP tr i=k) && !iI xs i).length
theorem tp(tr:List Dn)(k:Nat)(xs:List Nat)(m:Nat):gk tr k xs (m+1)=gk tr k xs m+if kP tr m=k∧iI xs m=false then 1 else 0:=by
 unfold gk;rw[List.range_succ,List.filter_append,List.length_append];by_cases h1:kP tr m=k <;> cases h2:iI xs m <;> simp[h1,h2]
theorem sK(tr:List Dn)(k:Nat)(xs:List Nat)(m:Nat):gk tr k xs m≤m:=by
 have:=List.length_filter_le (fun i=>decide (kP tr i=k) && !iI xs i) (List.range m);simpa[gk] using this
theorem pM(wb:Nat)(tv kv:Value)(tr:List Dn)(xss:List (List Nat))(k a:Nat)(w:World)(h2:w.cell? ⟨wb,2,none⟩=some tv)(h3:w.cell? ⟨wb,3,none⟩=some kv)(hT:bL w tv tr)(hK:tg w kv xss)(hl:tr.length≤1000000000000)(hxl:xss.length≤100)(ha:a<xss.length)(hal:xss[a].length≤maxLen):Calls Tryz.prog 42 #[.pointer (some ⟨wb,0,none⟩),.int .i64 (k:Int),.int .i64 (a:Int)] w fun e w'=>e=.returned (.int .i64 (gk tr k xss[a] tr.length:Int))∧w'=w:=by
 obtain⟨q,cap,rfl,hc⟩:=hT;obtain⟨q2,cap2,rfl,hc2⟩:=hK;obtain⟨g2,u,rfl,cu,hu⟩:=hc2 a xss[a] (Cr ha);clear hc2;have HIN:Hid (∀(n:Nat) W,w=W→Calls Tryz.prog 66 #[u,.int .i64 (n:Int)] W fun e w'=>e=.returned (.bool (iI xss[a] n))∧w'=W):=fun n W e=>by subst e;exact wg u xss[a] n w hal hu
 clear hu hal;have a1:(a:Int)<(xss.length:Int):=by omega
 have hul:=sK tr k xss[a];have hus:=tp tr k xss[a];generalize xss[a]=xs at *;have HUS:Hid (∀m,gk tr k xs (m+1)=gk tr k xs m+if kP tr m=k∧iI xs m=false then 1 else 0):=hus;clear hus;have HU0:Hid (gk tr k xs 0=0):=by simp[Hid,gk]
 go_enter Tryz.func42,Tryz.ntmps42
 go_wp2
 go_loop [7,8] (fun n i=>∃j:Nat,j≤tr.length∧i=.int .i64 j∧n=.int .i64 (gk tr k xs j:Int)) (fun _ i=>tr.length-(intOf i).toNat)
 case atStart=>exact⟨0,CB _,rfl,by rw[HU0.out];rfl⟩
 case round =>
  obtain⟨j,hj,rfl,rfl⟩:=hrel;have huj:=hul j;have HSN:=HUS.out j;by_cases hlt:j<tr.length
  ·obtain⟨g,bv,rfl,c0,-,-,-,-,-,-,-,-⟩:=hc j tr[j] (Cr hlt);rw[←vJ (Cr hlt)]at c0
   have k1:(j:Int)<(tr.length:Int):=by omega
   have HIJ:Hid (∀W,w=W→Calls Tryz.prog 66 #[u,.int .i64 (j:Int)] W fun e w'=>e=.returned (.bool (iI xs j))∧w'=W):=HIN.out j;clear hc;generalize hE:gk tr k xs (j+1)=m' at *;have HE:Hid (gk tr k xs (j+1)=m'):=hE;clear hE;generalize gk tr k xs j=m at *;generalize kP tr j=O at *;generalize iI xs j=ib at *;have HS2:Hid (m'=m+if O=k∧ib=false then 1 else 0):=HSN;clear HSN;by_cases ho:O=k
   ·subst ho;cases ib
    ·have hz:Hid (m'=m+1):=by have:=HS2.out;simpa[Hid] using this
     go_wp2_with (go_at_call 66;refine(HIJ.out _ rfl).mono ?_;rintro e w' ⟨rfl,rfl⟩)
     go_round
     case rel=>exact⟨j+1,by omega,by go_num,by rw[HE.out,hz.out];go_num⟩
     case measure=>simp[intOf];omega
    have hz:Hid (m'=m):=by have:=HS2.out;simpa[Hid] using this
    go_wp2_with (go_at_call 66;refine(HIJ.out _ rfl).mono ?_;rintro e w' ⟨rfl,rfl⟩)
    go_round
    case rel=>exact⟨j+1,by omega,by go_num,by rw[HE.out,hz.out]⟩
    case measure=>simp[intOf];omega
   have hz:Hid (m'=m):=by have:=HS2.out;simpa[Hid,ho] using this
   have b1:((O:Int) == (k:Int))=false:=by rw[beq_eq_false_iff_ne];omega
   clear ho;go_wp2_with (go_at_call 66;refine(HIJ.out _ rfl).mono ?_;rintro e w' ⟨rfl,rfl⟩)
   go_round
   case rel=>exact⟨j+1,by omega,by go_num,by rw[HE.out,hz.out]⟩
   case measure=>simp[intOf];omega
  obtain rfl:j=tr.length:=by omega
  clear hc;go_wp2
  go_ret
  exact⟨rfl,rfl⟩
end
section
open Go.RowKit
variable {w w':World}
def bc(w:World)(u:Value)(m:Nat)(k:Int):Prop:=∃p cap,u=.slice p m cap∧∀i,i<m→∃g,p=some ⟨g,0,none⟩∧w.cell? ⟨g,i*3,none⟩=some (.int .i64 k)∧w.cell? ⟨g,i*3+1,none⟩=some (.int .i64 k)∧w.cell? ⟨g,i*3+2,none⟩=some (.string ⟨#[109,105,110,101]⟩)
theorem bc.below{u:Value}{m:Nat}{k:Int}(h:bc w u m k)(hb:Below w.heap.size w w'):bc w' u m k:=by
 obtain⟨p,cap,hv,hc⟩:=h;refine⟨p,cap,hv,fun i hi=>?_⟩;obtain⟨g,hg,c0,c1,c2⟩:=hc i hi;exact⟨g,hg,aa hb c0,aa hb c1,aa hb c2⟩
def uJ(w:World)(v:Value)(bk:List (Nat×Int)):Prop:=∃p cap,v=.slice p bk.length cap∧∀(i:Nat) (e:Nat×Int),bk[i]?=some e→∃g u,p=some ⟨g,0,none⟩∧w.cell? ⟨g,i,none⟩=some u∧bc w u e.1 e.2
def pJ(w:World)(v:Value)(bk:List (Nat×Int)):Prop:=∃p cap,v=.slice p bk.length cap∧∀(i:Nat) (e:Nat×Int),bk[i]?=some e→∃g,p=some ⟨g,0,none⟩∧w.cell? ⟨g,i,none⟩=some (.int .i64 e.2)
theorem uJ.below{w w':World}{v:Value}{bk:List (Nat×Int)}(h:uJ w v bk)(hb:Below w.heap.size w w'):uJ w' v bk:=by
 obtain⟨p,cap,hv,hc⟩:=h;refine⟨p,cap,hv,fun i x hx=>?_⟩;obtain⟨g,u,hg,hcell,hn⟩:=hc i x hx;exact⟨g,u,hg,aa hb hcell,hn.below hb⟩
theorem pJ.below{v:Value}{bk:List (Nat×Int)}(h:pJ w v bk)(hb:Below w.heap.size w w'):pJ w' v bk:=by
 obtain⟨p,cap,hv,hc⟩:=h;refine⟨p,cap,hv,fun i x hx=>?_⟩;obtain⟨g,hg,hcell⟩:=hc i x hx;exact⟨g,hg,aa hb hcell⟩
attribute [local go_sem ↓] Go.wp_at_zero Go.wp_at_succ
end
section
open Go.RowKit
variable {H base cap g n size:Nat} {Q:Exit→Act→World→Prop} {e:TypeId} {fr:Nat×Nat} {o:Oper} {v:Value} {xs:List Value}
structure an(S:List (Option Nat))(w w':World):Prop where
 os:w'.os=w.os
 tape:w'.tape=w.tape
 output:w'.output=w.output
 size:w.heap.size≤w'.heap.size
 block:∀k,k<w.heap.size→some k∉S→w'.heap[k]?=w.heap[k]?
namespace an
variable {S T:List (Option Nat)} {a b c w w':World}
theorem refl(S:List (Option Nat))(w:World):an S w w:=⟨rfl,rfl,rfl,Cl _,fun _ _ _=>rfl⟩
theorem trans(h:an S a b)(k:an T b c)(hT:∀i,some i∈T→some i∈S∨a.heap.size≤i):an S a c:=⟨k.os.trans h.os,k.tape.trans h.tape,k.output.trans h.output,CC h.size k.size,fun i hi hS=>by
  rw[k.block i (CG hi h.size) (fun e=>by rcases hT i e with h1|h1;exact hS h1;omega),h.block i hi hS]⟩
theorem below(h:an S a b)(k:Below b.heap.size b c):an S a c:=⟨k.os.trans h.os,k.tape.trans h.tape,k.output.trans h.output,CC h.size k.size,fun i hi hS=>by
  rw[k.block i (CG hi h.size),h.block i hi hS]⟩
theorem of_below(k:Below a.heap.size a b):an S a b:=(refl S a).below k
theorem drew(h:an S a b):an S a b.drew:=⟨h.os,h.tape,h.output,h.size,h.block⟩
theorem drewN(h:an S a b)(n:Nat):an S a (b.drewN n):=⟨h.os,h.tape,h.output,h.size,h.block⟩
theorem alloc(h:an S a b)(o:Obj):an S a (b.alloc o):=h.below ((Ck _ _).alloc (Cl _) _)
theorem setCell(h:an S a b){p:Addr}(hp:some p.block∈S∨a.heap.size≤p.block)(v:Value):an S a (b.setCell p v):=⟨h.os,h.tape,h.output,by have:=h.size;simpa[Dy] using this,fun k hk hS=>by
  rw[CD _ _ _ _ (fun e=>by subst e;rcases hp with hp|hp;exact hS hp;omega),h.block k hk hS]⟩
theorem grown{row:Option Nat}(h:an S a b)(hg:b.grownBy c row)(hr:∀k,row=some k→some k∈S∨a.heap.size≤k):an S a c:=⟨hg.os.trans h.os,hg.tape.trans h.tape,hg.output.trans h.output,CC h.size hg.size,fun k hk hS=>by
  rw[hg.block k (CG hk h.size) (fun e=>by rcases hr k e.symm with h1|h1;exact hS h1;omega),h.block k hk hS]⟩
theorem mono(h:an S a b)(hST:∀i,some i∈S→some i∈T):an T a b:=⟨h.os,h.tape,h.output,h.size,fun k hk hT=>h.block k hk fun e=>hT (hST k e)⟩
theorem cell(h:an S a b){p:Addr}{v:Value}(hc:a.cell? p=some v)(hp:some p.block∉S):b.cell? p=some v:=(CE (h.block p.block (Cy a p hc) hp)).trans hc
theorem owns(h:an S a b)(ho:a.ownsRow base e size v n xs)(hv:∀k,v.ownBlock=some k→some k∉S):b.ownsRow base e size v n xs:=by
 refine⟨ho.1,?_⟩;rcases ho.2 with hn|⟨g,cap,cur,rfl,hb,hg,rest⟩
 ·exact .inl hn
 exact .inr ⟨g,cap,cur,rfl,hb,by rw[h.block g (Cn.1 hg).1 (hv g rfl)];exact hg,rest⟩
end an
theorem qn{w:World}{m:Nat}{ys:List Value}(h:w.ownsRow base e size (.slice (some ⟨g,0,none⟩) (n+m) cap) (n+m) (xs++ys))(hx:xs.length=n*size):w.ownsRow base e size (.slice (some ⟨g,0,none⟩) n cap) n xs:=by
 rcases h.2 with⟨h1,_⟩|⟨g',cap2,cur2,hv,hb,hg,h1,h2,h3,h4⟩
 ·cases h1
 simp only[Value.slice.injEq,Option.some.injEq,Addr.mk.injEq,and_true,true_and]at hv;obtain⟨rfl,rfl⟩:=hv;refine⟨hx,.inr ⟨g,cap,cur2,rfl,hb,hg,by omega,h2,h3,?_⟩⟩;have:=congrArg (List.take (n*size)) h4;rw[List.take_take,List.take_left' hx]at this
 rw[←this];congr 1
 rw[DU];omega
def eR(w w':World)(v:Value)(n g cap H:Nat):Prop:=(v=.slice (some ⟨g,0,none⟩) n cap∧w.grownBy w' (some g))∨(g=H∧Below w.heap.size w w')
theorem eR.upd{w w':World}(h:eR w w' v n g cap H):an [v.ownBlock] w w':=by
 rcases h with⟨rfl,h⟩|⟨_,h⟩
 ·exact(an.refl _ _).grown h fun k hk=>.inl (by simp[Cp,hk])
 exact an.of_below h
theorem eR.at{w w':World}(h:eR w w' v n g cap H):v.ownBlock=some g∨g=H:=by
 rcases h with⟨rfl,_⟩|⟨h,_⟩
 ·exact .inl rfl
 exact .inr h
section
variable {P:Program} (w:World)
theorem hZ(t ty:TypeId)(base:Nat)(e:TypeId)(i:TypeInfo)(z:Value)(size bytes:Nat)(ht:P.underlying t=some (.slice e))(hi:P.info? e=some i)(hz:i.zero=some z)(hsize:i.size=size)(hby:i.bytes=bytes)(hzs:z.cells.size=size)(hsz:0<size)(v:Value)(n:Nat)(xs:List Value)(hown:w.ownsRow base e size v n xs)(ad:Addr)(m c:Nat)(news:List Value)(hl:news.length=m*size)(hnews:∀j u,news[j]?=some u→w.cell? (ad.add j)=some u)(h1:∀u∈news,u.oneCell'=true)(hm:0<m)(h63:n+m≤maxLen)(hbytes:(n+m)*bytes≤140737488355328)(hbase:base≤w.heap.size)(H:Nat)(hH:w.heap.size=H):∃g cap w',(Builtin.append_ #[t,t] ty #[v,.slice (some ad) m c]).run P w=.ok (.slice (some ⟨g,0,none⟩) (n+m) cap) w'∧w'.ownsRow base e size (.slice (some ⟨g,0,none⟩) (n+m) cap) (n+m) (xs++news)∧w'.ownsRow base e size v n xs∧eR w w' v n g cap H∧g<w'.heap.size:=by
 obtain⟨g,cap,w',hr,h2,h3,h4,h5⟩:=run_append_lies (P:=P) w t ty base e i z size bytes ht hi hz hsize hby hzs hsz v n xs hown ad m c news hl hnews h1 hm h63 hbytes hbase H hH
 suffices hT:eR w w' v n g cap H by
  refine⟨g,cap,w',hr,h2,?_,hT,h5⟩;rcases hT with⟨rfl,_⟩|⟨_,hB⟩
  ·exact qn h2 hown.1
  exact(an.of_below (S:=[]) hB).owns hown (by simp)
 subst hsize hby;rcases id hown.2 with⟨rfl,_⟩|⟨g0,cap0,cur,rfl,hbg,hg,hnc,hcm,hcs,htake⟩
 ·rcases h4 with h4|h4
  ·simp[Cp]at h4
  exact .inr ⟨h4,h3.os,h3.tape,h3.output,h3.size,fun k hk=>h3.block k hk (by simp[Cp])⟩
 by_cases hroom:n+m≤cap0
 ·have hfit:n*i.size+news.length≤cur.size:=by rw[hl,hcs,←DU];exact Nat.mul_le_mul_right _ hroom
  have hr':=run_append_room (P:=P) w t ty e i ht hi g0 n cap0 cur hg ad m c news hl hnews h1 hroom hfit;rw[hr']at hr
  simp only[Result.ok.injEq,Value.slice.injEq,Option.some.injEq,Addr.mk.injEq]at hr;obtain⟨⟨⟨rfl,_⟩,_,rfl⟩,_⟩:=hr;exact .inl ⟨rfl,h3⟩
 have holds:∀j u,xs[j]?=some u→w.cell? ((⟨g0,0,none⟩:Addr).add j)=some u:=hown.cells (g:=g0) rfl
 have hr':=run_append_grow (P:=P) w t ty e i z ht hi hz ⟨g0,0,none⟩ n cap0 xs hown.1 holds ad m c news hl hnews (by omega) (by simp only[maxLen]at h63;omega) (growslice_fits (by omega) hbytes);rw[hr']at hr
 simp only[Result.ok.injEq,Value.slice.injEq,Option.some.injEq,Addr.mk.injEq]at hr;obtain⟨⟨⟨rfl,_⟩,_⟩,rfl⟩:=hr;exact .inr ⟨hH,(Ck _ w).drew.alloc (Cl _) _⟩
theorem mP{a:Act}{K:Act→World→Prop}(s x:Operand)(t:TypeId)(ho:o.op=.call {callee:=.builtin .append,args:=#[s,x],argTypes:=#[t,t]})(base:Nat)(e:TypeId)(i:TypeInfo)(z:Value)(size bytes:Nat)(ht:P.underlying t=some (.slice e))(hi:P.info? e=some i)(hz:i.zero=some z)(hsize:i.size=size)(hby:i.bytes=bytes)(hzs:z.cells.size=size)(hsz:0<size)(v:Value)(n:Nat)(xs:List Value)(hs:a.eval s=v)(hown:w.ownsRow base e size v n xs)(ad:Addr)(m c:Nat)(news:List Value)(hx:a.eval x=.slice (some ad) m c)(hl:news.length=m*size)(hnews:∀j u,news[j]?=some u→w.cell? (ad.add j)=some u)(h1:∀u∈news,u.oneCell'=true)(hm:0<m)(h63:n+m≤maxLen)(hbytes:(n+m)*bytes≤140737488355328)(hbase:base≤w.heap.size)(H:Nat)(hH:w.heap.size=H)(h:∀g cap w',w'.ownsRow base e size (.slice (some ⟨g,0,none⟩) (n+m) cap) (n+m) (xs++news)→w'.ownsRow base e size v n xs→eR w w' v n g cap H→g<w'.heap.size→K (a.put o.dst (.slice (some ⟨g,0,none⟩) (n+m) cap)) w'):o.wp P a w K Q:=by
 obtain⟨g,cap,w',hr,h2,h3,h4,h5⟩:=hZ (P:=P) w t o.type base e i z size bytes ht hi hz hsize hby hzs hsz v n xs hown ad m c news hl hnews h1 hm h63 hbytes hbase H hH;unfold Oper.wp execOp;simp only[ho,resolve,invoke,builtin,Sem.run_bind,Sem.run_pure,Result.andThen_ok,List.map_toArray,Dp,List.map_nil,hs,hx,hr];exact h g cap w' h2 h3 h4 h5
theorem br{ops:Array Oper}{rest:List Oper}{a:Act}(hgd:o.guard=none)(s x:Operand)(t:TypeId)(ho:o.op=.call {callee:=.builtin .append,args:=#[s,x],argTypes:=#[t,t]})(base:Nat)(e:TypeId)(i:TypeInfo)(z:Value)(size bytes:Nat)(ht:P.underlying t=some (.slice e))(hi:P.info? e=some i)(hz:i.zero=some z)(hsize:i.size=size)(hby:i.bytes=bytes)(hzs:z.cells.size=size)(hsz:0<size)(v:Value)(n:Nat)(xs:List Value)(hs:a.eval s=v)(hown:w.ownsRow base e size v n xs)(ad:Addr)(m c:Nat)(news:List Value)(hx:a.eval x=.slice (some ad) m c)(hl:news.length=m*size)(hnews:∀j u,news[j]?=some u→w.cell? (ad.add j)=some u)(h1:∀u∈news,u.oneCell'=true)(hm:0<m)(h63:n+m≤maxLen)(hbytes:(n+m)*bytes≤140737488355328)(hbase:base≤w.heap.size)(H:Nat)(hH:w.heap.size=H)(h:∀g cap w',w'.ownsRow base e size (.slice (some ⟨g,0,none⟩) (n+m) cap) (n+m) (xs++news)→w'.ownsRow base e size v n xs→eR w w' v n g cap H→g<w'.heap.size→wpList P ops Q rest (a.put o.dst (.slice (some ⟨g,0,none⟩) (n+m) cap)) w'):wpList P ops Q (o::rest) a w:=wpList_plain hgd fun _ hK=>mP w s x t ho base e i z size bytes ht hi hz hsize hby hzs hsz v n xs hs hown ad m c news hx hl hnews h1 hm h63 hbytes hbase H hH fun g cap w' h2 h3 h4 h5=>hK _ _ (h g cap w' h2 h3 h4 h5)
end
theorem ae{w:World}{b o:Nat}{c:Array Value}(h:w.heap[b]?=some (.cells c e fr))(v:Value):(w.setCell ⟨b,o,none⟩ v).heap[b]?=some (.cells (c.setIfInBounds o v) e fr):=by
 simp[Dy,Array.getElem?_modify,h]
theorem cell_of_heap{w:World}{b:Nat}{c:Array Value}(h:w.heap[b]?=some (.cells c e fr))(o:Nat):w.cell? ⟨b,o,none⟩=c[o]?:=by
 simp[World.cell?,h]
theorem frozen_of_heap{w:World}{b:Nat}{c:Array Value}(h:w.heap[b]?=some (.cells c e (0,0)))(o:Nat):w.frozen? ⟨b,o,none⟩=false:=by
 simp[World.frozen?,h]
theorem jh{w:World}(h:w.ownsRow base e size v n xs):w.ownsRow 0 e size v n xs:=by
 refine⟨h.1,?_⟩;rcases h.2 with hn|⟨g,cap,cur,hv,_,rest⟩
 ·exact .inl hn
 exact .inr ⟨g,cap,cur,hv,CB _,rest⟩
theorem ai{w:World}(h:w.ownsRow base e size v n xs){a:Addr}(ha:∀k,v.ownBlock=some k→k≠a.block)(u:Value):(w.setCell a u).ownsRow base e size v n xs:=by
 refine⟨h.1,?_⟩;rcases h.2 with hn|⟨g,cap,cur,rfl,hb,hg,rest⟩
 ·exact .inl hn
 exact .inr ⟨g,cap,cur,rfl,hb,by rw[CD _ _ _ _ (ha g rfl)];exact hg,rest⟩
theorem tL{w:World}(h:w.ownsRow base e 3 (.slice (some ⟨g,0,none⟩) n cap) n xs){i:Nat}(hi:i<n)(x y z:Value):(((w.setCell ⟨g,i*3,none⟩ x).setCell ⟨g,i*3+1,none⟩ y).setCell ⟨g,i*3+2,none⟩ z).ownsRow base e 3 (.slice (some ⟨g,0,none⟩) n cap) n (((xs.set (i*3) x).set (i*3+1) y).set (i*3+2) z):=by
 rcases h.2 with⟨h1,_⟩|⟨g',cap2,cur2,hv,hb,hg,h1,h2,h3,h4⟩
 ·cases h1
 simp only[Value.slice.injEq,Option.some.injEq,Addr.mk.injEq,and_true,true_and]at hv;obtain⟨rfl,rfl⟩:=hv;refine⟨by simp[h.1],.inr ⟨g,cap,_,rfl,hb,ae (ae (ae hg x) y) z,h1,h2,by simp[h3],?_⟩⟩;simp only[Array.toList_setIfInBounds,List.take_set,h4]
end
section
open Go.RowKit
variable {B H M N b base cap capk capl fb g i j kb m n nk wb:Nat} {C KB:Array Value} {P:Nat→Prop} {S:List (Option Nat)} {T Tk e:TypeId} {W W' w w' w1 w4 w5 wa:World} {X kov l osv tv u u' v:Value} {ids xs:List Nat} {k:Int} {o:Obj} {p:Option Addr} {tr:List Dn}
def xT(k:Int):List Value:=[.int .i64 k,.int .i64 k,.string ⟨#[109,105,110,101]⟩]
def marks(k:Int):Nat→List Value
 |0=>[]
 |n+1=>marks k n++xT k
theorem jG(k:Int)(n:Nat):(marks k n).length=n*3:=by
 induction n with
 |zero=>rfl
 |succ n ih=>simp[marks,xT,ih];omega
theorem kr(k:Int)(n m:Nat):marks k (n+m)=marks k n++marks k m:=by
 induction m with
 |zero=>simp[marks]
 |succ m ih=>rw[←Nat.add_assoc];simp[marks,ih]
theorem tT(k:Int)(h:i<n):(marks k n)[i*3]?=some (.int .i64 k)∧(marks k n)[i*3+1]?=some (.int .i64 k)∧(marks k n)[i*3+2]?=some (.string ⟨#[109,105,110,101]⟩):=by
 obtain⟨m,rfl⟩:∃m,n=i+(1+m):=⟨n-i-1,by omega⟩
 rw[kr,kr];have hl:=jG k i;have e1:marks k 1=xT k:=by simp[marks]
 rw[e1];refine⟨?_,?_,?_⟩
 ·rw[C5 (by omega)];simp[hl,xT]
 ·rw[C5 (by omega)];simp[hl,xT]
 rw[C5 (by omega)];simp[hl,xT]
theorem bc.Au{cap':Nat}(h:w.ownsRow base e 3 (.slice (some ⟨g,0,none⟩) N cap) N (marks k N))(hM:M≤N):bc w (.slice (some ⟨g,0,none⟩) M cap') M k:=by
 refine⟨_,_,rfl,fun i hi=>⟨g,rfl,?_⟩⟩;obtain⟨m0,m1,m2⟩:=tT k (show i<N by omega);have c:=h.cells (g:=g) rfl;have c0:=c _ _ m0;have c1:=c _ _ m1;have c2:=c _ _ m2;rw[CS,CJ]at c0 c1 c2
 exact⟨c0,c1,c2⟩
theorem bc.Av(h:w.ownsRow base e 3 v N (marks k N)):bc w v N k:=by
 rcases id h.2 with⟨rfl,rfl⟩|⟨g,cap,cur,rfl,_⟩
 ·exact⟨_,_,rfl,fun i hi=>by omega⟩
 exact bc.Au h (Cl _)
theorem bc.two(h:bc w u M k)(ht:eR w w' l n g cap H)(hM:M≤n+m)(ho:w'.ownsRow base e 3 (.slice (some ⟨g,0,none⟩) (n+m) cap) (n+m) (marks k (n+m))):bc w' u M k:=by
 rcases ht with⟨rfl,hg⟩|⟨_,hb⟩
 ·obtain⟨p,capu,rfl,hc⟩:=h;by_cases h0:M=0
  ·subst h0;exact⟨_,_,rfl,fun i hi=>by omega⟩
  obtain⟨gu,rfl,-⟩:=hc 0 (by omega);by_cases e:gu=g
  ·subst e;exact bc.Au ho hM
  refine⟨_,_,rfl,fun i hi=>⟨gu,rfl,?_⟩⟩;obtain⟨g',hg',c0,c1,c2⟩:=hc i hi;obtain rfl:gu=g':=by simpa using hg'
  exact⟨hg.cell c0 (by simpa using e),hg.cell c1 (by simpa using e),hg.cell c2 (by simpa using e)⟩
 exact h.below hb
theorem bc.upd(h:bc w u M k)(hu:an S w w')(hS:∀b,u.ownBlock=some b→some b∉S):bc w' u M k:=by
 obtain⟨p,capu,rfl,hc⟩:=h;refine⟨_,_,rfl,fun i hi=>?_⟩;obtain⟨g,rfl,c0,c1,c2⟩:=hc i hi;exact⟨g,rfl,hu.cell c0 (hS g rfl),hu.cell c1 (hS g rfl),hu.cell c2 (hS g rfl)⟩
theorem tS{xs:List Value}(hx:xs.length=n*3)(hi:i<n):((((marks k i++xs.drop (i*3)).set (i*3) (.int .i64 k)).set (i*3+1) (.int .i64 k)).set (i*3+2) (.string ⟨#[109,105,110,101]⟩))=marks k (i+1)++xs.drop ((i+1)*3):=by
 have hl:=jG k i;have hlt:i*3+2<xs.length:=by omega
 have d:xs.drop (i*3)=xs[i*3]::xs[i*3+1]::xs[i*3+2]::xs.drop (i*3+3):=by
  rw[C9 (by omega),C9 (by omega),C9 (by omega)]
 rw[d];rw[Dz _ _ (by omega),Dz _ _ (by omega),Dz _ _ (by omega)];simp only[hl,Nat.sub_self,Nat.add_sub_cancel_left,List.set_cons_zero,List.set_cons_succ];simp[marks,xT,DU]
theorem kq(k:Int)(n:Nat):∀u∈marks k n,u.oneCell'=true:=by
 induction n with
 |zero=>simp[marks]
 |succ n ih =>
  intro u hu;rcases CP.1 hu with hu|hu
  ·exact ih u hu
  simp only[xT,Co,Cq,or_false]at hu;rcases hu with rfl|rfl|rfl <;> rfl
structure Kp(w:World)(S:List (Option Nat))(B wb:Nat)(k:Int)(osv kov:Value)(W:World):Prop where
 m0:W.cell? ⟨B,0,none⟩=some (.int .i64 k)
 m1:W.cell? ⟨B,1,none⟩=some (.int .i64 k)
 m2:W.cell? ⟨B,2,none⟩=some (.string ⟨#[109,105,110,101]⟩)
 c10:W.cell? ⟨wb,10,none⟩=some osv
 c11:W.cell? ⟨wb,11,none⟩=some kov
 f10:W.frozen? ⟨wb,10,none⟩=false
 f11:W.frozen? ⟨wb,11,none⟩=false
 lt:B<W.heap.size
 up:an S w W
theorem Kp.step{T:List (Option Nat)}(h:Kp w S B wb k osv kov W)(hu:an T (W.alloc o) W')(hB:some B∉T)(hw:some wb∉T)(hST:∀i,some i∈T→some i∈S∨w.heap.size≤i):Kp w S B wb k osv kov W':=by
 have hwl:wb<W.heap.size:=Cy W _ h.c10;have hl:∀b,b<W.heap.size→(W.alloc o).heap[b]?=W.heap[b]?:=fun b hb=>CF W o b hb
 have hc:∀b j v,some b∉T→W.cell? ⟨b,j,none⟩=some v→W'.cell? ⟨b,j,none⟩=some v:=fun b j v hS hv =>
  hu.cell ((CE (a:=⟨b,j,none⟩) (hl b (Cy W _ hv))).trans hv) hS
 have hf:∀j,W'.frozen? ⟨wb,j,none⟩=W.frozen? ⟨wb,j,none⟩:=fun j=>by
  rw[C6 (a:=⟨wb,j,none⟩) (hu.block wb (by simp;omega) hw),C6 (a:=⟨wb,j,none⟩) (hl wb hwl)]
 refine⟨hc _ _ _ hB h.m0,hc _ _ _ hB h.m1,hc _ _ _ hB h.m2,hc _ _ _ hw h.c10,hc _ _ _ hw h.c11,(hf 10).trans h.f10,(hf 11).trans h.f11,?_,(h.up.alloc o).trans hu hST⟩;have h1:=hu.size;have h2:=h.lt;rw[World.size_alloc]at h1
 omega
theorem wm{a c d:Nat}{x y z:Option Addr}{e f h:Nat}:∀u∈[Value.slice p a b,.slice x c d,.slice y e f,.slice z g h],u.oneCell'=true:=by
 intro u hu;simp only[Co,Cq,or_false]at hu;rcases hu with rfl|rfl|rfl|rfl <;> rfl
theorem vY{a:Int}:∀u∈[Value.int .i64 a,.int .i64 a,.int .i64 a,.int .i64 a],u.oneCell'=true:=by
 intro u hu;simp only[Co,Cq,or_false]at hu;rcases hu with rfl|rfl|rfl|rfl <;> rfl
theorem sy(hwb:w.heap[wb]?=some (.cells C T (0,0)))(hwl:wb<w.heap.size)(hu:an S w w4)(hS:some wb∉S)(hg:((w4.setCell ⟨wb,10,none⟩ X).alloc o).grownBy w5 kov.ownBlock)(hk:∀i,kov.ownBlock=some i→i≠wb):w5.heap[wb]?=some (.cells (C.setIfInBounds 10 X) T (0,0)):=by
 have h4:w4.heap[wb]?=some (.cells C T (0,0)):=(hu.block wb hwl hS).trans hwb;have hs:wb<(w4.setCell ⟨wb,10,none⟩ X).heap.size:=by have:=hu.size;simp[Dy];omega
 rw[hg.block wb (by simp;simp at hs;omega) (fun e=>hk wb e.symm rfl),CF _ _ _ hs];exact ae h4 X
theorem yV(h:C[11]?=some kov):(C.setIfInBounds 10 X)[11]?=some kov:=by
 rw[Array.getElem?_setIfInBounds_ne (by decide)];exact h
theorem Kp.AY{row:Option Nat}(h:Kp w S B wb k osv kov W)(hg:(W.alloc o).grownBy W' row)(hB:∀i,row=some i→i≠B)(hw:∀i,row=some i→i≠wb):Kp w (row::S) B wb k osv kov W':=by
 have hu:an [row] (W.alloc o) W':=(an.refl _ _).grown hg fun k hk=>.inl (by simp[hk])
 have h':Kp w (row::S) B wb k osv kov W:=⟨h.m0,h.m1,h.m2,h.c10,h.c11,h.f10,h.f11,h.lt,h.up.mono fun i hi=>List.mem_cons_of_mem _ hi⟩;exact h'.step hu (fun e=>hB B (CK.1 e).symm rfl) (fun e=>hw wb (CK.1 e).symm rfl) fun i hi=>.inl (by simp at hi;simp[hi])
theorem Tryz.A8:(Tryz.prog.info? 68).map (fun i=>(i.zero,i.size,i.bytes))=some (some (.agg #[.int .i64 0,.int .i64 0,.string CL]),3,32):=by kernel_rfl
theorem Tryz.Bo:(Tryz.prog.info? 62).map (fun i=>(i.zero,i.size,i.bytes))=some (some (.slice none 0 0),1,24):=by kernel_rfl
theorem Tryz.AJ:(Tryz.prog.info? 3).map (fun i=>(i.zero,i.size,i.bytes))=some (some (.int .i64 0),1,8):=by kernel_rfl
theorem xq(wb:Nat)(C:Array Value)(T:TypeId)(osv kov:Value)(N:Nat)(us ks:List Value)(p:Option Addr)(n cap:Nat)(xs:List Value)(w:World)(hwb:w.heap[wb]?=some (.cells C T (0,0)))(hC:C.size=14)(h10:C[10]?=some osv)(h11:C[11]?=some kov)(hos:w.ownsRow 0 62 1 osv N us)(hko:w.ownsRow 0 3 1 kov N ks)(hl:w.ownsRow 0 68 3 (.slice p n cap) n xs)(d1:osv.ownBlock≠some wb)(d2:kov.ownBlock≠some wb)(d3:∀k,osv.ownBlock=some k→kov.ownBlock≠some k)(d4:(Value.slice p n cap).ownBlock≠some wb)(d5:∀k,(Value.slice p n cap).ownBlock=some k→osv.ownBlock≠some k∧kov.ownBlock≠some k)(hN:N≤100000000000)(hn:n≤100000000000):Calls Tryz.prog 67 #[.pointer (some ⟨wb,8,none⟩),.slice p n cap] w fun e w'=>e=.returned (.tuple #[])∧∃osv' kov' g h j,w'.heap[wb]?=some (.cells ((C.setIfInBounds 10 osv').setIfInBounds 11 kov') T (0,0))∧w'.ownsRow 0 62 1 osv' (N+4) (us++[.slice p n cap,g,h,j])∧w'.ownsRow 0 3 1 kov' (N+4) (ks++[.int .i64 (-1-(N:Int)),.int .i64 (-1-(N:Int)),.int .i64 (-1-(N:Int)),.int .i64 (-1-(N:Int))])∧bc w' (.slice p n cap) n (-1-(N:Int))∧bc w' g (n+1) (-1-(N:Int))∧bc w' h (n+2) (-1-(N:Int))∧bc w' j (n+3) (-1-(N:Int))∧an [some wb,osv.ownBlock,kov.ownBlock,(Value.slice p n cap).ownBlock] w w'∧(∀b,osv'.ownBlock=some b→osv.ownBlock=some b∨w.heap.size≤b)∧(∀b,kov'.ownBlock=some b→kov.ownBlock=some b∨w.heap.size≤b)∧(∀b,g.ownBlock=some b→(Value.slice p n cap).ownBlock=some b∨w.heap.size≤b)∧(∀b,h.ownBlock=some b→(Value.slice p n cap).ownBlock=some b∨w.heap.size≤b)∧(∀b,j.ownBlock=some b→(Value.slice p n cap).ownBlock=some b∨w.heap.size≤b)∧(∀b,osv'.ownBlock=some b→kov'.ownBlock≠some b∧∀x∈[Value.slice p n cap,g,h,j],x.ownBlock≠some b)∧(∀b,kov'.ownBlock=some b→∀x∈[Value.slice p n cap,g,h,j],x.ownBlock≠some b):=by
 obtain⟨i0,hi,hz0,hz1,hz2⟩:=info_parts Tryz.A8;obtain⟨i1,hi1,hy0,hy1,hy2⟩:=info_parts Tryz.Bo;obtain⟨i2,hi2,hx0,hx1,hx2⟩:=info_parts Tryz.AJ;have g10:w.cell? ⟨wb,10,none⟩=some osv:=by rw[cell_of_heap hwb,h10]
 have g11:w.cell? ⟨wb,11,none⟩=some kov:=by rw[cell_of_heap hwb,h11]
 have hwl:=Cy w _ g10;obtain⟨po,capo,hpo⟩:∃po capo,osv=.slice po N capo:=by
  rcases hos.2 with⟨rfl,rfl⟩|⟨g,cap',_,rfl,_⟩
  ·exact⟨_,_,rfl⟩
  exact⟨_,_,rfl⟩
 subst hpo;go_enter Tryz.func67,Tryz.ntmps67
 go_wp2
 go_loopw [6] (fun i wr=>∃k:Nat,k≤n∧i=.int .i64 k∧wr.ownsRow 0 68 3 (.slice p n cap) n (marks (-1-(N:Int)) k++xs.drop (k*3))∧an [(Value.slice p n cap).ownBlock] (w.alloc (.cells #[.int .i64 (-1-(N:Int)),.int .i64 (-1-(N:Int)),.string ⟨#[109,105,110,101]⟩] 68)) wr) (fun i _=>n-(intOf i).toNat)
 case atStart=>exact⟨0,CB _,rfl,by simpa[marks] using hl.alloc _,an.refl _ _⟩
 case round =>
  obtain⟨k,hk,rfl,hown,hup⟩:=hrel;have hszr:w.heap.size+1≤wr.heap.size:=by have:=hup.size;simpa using this
  have hdm:∀g,(Value.slice p n cap).ownBlock=some g→g<w.heap.size:=fun g hg=>(hl.lt g hg).2
  have m0:wr.cell? ⟨w.heap.size,0,none⟩=some (.int .i64 (-1-(N:Int))):=hup.cell (by simp) (by simp;intro e;have:=hdm _ e.symm;omega);have m1:wr.cell? ⟨w.heap.size,1,none⟩=some (.int .i64 (-1-(N:Int))):=hup.cell (by simp) (by simp;intro e;have:=hdm _ e.symm;omega);have m2:wr.cell? ⟨w.heap.size,2,none⟩=some (.string ⟨#[109,105,110,101]⟩):=hup.cell (by simp) (by simp;intro e;have:=hdm _ e.symm;omega);by_cases hlt:k<n
  ·obtain⟨g,cap0,hv,-,hgl⟩:=hown.form (by omega);obtain⟨rfl,-,rfl⟩:p=some ⟨g,0,none⟩∧True∧cap=cap0:=by simpa using hv
   have hset:=tL hown hlt (.int .i64 (-1-(N:Int))) (.int .i64 (-1-(N:Int))) (.string ⟨#[109,105,110,101]⟩);rw[tS hl.1 hlt]at hset
   obtain⟨cc,hcc⟩:∃c,wr.heap[g]?=some (.cells c 68 (0,0)):=by
    rcases hown.2 with⟨h1,_⟩|⟨g',cap2,cur2,hv,hb,hg,h1⟩
    ·cases h1
    simp only[Value.slice.injEq,Option.some.injEq,Addr.mk.injEq,and_true,true_and]at hv;obtain⟨rfl,rfl⟩:=hv;exact⟨_,hg⟩
   have hf:∀o,wr.frozen? ⟨g,o,none⟩=false:=frozen_of_heap hcc
   have hce:∀o,o<3→∃y,wr.cell? ⟨g,k*3+o,none⟩=some y:=fun o ho=>by
    have hlen:=hown.1;have hj:k*3+o<(marks (-1-(N:Int)) k++xs.drop (k*3)).length:=by omega
    have:=hown.cells (g:=g) rfl (k*3+o) _ (Cr hj);rw[CS,CJ]at this
    exact⟨_,this⟩
   obtain⟨y0,c0⟩:=hce 0 (by omega);obtain⟨y1,c1⟩:=hce 1 (by omega);obtain⟨y2,c2⟩:=hce 2 (by omega);rw[Nat.add_zero]at c0
   have HSET:=hset;replace HSET:Hid _:=HSET;clear hset hce;go_wp2
   go_roundw
   case rel=>exact⟨k+1,by omega,by go_num,HSET.out,((hup.setCell (.inl (by simp[Cp])) _).setCell (.inl (by simp[Cp])) _).setCell (.inl (by simp[Cp])) _⟩
   case measure=>simp[intOf];omega
  obtain rfl:k=n:=by omega
  have hd:xs.drop (k*3)=[]:=List.drop_eq_nil_of_le (by rw[hl.1];omega);rw[hd,List.append_nil]at hown
  clear hd;have r10:wr.cell? ⟨wb,10,none⟩=some (.slice po N capo):=hup.cell (by rw[World.cell?_alloc_past _ _ _ hwl];exact g10) (by simpa using fun e=>d4 e.symm);have r11:wr.cell? ⟨wb,11,none⟩=some kov:=hup.cell (by rw[World.cell?_alloc_past _ _ _ hwl];exact g11) (by simpa using fun e=>d4 e.symm);have hfz:∀o,wr.frozen? ⟨wb,o,none⟩=false:=fun o=>by
   rw[C6 (hup.block wb (by simp;omega) (by simpa using fun e=>d4 e.symm)),C6 (CF w _ wb hwl)];exact frozen_of_heap hwb o
  have hB1:some w.heap.size∉[(Value.slice p k cap).ownBlock]:=by simp;intro e;have:=hdm _ e.symm;omega
  have hB2:some wb∉[(Value.slice p k cap).ownBlock]:=by simpa using fun e=>d4 e.symm
  have up0:an [(Value.slice p k cap).ownBlock] w wr:=((an.refl _ w).alloc _).trans hup fun i hi=>.inl hi
  have hdo:∀i,(Value.slice po N capo).ownBlock=some i→some i∉[(Value.slice p k cap).ownBlock]:=fun i hi hm=>(d5 i (CK.1 hm).symm).1 hi
  have hdk:∀i,kov.ownBlock=some i→some i∉[(Value.slice p k cap).ownBlock]:=fun i hi hm=>(d5 i (CK.1 hm).symm).2 hi
  have hdk4:∀i,kov.ownBlock=some i→some i∉(Value.slice po N capo).ownBlock::[(Value.slice p k cap).ownBlock]:=fun i hi hm=>by
   rcases Co.1 hm with hm|hm
   ·exact d3 i hm.symm hi
   exact hdk i hi hm
  have hdkw:∀i,kov.ownBlock=some i→i≠wb:=fun i hi e=>d2 (by rw[hi,e])
  have hwS:some wb∉(Value.slice po N capo).ownBlock::[(Value.slice p k cap).ownBlock]:=fun hm=>by
   rcases Co.1 hm with hm|hm
   ·exact d1 hm.symm
   exact hB2 hm
  have hBo:∀i,(Value.slice po N capo).ownBlock=some i→i≠w.heap.size:=fun i hi=>by have:=(hos.lt i hi).2;omega
  have hwo:∀i,(Value.slice po N capo).ownBlock=some i→i≠wb:=fun i hi e=>d1 (by rw[hi,e])
  have kp0:Kp w [(Value.slice p k cap).ownBlock] w.heap.size wb (-1-(N:Int)) (.slice po N capo) kov wr:=⟨m0,m1,m2,r10,r11,hfz 10,hfz 11,Cy wr _ m0,up0⟩;go_wp2_with (first
   |(at_builtin;refine wpList_append_lies _ rfl _ _ 75 rfl 0 3 i2 (.int .i64 0) 1 8 Tryz.underlying75 hi2 hx0 hx1 hx2 rfl (by decide) kov N ks (by rfl) ((ai (kp4.up.owns hko hdk4) hdkw _).alloc _) ⟨w4.heap.size,0,none⟩ 4 4 [.int .i64 (-1-(N:Int)),.int .i64 (-1-(N:Int)),.int .i64 (-1-(N:Int)),.int .i64 (-1-(N:Int))] rfl rfl (CH (by simpa using heap_alloc_new (w4.setCell ⟨wb,10,none⟩ (.slice (some ⟨g4,0,none⟩) (N+4) cap4)) _)) vY (by decide) (by unfold maxLen;omega) (by omega) (by omega) (w4.heap.size+1) (by simp) ?_;intro g5 cap5 w5 hown5 hgr5 hat5 hlt5;have hw5:=sy hwb hwl kp4.up hwS hgr5 hdkw;have e11:=(cell_of_heap hw5 11).trans (yV h11);have f11:=frozen_of_heap hw5 11)
   |(at_builtin;refine wpList_append_lies _ rfl _ _ 77 rfl 0 62 i1 (.slice none 0 0) 1 24 Tryz.underlying77 hi1 hy0 hy1 hy2 rfl (by decide) (.slice po N capo) N us (by rfl) ((kp3.up.owns hos hdo).alloc _) ⟨w3.heap.size,0,none⟩ 4 4 [.slice p k cap,.slice (some ⟨g1,0,none⟩) (k+1) cap1,.slice (some ⟨g2,0,none⟩) (k+2) cap2,.slice (some ⟨g3,0,none⟩) (k+3) cap3] rfl rfl (CH (heap_alloc_new w3 _)) wm (by decide) (by unfold maxLen;omega) (by omega) (by omega) (w3.heap.size+1) (by simp) ?_;intro g4 cap4 w4 hown4 hgr4 hat4 hlt4;have kp4:=kp3.AY hgr4 hBo hwo;obtain⟨_,_,_,_,_,_,_,_,_⟩:=id kp4)
   |(at_builtin;refine br _ rfl _ _ 62 rfl 0 68 i0 (.agg #[.int .i64 0,.int .i64 0,.string CL]) 3 32 Tryz.underlying62 hi hz0 hz1 hz2 rfl (by decide) (.slice p k cap) k (marks (-1-(N:Int)) k) (by rfl) (hownl2.alloc _) ⟨w2.heap.size,0,none⟩ 3 3 (marks (-1-(N:Int)) 3) rfl rfl (CH (heap_alloc_new w2 _)) (kq _ _) (by decide) (by unfold maxLen;omega) (by omega) (by omega) (w2.heap.size+1) (by simp) ?_;intro g3 cap3 w3 hown3 hownl3 htw3 hlt3;have kp3:=kp2.step htw3.upd hB1 hB2 (fun i hi=>.inl hi);obtain⟨_,_,_,_,_,_,_,_,_⟩:=id kp3)
   |(at_builtin;refine br _ rfl _ _ 62 rfl 0 68 i0 (.agg #[.int .i64 0,.int .i64 0,.string CL]) 3 32 Tryz.underlying62 hi hz0 hz1 hz2 rfl (by decide) (.slice p k cap) k (marks (-1-(N:Int)) k) (by rfl) (hownl1.alloc _) ⟨w1.heap.size,0,none⟩ 2 2 (marks (-1-(N:Int)) 2) rfl rfl (CH (heap_alloc_new w1 _)) (kq _ _) (by decide) (by unfold maxLen;omega) (by omega) (by omega) (w1.heap.size+1) (by simp) ?_;intro g2 cap2 w2 hown2 hownl2 htw2 hlt2;have kp2:=kp1.step htw2.upd hB1 hB2 (fun i hi=>.inl hi);obtain⟨_,_,_,_,_,_,_,_,_⟩:=id kp2)
   |(at_builtin;refine br _ rfl _ _ 62 rfl 0 68 i0 (.agg #[.int .i64 0,.int .i64 0,.string CL]) 3 32 Tryz.underlying62 hi hz0 hz1 hz2 rfl (by decide) (.slice p k cap) k (marks (-1-(N:Int)) k) (by rfl) (hown.alloc _) ⟨wr.heap.size,0,none⟩ 1 1 (marks (-1-(N:Int)) 1) rfl rfl (CH (heap_alloc_new wr _)) (kq _ _) (by decide) (by unfold maxLen;omega) (by omega) (by omega) (wr.heap.size+1) (by simp) ?_;intro g1 cap1 w1 hown1 hownl1 htw1 hlt1;have kp1:=kp0.step htw1.upd hB1 hB2 (fun i hi=>.inl hi);obtain⟨_,_,_,_,_,_,_,_,_⟩:=id kp1))
  go_end0
  have s1:=(kp0.up.size);have s3:=kp3.up.size;have s4:=kp4.up.size;have hwl3:wb<w3.heap.size:=by omega
  have upF:an [some wb,(Value.slice po N capo).ownBlock,kov.ownBlock] w3 (w5.setCell ⟨wb,11,none⟩ (.slice (some ⟨g5,0,none⟩) (N+4) cap5)):=((((((an.refl _ w3).alloc _).grown hgr4 (fun i hi=>.inl (by simp[hi]))).setCell (.inl (by simp)) _).alloc _).grown hgr5 (fun i hi=>.inl (by simp[hi]))).setCell (.inl (by simp)) _;have hg4:g4≠wb∧kov.ownBlock≠some g4:=by
   rcases hat4 with h|h
   ·exact⟨fun e=>d1 (by rw[h,e]),d3 _ h⟩
   exact⟨by omega,fun e=>by have:=(hko.lt _ e).2;omega⟩
  have hg5:g5≠wb:=by
   rcases hat5 with h|h
   ·exact fun e=>d2 (by rw[h,e])
   omega
  have hlb:∀b,(Value.slice p k cap).ownBlock=some b→some b∉[some wb,(Value.slice po N capo).ownBlock,kov.ownBlock]:=fun b hb hm=>by
   simp only[Co,Cq,or_false]at hm;rcases hm with hm|hm|hm
   ·exact d4 (by rw[hb,hm])
   ·exact(d5 b hb).1 hm.symm
   exact(d5 b hb).2 hm.symm
  have hnew:∀b,w.heap.size≤b→some b∉[some wb,(Value.slice po N capo).ownBlock,kov.ownBlock]:=fun b hb hm=>by
   simp only[Co,Cq,or_false]at hm;rcases hm with hm|hm|hm
   ·simp at hm;omega
   ·have:=(hos.lt b hm.symm).2;omega
   have:=(hko.lt b hm.symm).2;omega
  have hgb:∀g H,((Value.slice p k cap).ownBlock=some g∨g=H)→w.heap.size≤H→some g∉[some wb,(Value.slice po N capo).ownBlock,kov.ownBlock]:=fun g H h hH=>by
   rcases h with h|h
   ·exact hlb g h
   exact hnew g (by omega)
  have sr:w.heap.size≤wr.heap.size:=s1;have z1:w.heap.size≤w1.heap.size:=by have:=htw1.upd.size;simp at this;omega
  have z2:w.heap.size≤w2.heap.size:=by have:=htw2.upd.size;simp at this;omega
  rw[←kr]at hown1 hown2 hown3;have ml:bc w3 (.slice p k cap) k (-1-(N:Int)):=bc.Av hownl3;have mg:bc w3 (.slice (some ⟨g1,0,none⟩) (k+1) cap1) (k+1) (-1-(N:Int)):=((((bc.Av hown1).below ((Ck _ _).alloc (Cl _) _)).two htw2 (by omega) hown2).below ((Ck _ _).alloc (Cl _) _)).two htw3 (by omega) hown3;have mh:bc w3 (.slice (some ⟨g2,0,none⟩) (k+2) cap2) (k+2) (-1-(N:Int)):=((bc.Av hown2).below ((Ck _ _).alloc (Cl _) _)).two htw3 (by omega) hown3;have mj:bc w3 (.slice (some ⟨g3,0,none⟩) (k+3) cap3) (k+3) (-1-(N:Int)):=bc.Av hown3;have y1:w1.heap.size≤w2.heap.size:=by have:=htw2.upd.size;simp at this;omega
  have y2:w2.heap.size≤w3.heap.size:=by have:=htw3.upd.size;simp at this;omega
  have y3:w3.heap.size≤w4.heap.size:=by have:=hgr4.size;simp at this;omega
  have hxs:∀x∈[Value.slice p k cap,.slice (some ⟨g1,0,none⟩) (k+1) cap1,.slice (some ⟨g2,0,none⟩) (k+2) cap2,.slice (some ⟨g3,0,none⟩) (k+3) cap3],∀b,x.ownBlock=some b→(Value.slice p k cap).ownBlock=some b∨(w.heap.size≤b∧b<w3.heap.size):=by
   intro x hx b hb;simp only[Co,Cq,or_false]at hx;rcases hx with rfl|rfl|rfl|rfl
   ·exact .inl hb
   ·simp[Cp]at hb;subst hb;rcases htw1.at with h|h;exact .inl h;exact .inr (by omega)
   ·simp[Cp]at hb;subst hb;rcases htw2.at with h|h;exact .inl h;exact .inr (by omega)
   simp[Cp]at hb;subst hb;rcases htw3.at with h|h;exact .inl h;exact .inr (by omega)
  refine⟨rfl,.slice (some ⟨g4,0,none⟩) (N+4) cap4,.slice (some ⟨g5,0,none⟩) (N+4) cap5,.slice (some ⟨g1,0,none⟩) (k+1) cap1,.slice (some ⟨g2,0,none⟩) (k+2) cap2,.slice (some ⟨g3,0,none⟩) (k+3) cap3,?_,?_,?_,?_,?_,?_,?_,?_,?_,?_,?_,?_,?_,?_,?_⟩
  ·exact ae hw5 _
  ·refine ai (World.ownsRow.kept ((ai hown4 ?_ _).alloc _) hgr5 ?_) ?_ _
   ·intro b hb e;simp[Cp]at hb;exact hg4.1 (by rw[hb,e])
   ·right;intro e;exact hg4.2 (by rw[←e];rfl)
   intro b hb e;simp[Cp]at hb;exact hg4.1 (by rw[hb,e])
  ·refine ai hown5 ?_ _;intro b hb e;simp[Cp]at hb;exact hg5 (by rw[hb,e])
  ·exact ml.upd upF hlb
  ·exact mg.upd upF (fun b hb=>by simp[Cp]at hb;subst hb;exact hgb _ _ htw1.at (by omega))
  ·exact mh.upd upF (fun b hb=>by simp[Cp]at hb;subst hb;exact hgb _ _ htw2.at (by omega))
  ·exact mj.upd upF (fun b hb=>by simp[Cp]at hb;subst hb;exact hgb _ _ htw3.at (by omega))
  ·refine(kp3.up.mono fun i hi=>?_).trans upF fun i hi=>.inl ?_
   ·simp only[CK]at hi;simp[hi]
   simp only[Co,Cq,or_false]at hi ⊢;rcases hi with hi|hi|hi <;> simp[hi]
  ·intro b hb;simp[Cp]at hb;subst hb;rcases hat4 with h|h;exact .inl h;exact .inr (by omega)
  ·intro b hb;simp[Cp]at hb;subst hb;rcases hat5 with h|h;exact .inl h;exact .inr (by omega)
  ·intro b hb;simp[Cp]at hb;subst hb;rcases htw1.at with h|h;exact .inl h;exact .inr (by omega)
  ·intro b hb;simp[Cp]at hb;subst hb;rcases htw2.at with h|h;exact .inl h;exact .inr (by omega)
  ·intro b hb;simp[Cp]at hb;subst hb;rcases htw3.at with h|h;exact .inl h;exact .inr (by omega)
  ·intro b hb;simp[Cp]at hb
   subst hb;refine⟨fun e=>?_,fun x hx e=>?_⟩
   ·simp[Cp]at e;subst e;rcases hat5 with h|h
    ·exact hg4.2 h
    omega
   have hxx:=hxs x hx _ e;rcases hat4 with h|h
   ·rcases hxx with h'|h'
    ·exact(d5 _ h').1 h
    have:=(hos.lt _ h).2;omega
   rcases hxx with h'|h'
   ·have:=(hl.lt _ h').2;omega
   omega
  intro b hb x hx e;simp[Cp]at hb
  subst hb;have hxx:=hxs x hx _ e;rcases hat5 with h|h
  ·rcases hxx with h'|h'
   ·exact(d5 _ h').2 h
   have:=(hko.lt _ h).2;omega
  rcases hxx with h'|h'
  ·have:=(hl.lt _ h').2;omega
  omega
def ints(xs:List Nat):List Value:=xs.map fun(x:Nat)=>.int .i64 (x:Int)
theorem aT.Au(h:w.ownsRow base e 1 v xs.length (ints xs)):aT w v xs:=by
 rcases id h.2 with⟨rfl,h0⟩|⟨g,cap,cur,hv,hb,hg,h1,h2,h3,h4⟩
 ·have:xs=[]:=List.length_eq_zero_iff.1 h0;subst this;exact⟨none,0,rfl,fun i x hx=>by simp at hx⟩
 refine⟨some ⟨g,0,none⟩,cap,hv,fun i x hx=>⟨g,rfl,?_⟩⟩;have:=h.cells (g:=g) (by rw[hv];rfl) i (.int .i64 (x:Int)) (by simp[ints,hx]);rwa[CS,CJ]at this
def dX(P:Nat→Prop)(w:World)(v:Value)(tr:List Dn):Prop:=∃p cap,v=.slice p tr.length cap∧∀(i:Nat) (d:Dn),tr[i]?=some d→∃g bv,p=some ⟨g,0,none⟩∧P g∧w.cell? ⟨g,i*7,none⟩=some (.int .i64 (d.org:Int))∧w.cell? ⟨g,i*7+1,none⟩=some (.int .i64 (d.seq:Int))∧w.cell? ⟨g,i*7+2,none⟩=some (.string d.text)∧w.cell? ⟨g,i*7+3,none⟩=some (.string d.c.k.bs)∧w.cell? ⟨g,i*7+4,none⟩=some (.string d.c.word)∧w.cell? ⟨g,i*7+5,none⟩=some (.int .i64 (d.c.count:Int))∧w.cell? ⟨g,i*7+6,none⟩=some bv∧aT w bv d.bef∧(∀b,bv.ownBlock=some b→P b)∧d.bef.length≤maxLen
theorem dX.at(h:dX P w v tr):bL w v tr:=by
 obtain⟨p,cap,hv,hc⟩:=h;refine⟨p,cap,hv,fun i d hd=>?_⟩;obtain⟨g,bv,hg,-,c0,c1,c2,c3,c4,c5,c6,hn,-,hl⟩:=hc i d hd;exact⟨g,bv,hg,c0,c1,c2,c3,c4,c5,c6,hn,hl⟩
theorem aT.same(h:aT w v xs)(hs:∀b,v.ownBlock=some b→b<w.heap.size→w'.heap[b]?=w.heap[b]?):aT w' v xs:=by
 obtain⟨p,cap,rfl,hc⟩:=h;refine⟨p,cap,rfl,fun i x hx=>?_⟩;obtain⟨g,rfl,hcell⟩:=hc i x hx;exact⟨g,rfl,(CE (a:=⟨g,i,none⟩) (hs g rfl (Cy w _ hcell))).trans hcell⟩
theorem dX.same{P:Nat→Prop}{w w':World}{v:Value}{tr:List Dn}(h:dX P w v tr)(hs:∀b,P b→b<w.heap.size→w'.heap[b]?=w.heap[b]?):dX P w' v tr:=by
 obtain⟨p,cap,hv,hc⟩:=h;refine⟨p,cap,hv,fun i d hd=>?_⟩;obtain⟨g,bv,hg,hP,c0,c1,c2,c3,c4,c5,c6,hn,hb,hl⟩:=hc i d hd;have hk:∀j u,w.cell? ⟨g,j,none⟩=some u→w'.cell? ⟨g,j,none⟩=some u:=fun j u hu =>
  (CE (a:=⟨g,j,none⟩) (hs g hP (Cy w _ hu))).trans hu
 exact⟨g,bv,hg,hP,hk _ _ c0,hk _ _ c1,hk _ _ c2,hk _ _ c3,hk _ _ c4,hk _ _ c5,hk _ _ c6,hn.same fun b hb' hl=>hs b (hb b hb') hl,hb,hl⟩
theorem dX.upd(h:dX P w v tr)(hu:an S w w')(hP:∀b,P b→some b∉S):dX P w' v tr:=h.same fun b hb hl=>hu.block b hl (hP b hb)
def dq(tr:List Dn)(p:Nat):Dn:=tr[p]?.getD zH
theorem iK{p:Nat}(h:p<tr.length):dq tr p=tr[p]:=by simp[dq,h]
def cR(tr:List Dn)(ids:List Nat):List Value:=ids.flatMap fun p=>[.int .i64 ((dq tr p).org:Int),.int .i64 ((dq tr p).seq:Int),.string (dq tr p).text]
theorem kQ(tr:List Dn):∀(ids:List Nat) (i:Nat) (h:i<ids.length),(cR tr ids)[i*3]?=some (.int .i64 ((dq tr ids[i]).org:Int))∧(cR tr ids)[i*3+1]?=some (.int .i64 ((dq tr ids[i]).seq:Int))∧(cR tr ids)[i*3+2]?=some (.string (dq tr ids[i]).text)
 |[],i,h=>by simp at h
 |a::l,0,h=>by simp[cR]
 |a::l,i+1,h=>by
  have ih:=kQ tr l i (by simpa using h);have e:cR tr (a::l)=[.int .i64 ((dq tr a).org:Int),.int .i64 ((dq tr a).seq:Int),.string (dq tr a).text]++cR tr l:=by simp[cR]
  rw[e];refine⟨?_,?_,?_⟩
  ·rw[C5 (by simp;omega)];simpa[DU] using ih.1
  ·rw[C5 (by simp;omega)];have:(i+1)*3+1-3=i*3+1:=by omega
   simpa[this] using ih.2.1
  rw[C5 (by simp;omega)];have:(i+1)*3+2-3=i*3+2:=by omega
  simpa[this] using ih.2.2
structure Told(tr:List Dn)(ids:List Nat):Prop where
 nodup:ids.Nodup
 lt:∀p∈ids,p<tr.length
 first:∀p∈ids,∀j (h:j<tr.length),j<p→¬ (tr[j].org=(dq tr p).org∧tr[j].seq=(dq tr p).seq)
 bef:∀i (h:i<ids.length),∀y∈(dq tr ids[i]).bef,y∈ids.take i
structure dV(w1:World)(S:List (Option Nat))(kb k:Nat)(KB:Array Value)(Tk:TypeId)(u:Value)(ids:List Nat)(j:Nat)(wr:World):Prop where
 up:an S w1 wr
 row:∃u',wr.heap[kb]?=some (.cells (KB.setIfInBounds k u') Tk (0,0))∧wr.ownsRow 0 3 1 u' j (ints (ids.take j))∧(∀b,u'.ownBlock=some b→u.ownBlock=some b∨w1.heap.size≤b)
structure nG(P:Nat→Prop)(wb kb k nk capk:Nat)(tv u' l:Value)(tr:List Dn)(ids:List Nat)(j:Nat)(W:World):Prop where
 c2:W.cell? ⟨wb,2,none⟩=some tv
 c3:W.cell? ⟨wb,3,none⟩=some (.slice (some ⟨kb,0,none⟩) nk capk)
 ck:W.cell? ⟨kb,k,none⟩=some u'
 fk:W.frozen? ⟨kb,k,none⟩=false
 trace:dX P W tv tr
 row:W.ownsRow 0 3 1 u' j (ints (ids.take j))
 lrow:W.ownsRow 0 68 3 l ids.length (cR tr ids)
theorem nG.below{k:Nat}(h:nG P wb kb k nk capk tv u' l tr ids j W)(hb:Below W.heap.size W W'):nG P wb kb k nk capk tv u' l tr ids j W':=⟨aa hb h.c2,aa hb h.c3,aa hb h.ck,(hb.frozen (p:=⟨kb,k,none⟩) (Cy W _ h.ck)).trans h.fk,h.trace.same fun b _ hl=>hb.block b hl,(an.of_below (S:=[]) hb).owns h.row (by simp),(an.of_below (S:=[]) hb).owns h.lrow (by simp)⟩
theorem nG.place{k:Nat}(h:nG P wb kb k nk capk tv u' l tr ids j W)(told:Told tr ids)(hl:tr.length≤maxLen)(hi:i<ids.length):Calls Tryz.prog 65 #[.pointer (some ⟨wb,0,none⟩),.agg #[.int .i64 ((dq tr ids[i]).org:Int),.int .i64 ((dq tr ids[i]).seq:Int),.string (dq tr ids[i]).text]] W fun e w'=>e=.returned (.int .i64 (ids[i]:Int))∧Below W.heap.size W w':=by
 have hp:ids[i]<tr.length:=told.lt _ (CN hi);have e:=iK hp;have hf:=told.first _ (CN hi)
 rw[e]at hf ⊢;exact vE wb tv tr ids[i] W h.c2 h.trace.at hl hp hf
theorem nG.A5{k:Nat}(h:nG P wb kb k nk capk tv u' (.slice p ids.length capl) tr ids j W)(hi:i<ids.length):∃g,p=some ⟨g,0,none⟩∧W.cell? ⟨g,i*3,none⟩=some (.int .i64 ((dq tr ids[i]).org:Int))∧W.cell? ⟨g,i*3+1,none⟩=some (.int .i64 ((dq tr ids[i]).seq:Int))∧W.cell? ⟨g,i*3+2,none⟩=some (.string (dq tr ids[i]).text):=by
 obtain⟨g,cap0,hv,-,-⟩:=h.lrow.form (by omega);obtain⟨rfl,-,rfl⟩:p=some ⟨g,0,none⟩∧True∧capl=cap0:=by simpa using hv
 obtain⟨m0,m1,m2⟩:=kQ tr ids i hi;have c:=h.lrow.cells (g:=g) rfl;have c0:=c _ _ m0;have c1:=c _ _ m1;have c2:=c _ _ m2;rw[CS,CJ]at c0 c1 c2
 exact⟨g,rfl,c0,c1,c2⟩
theorem aT.AH(hj:j≤ids.length)(h:w.ownsRow base e 1 v j (ints (ids.take j))):aT w v (ids.take j):=by
 have e':j=(ids.take j).length:=by simp;omega
 exact aT.Au (by rw[←e'];exact h)
theorem nG.BD{k:Nat}{capu:Nat}(h:nG P wb kb k nk capk tv (.slice p m capu) l tr ids m W)(hj:j<ids.length)(hjm:j<m)(hm:m≤ids.length):∃g,p=some ⟨g,0,none⟩∧W.cell? ⟨g,j,none⟩=some (.int .i64 (ids[j]:Int)):=by
 obtain⟨q,c,hv,hc⟩:=aT.AH hm h.row;obtain⟨g,hg,hcell⟩:=hc j ids[j] (by rw[List.getElem?_take_of_lt hjm,Cr hj]);simp only[Value.slice.injEq]at hv;exact⟨g,hv.1.trans hg,hcell⟩
theorem o6(h:ids.Nodup)(hj:j<ids.length):ids[j]∉ids.take j:=by
 intro hm;have hd:ids=ids.take j++ids[j]::ids.drop (j+1):=by rw[←C9 hj,List.take_append_drop]
 rw[hd,List.nodup_append]at h;exact h.2.2 _ hm _ (List.mem_cons_self ..) rfl
theorem dV.below{w1:World}{S:List (Option Nat)}{kb k:Nat}{KB:Array Value}{Tk:TypeId}{u:Value}{ids:List Nat}{j:Nat}{wr w':World}(h:dV w1 S kb k KB Tk u ids j wr)(hb:Below wr.heap.size wr w'):dV w1 S kb k KB Tk u ids j w':=by
 obtain⟨up,u',hk,hrow,hub⟩:=h;exact⟨up.below hb,u',(hb.block kb (Cn.1 hk).1).trans hk,(an.of_below (S:=[]) hb).owns hrow (by simp),hub⟩
theorem dV.push{k:Nat}{pp:Nat}{W4:World}{g5 cap5 B1:Nat}(h:dV w1 [some kb,u.ownBlock] kb k KB Tk u ids j wa)(hb4:Below wa.heap.size wa w4)(hk4:w4.heap[kb]?=some (.cells (KB.setIfInBounds k u') Tk (0,0)))(hub:∀b,u'.ownBlock=some b→u.ownBlock=some b∨B1≤b)(hB1:w1.heap.size=B1)(hu2:u.ownBlock≠some kb)(hkb:kb<B1)(hW:an [] w4 W4)(hg:W4.grownBy w5 u'.ownBlock)(hat:u'.ownBlock=some g5∨g5=H)(hH:w4.heap.size≤H)(hown:w5.ownsRow 0 3 1 (.slice (some ⟨g5,0,none⟩) (j+1) cap5) (j+1) (ints (ids.take j)++[.int .i64 (pp:Int)]))(hsn:ids.take (j+1)=ids.take j++[pp]):dV w1 [some kb,u.ownBlock] kb k KB Tk u ids (j+1) (w5.setCell ⟨kb,k,none⟩ (.slice (some ⟨g5,0,none⟩) (j+1) cap5)):=by
 obtain⟨up,-⟩:=h;have s1:=up.size;have s2:=hb4.size;have s3:=hW.size;have hkl:kb<W4.heap.size:=by omega
 have hne:u'.ownBlock≠some kb:=fun e=>by rcases hub _ e with h|h;exact hu2 h;omega
 have hg5:g5≠kb:=by
  rcases hat with h|h
  ·exact fun e=>hne (by rw[h,e])
  omega
 have hk5:w5.heap[kb]?=some (.cells (KB.setIfInBounds k u') Tk (0,0)):=by
  rw[hg.block kb hkl (fun e=>hne e.symm),hW.block kb (Cn.1 hk4).1 (by simp)];exact hk4
 refine⟨?_,.slice (some ⟨g5,0,none⟩) (j+1) cap5,?_,?_,?_⟩
 ·refine((((up.below hb4).trans hW (by simp)).grown hg fun b hb=>?_).setCell (.inl (by simp)) _);rcases hub b hb with h|h
  ·exact .inl (by simp[h])
  exact .inr (by omega)
 ·have:=ae (o:=k) hk5 (.slice (some ⟨g5,0,none⟩) (j+1) cap5);rw[Array.setIfInBounds_setIfInBounds]at this
  exact this
 ·have:=ai (a:=⟨kb,k,none⟩) hown (fun b hb e=>by simp[Cp]at hb;exact hg5 (by rw[hb,e])) (.slice (some ⟨g5,0,none⟩) (j+1) cap5);rw[hsn];simpa[ints] using this
 intro b hb;simp[Cp]at hb
 subst hb;rcases hat with h|h
 ·rcases hub _ h with h|h
  ·exact .inl h
  exact .inr (by omega)
 exact .inr (by omega)
theorem dV.facts{wr:World}{k:Nat}(h:dV (w1.setCell ⟨fb,k,none⟩ X) [some kb,u.ownBlock] kb k KB Tk u ids j wr)(hKB:KB[k]?=some u)(hT:dX P w tv tr)(hb1:Below w.heap.size w w1)(hP:∀b,P b→b≠wb∧b≠kb∧b≠fb∧u.ownBlock≠some b)(e1:wb≠kb)(e2:wb≠fb)(u1:u.ownBlock≠some wb)(hfl:fb<w.heap.size)(hkl:kb<w.heap.size)(hul:∀b,u.ownBlock=some b→b<w.heap.size)(c2:w1.cell? ⟨wb,2,none⟩=some tv)(c3:w1.cell? ⟨wb,3,none⟩=some (.slice (some ⟨kb,0,none⟩) nk capk))(hl:w1.ownsRow w.heap.size 68 3 l ids.length (cR tr ids)):∃u',nG P wb kb k nk capk tv u' l tr ids j wr∧wr.heap[kb]?=some (.cells (KB.setIfInBounds k u') Tk (0,0))∧(∀b,u'.ownBlock=some b→u.ownBlock=some b∨w1.heap.size≤b):=by
 obtain⟨up,u',hk,hrow,hub⟩:=h;have hsz:(w1.setCell ⟨fb,k,none⟩ X).heap.size=w1.heap.size:=by simp[Dy]
 rw[hsz]at hub;have hlt:=hb1.size;have hks:k<KB.size:=(Cn.1 hKB).1;have hc:∀o v,w1.cell? ⟨wb,o,none⟩=some v→wr.cell? ⟨wb,o,none⟩=some v:=fun o v hv =>
  up.cell ((CE (a:=⟨wb,o,none⟩) (CD _ _ _ _ e2)).trans hv) (by simp;exact⟨e1,fun e=>u1 e.symm⟩)
 refine⟨u',⟨hc _ _ c2,hc _ _ c3,?_,frozen_of_heap hk k,?_,hrow,?_⟩,hk,hub⟩
 ·rw[cell_of_heap hk,Array.getElem?_setIfInBounds_self_of_lt hks]
 ·refine((hT.same fun b _ hl=>hb1.block b hl).same (w':=w1.setCell ⟨fb,k,none⟩ X) fun b hb _=>CD _ _ _ _ (hP b hb).2.2.1).upd up fun b hb hm=>?_
  simp only[Co,Cq,or_false,Option.some.injEq]at hm;rcases hm with hm|hm
  ·exact(hP b hb).2.1 hm
  exact(hP b hb).2.2.2 hm.symm
 refine(up.owns (ai (jh hl) (fun b hb e=>?_) _) fun b hb hm=>?_)
 ·have:=(hl.lt b hb).1;simp at e;omega
 have:=(hl.lt b hb).1;simp only[Co,Cq,or_false,Option.some.injEq]at hm;rcases hm with hm|hm
 ·omega
 have:=hul b hm.symm;omega
structure iO(w w':World)(wb kb fb k:Nat)(C KB FB:Array Value)(T Tk Tf:TypeId)(osv kov u:Value)(N:Nat)(us ks:List Value)(ids:List Nat):Prop where
 up:an [some wb,some kb,some fb,u.ownBlock,osv.ownBlock,kov.ownBlock] w w'
 fresh:w'.heap[fb]?=some (.cells (FB.setIfInBounds k (.bool false)) Tf (0,0))
 rest:∃u' osv' kov' l g h j,w'.heap[kb]?=some (.cells (KB.setIfInBounds k u') Tk (0,0))∧w'.ownsRow 0 3 1 u' ids.length (ints ids)∧(∀b,u'.ownBlock=some b→u.ownBlock=some b∨w.heap.size≤b)∧w'.heap[wb]?=some (.cells ((C.setIfInBounds 10 osv').setIfInBounds 11 kov') T (0,0))∧w'.ownsRow 0 62 1 osv' (N+4) (us++[l,g,h,j])∧w'.ownsRow 0 3 1 kov' (N+4) (ks++[.int .i64 (-1-(N:Int)),.int .i64 (-1-(N:Int)),.int .i64 (-1-(N:Int)),.int .i64 (-1-(N:Int))])∧bc w' l ids.length (-1-(N:Int))∧bc w' g (ids.length+1) (-1-(N:Int))∧bc w' h (ids.length+2) (-1-(N:Int))∧bc w' j (ids.length+3) (-1-(N:Int))∧(∀b,osv'.ownBlock=some b→osv.ownBlock=some b∨w.heap.size≤b)∧(∀b,kov'.ownBlock=some b→kov.ownBlock=some b∨w.heap.size≤b)∧(∀x∈[l,g,h,j],∀b,x.ownBlock=some b→w.heap.size≤b∧b<w'.heap.size)∧(∀b,u'.ownBlock=some b→osv'.ownBlock≠some b∧kov'.ownBlock≠some b∧∀x∈[l,g,h,j],x.ownBlock≠some b)∧(∀b,osv'.ownBlock=some b→kov'.ownBlock≠some b∧∀x∈[l,g,h,j],x.ownBlock≠some b)∧(∀b,kov'.ownBlock=some b→∀x∈[l,g,h,j],x.ownBlock≠some b)
theorem bc.lt(h:bc w u m k)(hm:0<m)(hb:u.ownBlock=some b):b<w.heap.size:=by
 obtain⟨p,cap,rfl,hc⟩:=h;obtain⟨g,rfl,c0,-,-⟩:=hc 0 hm;simp[Cp]at hb
 subst hb;exact Cy w _ c0
theorem td{k:Nat}{FB:Array Value}{Tf:TypeId}{us ks:List Value}{pl:Option Addr}(hwb:w.heap[wb]?=some (.cells C T (0,0)))(hC:C.size=14)(h10:C[10]?=some osv)(h11:C[11]?=some kov)(hkb:w.heap[kb]?=some (.cells KB Tk (0,0)))(hfb:w.heap[fb]?=some (.cells FB Tf (0,0)))(hos:w.ownsRow 0 62 1 osv N us)(hko:w.ownsRow 0 3 1 kov N ks)(hu0:∀b,u.ownBlock=some b→b<w.heap.size)(hN:N≤100000000000)(hil:ids.length≤10000000000)(e1:wb≠kb)(e2:wb≠fb)(e3:kb≠fb)(u1:u.ownBlock≠some wb)(u2:u.ownBlock≠some kb)(u3:u.ownBlock≠some fb)(o1:osv.ownBlock≠some wb)(o2:osv.ownBlock≠some kb)(o3:osv.ownBlock≠some fb)(o4:∀b,osv.ownBlock=some b→u.ownBlock≠some b)(q1:kov.ownBlock≠some wb)(q2:kov.ownBlock≠some kb)(q3:kov.ownBlock≠some fb)(q4:∀b,kov.ownBlock=some b→u.ownBlock≠some b)(q5:∀b,osv.ownBlock=some b→kov.ownBlock≠some b)(hb1:Below w.heap.size w w1)(hl:w1.ownsRow w.heap.size 68 3 (.slice pl ids.length capl) ids.length (cR tr ids))(ham:dV (w1.setCell ⟨fb,k,none⟩ (.bool false)) [some kb,u.ownBlock] kb k KB Tk u ids ids.length wa):Calls Tryz.prog 67 #[.pointer (some ⟨wb,8,none⟩),.slice pl ids.length capl] wa fun e w'=>e=.returned (.tuple #[])∧iO w w' wb kb fb k C KB FB T Tk Tf osv kov u N us ks ids:=by
 obtain⟨up,u',hk,hrow,hub⟩:=ham;have hwbl:=(Cn.1 hwb).1;have hkbl:=(Cn.1 hkb).1;have hfbl:=(Cn.1 hfb).1;have s1:=hb1.size;have hsz:(w1.setCell ⟨fb,k,none⟩ (.bool false)).heap.size=w1.heap.size:=by simp[Dy]
 rw[hsz]at hub;have s2:=up.size;rw[hsz]at s2
 have upA:an [some kb,some fb,u.ownBlock] w wa:=by
  refine((an.of_below hb1).setCell (p:=⟨fb,k,none⟩) (.inl (by simp)) (.bool false)).trans up fun i hi=>.inl ?_
  simp only[Co,Cq,or_false]at hi ⊢;rcases hi with hi|hi <;> simp[hi]
 have nS:∀b,b≠kb→b≠fb→u.ownBlock≠some b→some b∉[some kb,some fb,u.ownBlock]:=fun b a1 a2 a3 hm=>by
  simp only[Co,Cq,or_false,Option.some.injEq]at hm;rcases hm with hm|hm|hm
  ·exact a1 hm
  ·exact a2 hm
  exact a3 hm.symm
 have hwa:wa.heap[wb]?=some (.cells C T (0,0)):=(upA.block wb hwbl (nS wb e1 e2 u1)).trans hwb;have hosA:=upA.owns hos fun b hb=>nS b (fun e=>o2 (by rw[hb,e])) (fun e=>o3 (by rw[hb,e])) (o4 b hb)
 have hkoA:=upA.owns hko fun b hb=>nS b (fun e=>q2 (by rw[hb,e])) (fun e=>q3 (by rw[hb,e])) (q4 b hb)
 have hlA:wa.ownsRow 0 68 3 (.slice pl ids.length capl) ids.length (cR tr ids):=by
  refine up.owns (ai (jh hl) (fun b hb e=>?_) _) fun b hb hm=>?_
  ·have:=(hl.lt b hb).1;simp at e;omega
  have:=(hl.lt b hb).1;simp only[Co,Cq,or_false,Option.some.injEq]at hm;rcases hm with hm|hm
  ·omega
  have:=hu0 b hm.symm;omega
 have hln:∀b,(Value.slice pl ids.length capl).ownBlock=some b→w.heap.size≤b∧b<w1.heap.size:=fun b hb=>hl.lt b hb
 have hfa:wa.heap[fb]?=some (.cells (FB.setIfInBounds k (.bool false)) Tf (0,0)):=by
  rw[up.block fb (by rw[hsz];omega) (by
   intro hm;simp only[Co,Cq,or_false,Option.some.injEq]at hm;rcases hm with hm|hm
   ·exact e3 hm.symm
   exact u3 hm.symm)]
  exact ae ((hb1.block fb hfbl).trans hfb) _
 refine(xq wb C T osv kov N us ks pl ids.length capl (cR tr ids) wa hwa hC h10 h11 hosA hkoA hlA o1 q1 q5 (fun e=>by have:=(hln _ e).1;omega) (fun b hb=>⟨fun e=>by have:=(hos.lt b e).2;have:=(hln b hb).1;omega,fun e=>by have:=(hko.lt b e).2;have:=(hln b hb).1;omega⟩) hN (by omega)).mono fun e w' ⟨he,osv',kov',g,h,j,p1,p2,p3,p4,p5,p6,p7,p8,p9,p10,p11,p12,p13,p14,p15⟩=>⟨he,?_⟩
 have hnew:∀b,b≠wb→osv.ownBlock≠some b→kov.ownBlock≠some b→(Value.slice pl ids.length capl).ownBlock≠some b→some b∉[some wb,osv.ownBlock,kov.ownBlock,(Value.slice pl ids.length capl).ownBlock]:=fun b a1 a2 a3 a4 hm=>by
  simp only[Co,Cq,or_false,Option.some.injEq]at hm;rcases hm with hm|hm|hm|hm
  ·exact a1 hm
  ·exact a2 hm.symm
  ·exact a3 hm.symm
  exact a4 hm.symm
 have hub':∀b,u'.ownBlock=some b→u.ownBlock=some b∨w.heap.size≤b:=fun b hb=>by
  rcases hub b hb with h|h
  ·exact .inl h
  exact .inr (by omega)
 have hul:∀b,u'.ownBlock=some b→b<wa.heap.size:=fun b hb=>(hrow.lt b hb).2
 refine⟨?_,?_,u',osv',kov',_,g,h,j,?_,?_,hub',p1,p2,p3,p4,p5,p6,p7,?_,?_,?_,?_,p14,p15⟩
 ·refine(upA.mono fun i hi=>?_).trans p8 fun i hi=>?_
  ·simp only[Co,Cq,or_false]at hi ⊢;rcases hi with hi|hi|hi <;> simp[hi]
  simp only[Co,Cq,or_false]at hi ⊢;rcases hi with hi|hi|hi|hi
  ·simp[hi]
  ·simp[hi]
  ·simp[hi]
  exact .inr (hln i hi.symm).1
 ·rw[p8.block fb (by omega) (hnew fb (fun e=>e2 e.symm) o3 q3 (fun e=>by have:=(hln _ e).1;omega))];exact hfa
 ·rw[p8.block kb (by omega) (hnew kb (fun e=>e1 e.symm) o2 q2 (fun e=>by have:=(hln _ e).1;omega))];exact hk
 ·have:=p8.owns hrow fun b hb=>by
   rcases hub b hb with h'|h'
   ·exact hnew b (fun e=>u1 (by rw[h',e])) (fun e=>o4 b e h') (fun e=>q4 b e h') (fun e=>by have:=(hln _ e).1;have:=hu0 b h';omega)
   exact hnew b (by omega) (fun e=>by have:=(hos.lt b e).2;omega) (fun e=>by have:=(hko.lt b e).2;omega) (fun e=>by have:=(hln _ e).2;omega)
  rwa[List.take_length]at this
 ·intro b hb;rcases p9 b hb with h'|h';exact .inl h';exact .inr (by omega)
 ·intro b hb;rcases p10 b hb with h'|h';exact .inl h';exact .inr (by omega)
 ·intro x hx b hb;simp only[Co,Cq,or_false]at hx;rcases hx with rfl|rfl|rfl|rfl
  ·exact⟨(hln b hb).1,by have:=(hln b hb).2;have:=p8.size;omega⟩
  ·exact⟨by rcases p11 b hb with h'|h';exact(hln b h').1;omega,p5.lt (by omega) hb⟩
  ·exact⟨by rcases p12 b hb with h'|h';exact(hln b h').1;omega,p6.lt (by omega) hb⟩
  exact⟨by rcases p13 b hb with h'|h';exact(hln b h').1;omega,p7.lt (by omega) hb⟩
 intro b hb;have hbl:=hul b hb;have hx0:∀x:Value,(∀b,x.ownBlock=some b→(Value.slice pl ids.length capl).ownBlock=some b∨wa.heap.size≤b)→x.ownBlock≠some b:=fun x hx e=>by
  rcases hx b e with h'|h'
  ·have h2:=hln b h';rcases hub b hb with h3|h3
   ·have:=hu0 b h3;omega
   omega
  omega
 refine⟨fun e=>?_,fun e=>?_,fun x hx=>?_⟩
 ·rcases p9 b e with h'|h'
  ·rcases hub b hb with h3|h3
   ·exact o4 b h' h3
   have:=(hos.lt b h').2;omega
  omega
 ·rcases p10 b e with h'|h'
  ·rcases hub b hb with h3|h3
   ·exact q4 b h' h3
   have:=(hko.lt b h').2;omega
  omega
 simp only[Co,Cq,or_false]at hx;rcases hx with rfl|rfl|rfl|rfl
 ·exact hx0 _ fun b hb=>.inl hb
 ·exact hx0 _ p11
 ·exact hx0 _ p12
 exact hx0 _ p13
end
end Go.Proofs.YtckmppkdpnhodaaGreatDoor
