import Derived.Test.YtckmppkdpnhodaaGreatDoorT16
import Derived.Lib.SmallJoins
import Derived.Lib.ItoaMem
set_option maxRecDepth 100000
set_option maxHeartbeats 8000000
set_option linter.unusedVariables false
set_option linter.unusedSimpArgs false
open Go.RowKit.Below renaming refl→Ck
open List renaming length_append→Cz
open Nat renaming le_refl→Cl
open ByteArray renaming mk→CU,size_append→C7
namespace Go.Proofs.YtckmppkdpnhodaaGreatDoor
open Go.RowKit Go.Proofs Go.Shelf Go.Sort Go.Maps
variable {B:Nat} {w:World}
def fu (w : World) : Prop := Lib.TabIs Tryz.prog w "internal/strconv.uint64pow10" .u64 Lib.pow10Tab
theorem Tryz.Bi : Tryz.prog.globalNamed "internal/strconv.uint64pow10" = some 3 := by kernel_rfl
theorem fu.below{w':World}(h:fu w)(hb:Below B w w')(hB:w.heap.size≤B):fu w':=Go.Joins.tab_stays Tryz.Bi h hb hB
theorem sB{a:World}(h:Below B a w)(hB:B≤w.heap.size)(os:Array Obj):Below B a (grow w os):=⟨h.os,h.tape,h.output,by have:=h.size;simp[grow];omega,fun b hb=>by
  show(w.heap++os)[b]?=_
  rw[Array.getElem?_append_left (by omega)];exact h.block b hb⟩
theorem vW(m:Nat)(hm:m≤999)(W:World)(h:fu W):Calls Tryz.prog 97 #[.int .i64 (m:Int)] W fun e w'=>e=.returned (.string (dE m))∧Below W.heap.size W w':=by
 refine(Tryz.strconv_Itoa (m:Int) (by omega) (by omega) W h).mono ?_;rintro e w' ⟨rfl,k,os,rfl⟩
 refine⟨by rw[Lib.itoa_nonneg];rfl,sB (below_drewN (Ck _ _) _) (by simp) _⟩
theorem jy(f:List UInt8→Bool)(s:List UInt8):(pZ f s).isSome=true↔f s=true:=by unfold pZ;split <;> simp_all
theorem vX(f:List UInt8→Option Nat)(s:List UInt8):(uP f s).isSome=true↔(f s).isSome=true:=by unfold uP;cases f s <;> simp
theorem ni(S:dG)(hle:∀s m,S.it s=some m→m≤999)(xs:List (List UInt8))(h8:∀s∈xs,s.length≤8):(xs.flatMap (bB S)).length≤20*xs.length:=by
 induction xs with
 |nil=>simp
 |cons x r ih =>
  have:=ih (fun s hs=>h8 s (List.mem_cons_of_mem _ hs));have hx:=h8 x (List.mem_cons_self ..);have hd:(dE ((S.it x).getD 0)).size≤3:=eE 2 _ (by
   cases hs:S.it x with
   |none=>simp
   |some m=>have:=hle x m hs;simp;omega)
  have e:(dE ((S.it x).getD 0)).data.toList.length=(dE ((S.it x).getD 0)).size:=Array.length_toList;simp only[List.flatMap_cons,Cz,bB,om,List.length_cons,List.length_nil]at *;omega
theorem qX(w:World):Lib.IsBuilderF 185 5 w.heap.size w.heap.size (Lib.byteCells []) (w.alloc (.cells #[.pointer none,.slice none 0 0] 185)):=.inl ⟨Cl _,.slice none 0 0,heap_alloc_new w _,⟨rfl,.inl ⟨rfl,rfl⟩⟩,by simp[Value.ownBlock]⟩
theorem uv(c1 c2 c3 n:Nat)(hn:n≤4294967296)(S:dG)(h8:∀x,(S.it x).isSome=true∨S.cp x=true∨S.no x=true→x.length≤8)(w:World)(hG:fu w)(h:cW w c1 c2 c3 n S):Calls Tryz.prog 53 #[.agg #[.map (some c1),.map (some c2),.map (some c3)]] w fun e w'=>∃s,e=.returned (.string s)∧dp S s∧Below w.heap.size w w':=by
 obtain⟨B,hB⟩:∃B,w.heap.size+1=B:=⟨_,rfl⟩
 obtain⟨wa,hwa⟩:∃wa,w.alloc (.cells #[.map (some c1),.map (some c2),.map (some c3)] 128)=wa:=⟨_,rfl⟩
 have hBa:wa.heap.size=B:=by rw[←hwa,←hB];simp
 have hba:Below w.heap.size w wa:=by rw[←hwa];exact(Ck _ w).alloc (Cl _) _
 have hxa:wa.heap[w.heap.size]?=some (.cells #[.map (some c1),.map (some c2),.map (some c3)] 128 (0,0)):=by rw[←hwa];exact heap_alloc_new w _
 obtain⟨wb,hwb⟩:∃wb,wa.alloc (.cells #[.pointer none,.slice none 0 0] 185)=wb:=⟨_,rfl⟩
 have hbb:Below B wa wb:=by rw[←hwb,←hBa];exact(Ck _ wa).alloc (Cl _) _
 have hIb:Lib.IsBuilderF 185 5 B B (Lib.byteCells []) wb:=by rw[←hwb,←hBa];exact qX wa
 have hBb:wb.heap.size=B+1:=by rw[←hwb,←hBa];simp
 have hca:=h.below hba;have hl1:=hca.m1.lt;have hl2:=hca.m2.lt;have hl3:=hca.m3.lt;rw[hBa]at hl1 hl2 hl3
 have M1:∀W,Below B wb W→bh W c1 n (uP S.it):=fun W hW=>hca.m1.same ((hbb.trans hW).block c1 hl1)
 have M2:∀W,Below B wb W→bh W c2 n (pZ S.cp):=fun W hW=>hca.m2.same ((hbb.trans hW).block c2 hl2)
 have M3:∀W,Below B wb W→bh W c3 n (pZ S.no):=fun W hW=>hca.m3.same ((hbb.trans hW).block c3 hl3)
 have X:∀W,Below B wb W→W.heap[w.heap.size]?=some (.cells #[.map (some c1),.map (some c2),.map (some c3)] 128 (0,0)):=fun W hW=>((hbb.trans hW).block _ (by omega)).trans hxa
 have hsz1:wb.heap.size=wb.heap.size:=rfl;have HT2:Hid (∀W (l:List UInt8),Lib.IsBuilderF 185 5 B B (Lib.byteCells l) W→l.length≤1099511627776→Below B wb W→Calls Tryz.prog 98 #[.pointer (some ⟨B,0,none⟩),.string ⟨#[99,111,117,112,111,110,32]⟩,.map (some c2)] W fun e w'=>e=.returned (.tuple #[])∧∃xs:List (List UInt8),xs.Pairwise (· < ·)∧(∀s,s∈xs↔S.cp s=true)∧xs.length≤n∧Lib.IsBuilderF 185 5 B B (Lib.byteCells (l++xs.flatMap (bF fe))) w'∧Below B wb w'):=fun W l g1 g2 g3=>(gV B B c2 n ⟨#[99,111,117,112,111,110,32]⟩ (by decide) l g2 (pZ S.cp) (fun s hs=>h8 s (.inr (.inl ((jy _ _).1 hs)))) hn W g1 (by have:=g3.size;omega) (M2 W g3)).mono (by
   rintro e w' ⟨rfl,xs,k1,k2,k3,k4,k5⟩
   exact⟨rfl,xs,k1,fun s=>(k2 s).trans (jy _ _),k3,k4,g3.trans k5⟩)
 have HT3:Hid (∀W (l:List UInt8),Lib.IsBuilderF 185 5 B B (Lib.byteCells l) W→l.length≤1099511627776→Below B wb W→Calls Tryz.prog 98 #[.pointer (some ⟨B,0,none⟩),.string ⟨#[110,111,116,101,32]⟩,.map (some c3)] W fun e w'=>e=.returned (.tuple #[])∧∃xs:List (List UInt8),xs.Pairwise (· < ·)∧(∀s,s∈xs↔S.no s=true)∧xs.length≤n∧Lib.IsBuilderF 185 5 B B (Lib.byteCells (l++xs.flatMap (bF qy))) w'∧Below B wb w'):=fun W l g1 g2 g3=>(gV B B c3 n ⟨#[110,111,116,101,32]⟩ (by decide) l g2 (pZ S.no) (fun s hs=>h8 s (.inr (.inr ((jy _ _).1 hs)))) hn W g1 (by have:=g3.size;omega) (M3 W g3)).mono (by
   rintro e w' ⟨rfl,xs,k1,k2,k3,k4,k5⟩
   exact⟨rfl,xs,k1,fun s=>(k2 s).trans (jy _ _),k3,k4,g3.trans k5⟩)
 have HSt:Hid (∀W (l:List UInt8),Lib.IsBuilderF 185 5 B B (Lib.byteCells l) W→Below B wb W→Calls Tryz.prog 99 #[.pointer (some ⟨B,0,none⟩)] W fun e w'=>e=.returned (.string ⟨l.toArray⟩)∧Below B wb w'):=fun W l g1 g3=>(Tryz.Builder_String_any_k B B l W g1 (by have:=g3.size;omega)).mono (by
   rintro e w' ⟨rfl,k1,k2,k3⟩
   exact⟨rfl,g3.trans k2⟩)
 have HW:Hid (∀W (l':List UInt8) (s:ByteArray),Lib.IsBuilderF 185 5 B B (Lib.byteCells l') W→l'.length+s.size≤140737488355328→B≤W.heap.size→Calls Tryz.prog 96 #[.pointer (some ⟨B,0,none⟩),.string s] W fun e w'=>e=.returned (.tuple #[.int .i64 s.size,.nilIface])∧Lib.IsBuilderF 185 5 B B (Lib.byteCells (l'++s.data.toList)) w'∧Below B W w'∧Lib.OthersKept 5 (some B) W w'):=fun W l' s h1 h2 h3=>(iQ B B (Lib.byteCells l') s W h1 (by rw[Lib.byteCells_length];exact h2) h3).mono (by
   rintro e w' ⟨rfl,g1,g2,g3⟩
   rw[oy]at g1;exact⟨rfl,.inr g1,g2,g3⟩)
 have HIt:Hid (∀W (m:Nat),m≤999→Below B wb W→Calls Tryz.prog 97 #[.int .i64 (m:Int)] W fun e w'=>e=.returned (.string (dE m))∧Below W.heap.size W w'):=fun W m g1 g2=>vW m g1 W ((hG.below hba (Cl _)).below (hbb.trans g2) (by omega))
 obtain⟨D,hD,hszD,hnd,hks⟩:=(M1 wb (Ck _ _)).keys;have HK:Hid (∀W,Calls Tryz.prog 95 #[.map (some c1)] W fun e w'=>e=.returned (.func (.func 134) #[] #[.pointer (some ⟨W.heap.size,0,none⟩)])∧w'=W.alloc (.cells #[.map (some c1)] 125)):=fun W=>callsIn_wide.1 (Tryz.maps_Keys_95 (some c1) W)
 have HS:Hid (Calls Tryz.prog 94 #[.func (.func 134) #[] #[.pointer (some ⟨B+1,0,none⟩)]] (wb.alloc (.cells #[.map (some c1)] 125)) fun e w'=>∃(p:Option Addr) (cap:Nat) (xs:List (List UInt8)),e=.returned (.slice p xs.length cap)∧gT w' (.slice p xs.length cap) xs∧xs.Pairwise (· < ·)∧(∀s,s∈xs↔(S.it s).isSome=true)∧xs.length≤n∧Below wb.heap.size wb w'):=by
  rw[←hBb];refine(callsIn_wide.1 (Tryz.slices_Sorted_keys_94_95 c1 n D oq wb hD (by unfold maxLen;omega) (by omega))).mono ?_;rintro e w' ⟨v,ss,rfl,hS,hrow,-,hb⟩
  obtain⟨g1,g2⟩:=nP hS hnd;have hlen:(ss.mergeSort (fun x y=>decide (x≤y))).length=ss.length:=List.length_mergeSort ss;have hst:=gT.Au hlen.symm hrow;obtain⟨p,cap,rfl,-⟩:=id hst;refine⟨p,cap,_,rfl,hst,g1,fun s=>((g2 s).trans (hks s)).trans (vX _ _),?_,((Ck _ wb).alloc (Cl _) _).trans (hb.mono (by simp))⟩;rw[hlen,hS.length_eq];have:(strKeys D).length=Maps.size D:=by cases D <;> simp[strKeys,Maps.size]
  omega
 have HL:Hid (∀W x,Below B wb W→x.size≤maxLen→(Instr.lookup 125 (.map (some c1)) (.string x) false).run Tryz.prog W=.ok (.int .i64 (((S.it x.data.toList).getD 0:Nat):Int)) W):=fun W x g1 g2=>by
  have:=(M1 W g1).look Tryz.underlying125 (Tryz.zeroValue3 _) x g2;rwa[mu]at this
 have HX:Hid (∀W,Below B wb W→W.heap[w.heap.size]?=some (.cells #[.map (some c1),.map (some c2),.map (some c3)] 128 (0,0))):=X;have HIb:Hid (Lib.IsBuilderF 185 5 B B (Lib.byteCells []) wb):=hIb;have HBB:Hid (Below w.heap.size w wb):=hba.trans (hbb.mono (by omega));have hle:=h.le;clear M1 M2 M3 X hIb hca h hD hks hnd hszD hG hba hbb hxa;go_enter Tryz.func53,Tryz.ntmps53
 go_upto_region 2 with fail
 clear hwa hwb;have c10:wb.cell? ⟨w.heap.size,0,none⟩=some (.map (some c1)):=by rw[cell_of_heap (HX.out wb (Ck _ _))];rfl
 go_wp2_with (first
  |(go_at_call 95;refine(HK.out _).mono ?_;rintro e w0 ⟨rfl,rfl⟩)
  |(go_at_call 94;refine HS.out.mono ?_;rintro e w1 ⟨p,cap,xs,rfl,hK,hsort,hmem,hxl,hb1⟩))
 have hI1:Lib.IsBuilderF 185 5 B B (Lib.byteCells []) w1:=gg HIb.out hb1;have hx8:∀s∈xs,s.length≤8:=fun s hs=>h8 s (.inl ((hmem s).1 hs))
 have HM:Hid ((∀s,s∈xs↔(S.it s).isSome=true)∧xs.Pairwise (· < ·)):=⟨hmem,hsort⟩;have hs1:=hb1.size;clear hmem hsort c10;go_loopw [11] (fun i wr=>∃k:Nat,k≤xs.length∧i=.int .i64 k∧Hid (Lib.IsBuilderF 185 5 B B (Lib.byteCells ((xs.take k).flatMap (bB S))) wr∧gT wr (.slice p xs.length cap) xs∧Below B wb wr)) (fun i _=>xs.length-(intOf i).toNat)
 case atStart=>exact⟨0,Nat.zero_le _,rfl,hI1,hK,hb1.mono (by omega)⟩
 case round =>
  obtain⟨k,hk',rfl,HR⟩:=hrel;obtain⟨r1,r2,r3⟩:=HR.out;have hrs:=r3.size;have cx:wr.cell? ⟨w.heap.size,0,none⟩=some (.map (some c1)):=by rw[cell_of_heap (HX.out wr r3)];rfl
  have cx1:wr.cell? ⟨w.heap.size,1,none⟩=some (.map (some c2)):=by rw[cell_of_heap (HX.out wr r3)];rfl
  have hpl:((xs.take k).flatMap (bB S)).length≤20*k:=by
   have:=ni S hle (xs.take k) (fun s hs=>hx8 s (List.mem_of_mem_take hs));rw[List.length_take]at this
   omega
  by_cases hlt:k<xs.length
  ·obtain⟨p',cap',hp',hcs⟩:=id r2;obtain⟨g,cur,hg,hgb,hgc⟩:=hcs k xs[k] (List.getElem?_eq_getElem hlt);obtain⟨rfl,-,rfl⟩:p=p'∧True∧cap=cap':=by simpa using hp'
   subst hg;have ck:wr.cell? ⟨g,k,none⟩=some (.string ⟨xs[k].toArray⟩):=by rw[cell_of_heap hgb];exact hgc
   clear hp' hcs hgb hgc cx1;have hx8':(CU xs[k].toArray).size≤8:=hx8 _ (List.getElem_mem hlt);have HSN:Hid ((xs.take (k+1)).flatMap (bB S)=(xs.take k).flatMap (bB S)++bB S xs[k]):=fA xs k hlt _;have hlk:(Instr.lookup 125 (.map (some c1)) (.string ⟨xs[k].toArray⟩) false).run Tryz.prog wr=.ok (.int .i64 (((S.it xs[k]).getD 0:Nat):Int)) wr:=HL.out wr ⟨xs[k].toArray⟩ r3 (by unfold maxLen;omega);have hm9:(S.it xs[k]).getD 0≤999:=by
    cases hs:S.it xs[k] with
    |none=>simp
    |some m=>have:=hle _ m hs;simpa using this
   have hdec:(dE ((S.it xs[k]).getD 0)).size≤3:=eE 2 _ (by omega);have hk1:(⟨#[105,116,101,109,32]⟩++⟨xs[k].toArray⟩:ByteArray).size≤13:=by rw[C7];have e5:(CU #[105,116,101,109,32]).size=5:=rfl;omega
   have hk2:(⟨#[105,116,101,109,32]⟩++⟨xs[k].toArray⟩++⟨#[32]⟩:ByteArray).size≤14:=by rw[C7];have e5:(CU #[32]).size=1:=rfl;omega
   have hk3:(⟨#[105,116,101,109,32]⟩++⟨xs[k].toArray⟩++⟨#[32]⟩++dE ((S.it xs[k]).getD 0):ByteArray).size≤17:=by rw[C7];omega
   have HItk:Hid (Calls Tryz.prog 97 #[.int .i64 (((S.it xs[k]).getD 0:Nat):Int)] wr fun e w'=>e=.returned (.string (dE ((S.it xs[k]).getD 0)))∧Hid (Lib.IsBuilderF 185 5 B B (Lib.byteCells ((xs.take k).flatMap (bB S))) w'∧gT w' (.slice (some ⟨g,0,none⟩) xs.length cap) xs∧Below B wb w')):=by
    refine Calls.mono (HIt.out wr _ hm9 r3) ?_;rintro e w' ⟨rfl,hb'⟩
    exact⟨rfl,gg r1 hb',r2.below hb',r3.trans (hb'.mono (by omega))⟩
   have HWk:Hid (∀W,Hid (Lib.IsBuilderF 185 5 B B (Lib.byteCells ((xs.take k).flatMap (bB S))) W∧gT W (.slice (some ⟨g,0,none⟩) xs.length cap) xs∧Below B wb W)→Calls Tryz.prog 96 #[.pointer (some ⟨B,0,none⟩),.string (⟨#[105,116,101,109,32]⟩++⟨xs[k].toArray⟩++⟨#[32]⟩++dE ((S.it xs[k]).getD 0)++⟨#[10]⟩)] W fun e w'=>(∃z,e=.returned (.tuple #[.int .i64 z,.nilIface]))∧Hid (Lib.IsBuilderF 185 5 B B (Lib.byteCells ((xs.take (k+1)).flatMap (bB S))) w'∧gT w' (.slice (some ⟨g,0,none⟩) xs.length cap) xs∧Below B wb w')):=fun W hW=>by
    obtain⟨q1,q2,q3⟩:=hW.out;have hqs:=q3.size;have hq:((xs.take k).flatMap (bB S)).length+(⟨#[105,116,101,109,32]⟩++⟨xs[k].toArray⟩++⟨#[32]⟩++dE ((S.it xs[k]).getD 0)++⟨#[10]⟩:ByteArray).size≤140737488355328:=by
     simp only[C7];have e3:(CU #[10]).size=1:=rfl;have e4:(CU #[32]).size=1:=rfl;have e5:(CU #[105,116,101,109,32]).size=5:=rfl;omega
    have hc:=HW.out W ((xs.take k).flatMap (bB S)) (⟨#[105,116,101,109,32]⟩++⟨xs[k].toArray⟩++⟨#[32]⟩++dE ((S.it xs[k]).getD 0)++⟨#[10]⟩) q1 hq (by omega);have hd:(⟨#[105,116,101,109,32]⟩++⟨xs[k].toArray⟩++⟨#[32]⟩++dE ((S.it xs[k]).getD 0)++⟨#[10]⟩:ByteArray).data.toList=bB S xs[k]:=by simp[bB,om,ByteArray.data_append]
    generalize (⟨#[105,116,101,109,32]⟩++⟨xs[k].toArray⟩++⟨#[32]⟩++dE ((S.it xs[k]).getD 0)++⟨#[10]⟩:ByteArray)=kk at *;refine Calls.mono hc ?_;rintro e w' ⟨he,g1,g2,g3⟩
    refine⟨⟨_,he⟩,?_,q2.kept q1 g3,q3.trans g2⟩;rw[HSN.out,←hd];exact g1
   clear r1 r2 r3 HR hpl;generalize (S.it xs[k]).getD 0=m at *;generalize (CU xs[k].toArray)=x at *;go_wp2_with (first
    |(go_at_call 97;refine HItk.out.mono ?_;rintro e w2 ⟨rfl,hq2⟩)
    |(go_at_call 96;refine(HWk.out _ hq2).mono ?_;rintro e w3 ⟨⟨z,rfl⟩,hq3⟩))
   go_roundw
   case rel=>exact⟨k+1,by omega,by go_num,hq3⟩
   case measure=>simp[intOf];omega
  have hke:xs.take k=xs:=List.take_of_length_le (by omega);rw[hke]at r1 hpl
  have H2:=HT2.out wr _ r1 (by omega) r3;have H2':Hid (Calls Tryz.prog 98 #[.pointer (some ⟨B,0,none⟩),.string ⟨#[99,111,117,112,111,110,32]⟩,.map (some c2)] wr fun e w'=>e=.returned (.tuple #[])∧w'.cell? ⟨w.heap.size,2,none⟩=some (.map (some c3))∧∃xc:List (List UInt8),Hid (xc.Pairwise (· < ·)∧(∀s,s∈xc↔S.cp s=true)∧Lib.IsBuilderF 185 5 B B (Lib.byteCells (xs.flatMap (bB S)++xc.flatMap (bF fe))) w'∧Below B wb w'∧(xs.flatMap (bB S)++xc.flatMap (bF fe)).length≤1099511627776)):=by
   refine H2.mono ?_;rintro e w' ⟨rfl,xc,k1,k2,k3,k4,k5⟩
   refine⟨rfl,by rw[cell_of_heap (HX.out w' k5)];rfl,xc,k1,k2,k4,k5,?_⟩;have:=iR fe (by decide) xc (fun s hs=>h8 s (.inr (.inl ((k2 s).1 hs))));rw[Cz];omega
  have H3':Hid (∀W (xc:List (List UInt8)),Hid (xc.Pairwise (· < ·)∧(∀s,s∈xc↔S.cp s=true)∧Lib.IsBuilderF 185 5 B B (Lib.byteCells (xs.flatMap (bB S)++xc.flatMap (bF fe))) W∧Below B wb W∧(xs.flatMap (bB S)++xc.flatMap (bF fe)).length≤1099511627776)→Calls Tryz.prog 98 #[.pointer (some ⟨B,0,none⟩),.string ⟨#[110,111,116,101,32]⟩,.map (some c3)] W fun e w'=>e=.returned (.tuple #[])∧∃s:List UInt8,Hid (dp S ⟨s.toArray⟩∧Lib.IsBuilderF 185 5 B B (Lib.byteCells s) w'∧Below B wb w')):=fun W xc hW=>by
   obtain⟨q1,q2,q3,q4,q5⟩:=hW.out;refine(HT3.out W _ q3 q5 q4).mono ?_;rintro e w' ⟨rfl,xn,k1,k2,k3,k4,k5⟩
   exact⟨rfl,_,⟨xs,xc,xn,⟨HM.out.2,HM.out.1⟩,⟨q1,q2⟩,⟨k1,k2⟩,rfl⟩,k4,k5⟩
  have HS':Hid (∀W (s:List UInt8),Hid (dp S ⟨s.toArray⟩∧Lib.IsBuilderF 185 5 B B (Lib.byteCells s) W∧Below B wb W)→Calls Tryz.prog 99 #[.pointer (some ⟨B,0,none⟩)] W fun e w'=>∃t,e=.returned (.string t)∧Hid (dp S t∧Below w.heap.size w w')):=fun W s hW=>by
   refine(HSt.out W s hW.out.2.1 hW.out.2.2).mono ?_;rintro e w' ⟨rfl,k1⟩
   exact⟨_,rfl,hW.out.1,HBB.out.trans (k1.mono (by omega))⟩
  clear r1 r2 r3 HR hke H2 cx;go_wp2_with (first
   |(go_at_call_of 98 (Value.map (some c2));refine H2'.out.mono ?_;rintro e w2 ⟨rfl,cx2,xc,hq2⟩)
   |(go_at_call 98;refine(H3'.out _ xc hq2).mono ?_;rintro e w3 ⟨rfl,s,hq3⟩)
   |(go_at_call 99;refine(HS'.out _ s hq3).mono ?_;rintro e w4 ⟨t,rfl,hq4⟩))
  go_ret
  exact⟨t,rfl,hq4.out.1,hq4.out.2⟩
end Go.Proofs.YtckmppkdpnhodaaGreatDoor
