import Derived.Sort.Walk0
import Derived.Lib.ItoaNum
import Derived.Test.YtckmppkdpnhodaaGreatDoorT04
import Derived.Test.YtckmppkdpnhodaaGreatDoorT05
import Derived.Test.YtckmppkdpnhodaaGreatDoorT00
set_option maxRecDepth 100000
set_option maxHeartbeats 8000000
set_option linter.unusedVariables false
set_option linter.unusedSimpArgs false
open List renaming mem_append→CP,mem_singleton→CK,mem_append_left→C8,mem_cons_of_mem→CQ,mem_cons_self→Db,getElem_mem→CN,getElem?_eq_getElem→Cr,take_of_length_le→CX
open UInt8 renaming ofNat→CA
open ByteArray renaming data_append→DW,size_append→C7,mk→CU,empty→CL,toList→Dl
open Go.ByteArray renaming toList_eq→CZ
open Nat renaming le_trans→CC,le_refl→Cl,zero_le→CB
open Go.World renaming block_lt_of_cell?→Cy
open Go.RowKit.Below renaming refl→Ck
namespace Go.Proofs.YtckmppkdpnhodaaGreatDoor
section
open Go.RowKit Go.Proofs
variable {n:Nat}
abbrev Wd:=List UInt8
theorem fF{a b c:Wd}(h:a<b)(k:b<c):a<c:=List.lt_trans h k
theorem eA(a:Wd):¬ a<a:=List.lt_irrefl a
theorem lL{a b:Wd}(h:¬ a<b)(k:¬ b<a):a=b:=List.le_antisymm (List.not_lt.1 k) (List.not_lt.1 h)
theorem uU{a b:Wd}(h:a<b):¬ b<a:=fun k=>eA _ (fF h k)
theorem uT{a b c:Wd}(h:¬ b<a)(k:b<c):a<c:=by
 by_cases e:a<b
 ·exact fF e k
 rw[lL e h];exact k
theorem uS{a:Wd}:¬ a < []:=by simp
theorem ye{a:Wd}(h:a≠[]):[]<a:=by
 cases a with
 |nil=>exact absurd rfl h
 |cons x l=>simp
def eZ(ws:List Wd)(last best:Wd):Prop:=(best=[]∧∀x∈ws,¬ last<x)∨(last<best∧best∈ws∧∀x∈ws,last<x→¬ x<best)
theorem eZ.nil(last:Wd):eZ [] last []:=.inl ⟨rfl,fun _ h=>by cases h⟩
theorem eZ.skip{ws:List Wd}{last best x:Wd}(h:eZ ws last best)(hx:¬ last<x):eZ (ws++[x]) last best:=by
 rcases h with⟨rfl,h⟩|⟨h1,h2,h3⟩
 ·refine .inl ⟨rfl,fun y hy=>?_⟩;rcases CP.1 hy with hy|hy
  ·exact h y hy
  obtain rfl:=CK.1 hy;exact hx
 refine .inr ⟨h1,C8 _ h2,fun y hy=>?_⟩;rcases CP.1 hy with hy|hy
 ·exact h3 y hy
 obtain rfl:=CK.1 hy;exact fun k=>absurd k hx
theorem eZ.stay{ws:List Wd}{last best x:Wd}(h:eZ ws last best)(hb:best≠[])(hx:¬ x<best):eZ (ws++[x]) last best:=by
 rcases h with⟨rfl,h⟩|⟨h1,h2,h3⟩
 ·exact absurd rfl hb
 refine .inr ⟨h1,C8 _ h2,fun y hy=>?_⟩;rcases CP.1 hy with hy|hy
 ·exact h3 y hy
 obtain rfl:=CK.1 hy;exact fun _=>hx
theorem eZ.take{ws:List Wd}{last best x:Wd}(h:eZ ws last best)(hl:last<x)(hb:best=[]∨x<best):eZ (ws++[x]) last x:=by
 refine .inr ⟨hl,by simp,fun y hy hly=>?_⟩;rcases CP.1 hy with hy|hy
 ·rcases h with⟨rfl,h⟩|⟨h1,h2,h3⟩
  ·exact absurd hly (h y hy)
  rcases hb with rfl|hb
  ·exact absurd h1 uS
  exact fun k=>h3 y hy hly (fF k hb)
 obtain rfl:=CK.1 hy;exact eA _
structure nC(ws out:List Wd)(last:Wd):Prop where
 sorted:out.Pairwise (· < ·)
 sub:∀x∈out,x∈ws∧¬ last<x
 all:∀x∈ws,¬ last<x→x∈out
theorem nC.start{ws:List Wd}(h:∀x∈ws,x≠[]):nC ws [] []:=⟨List.Pairwise.nil,fun _ h=>(by cases h),fun x hx k=>absurd (ye (h x hx)) k⟩
theorem nC.step{ws out:List Wd}{last best:Wd}(h:nC ws out last)(hb:eZ ws last best)(hne:best≠[]):nC ws (out++[best]) best:=by
 rcases hb with⟨rfl,_⟩|⟨h1,h2,h3⟩
 ·exact absurd rfl hne
 refine⟨?_,?_,?_⟩
 ·rw[List.pairwise_append];refine⟨h.sorted,List.pairwise_singleton _ _,fun a ha b hb=>?_⟩;obtain rfl:=CK.1 hb;exact uT (h.sub a ha).2 h1
 ·intro x hx;rcases CP.1 hx with hx|hx
  ·exact⟨(h.sub x hx).1,fun k=>(h.sub x hx).2 (fF h1 k)⟩
  obtain rfl:=CK.1 hx;exact⟨h2,eA _⟩
 intro x hx k;by_cases hl:last<x
 ·have:=lL (h3 x hx hl) k;rw[this];simp
 exact C8 _ (h.all x hx hl)
theorem nC.done{ws out:List Wd}{last:Wd}(h:nC ws out last)(hb:eZ ws last []):∀x,x∈out↔x∈ws:=by
 intro x;refine⟨fun hx=>(h.sub x hx).1,fun hx=>h.all x hx ?_⟩;rcases hb with⟨_,hb⟩|⟨h1,_⟩
 ·exact hb x hx
 exact absurd h1 uS
def lQ(ws:List Wd)(last:Wd):Nat:=(ws.filter fun x=>decide (last<x)).length
theorem tu(ws:List Wd)(last:Wd):lQ ws last≤ws.length:=List.length_filter_le _ _
theorem iZ{α:Type}{p q:α→Bool}:∀(l:List α),(∀x∈l,p x=true→q x=true)→(l.filter p).length≤(l.filter q).length
 |[],_=>by simp
 |a::l,h=>by
  have ih:=iZ l (fun x hx=>h x (CQ _ hx));have ha:=h a (Db ..);cases hp:p a <;> cases hq:q a <;> simp_all
  omega
theorem iY{α:Type}{p q:α→Bool}:∀(l:List α),(∀x∈l,p x=true→q x=true)→(∃x∈l,p x=false∧q x=true)→(l.filter p).length<(l.filter q).length
 |[],_,h=>by obtain⟨_,h,_⟩:=h;cases h
 |a::l,h,⟨x,hx,hpx,hqx⟩=>by
  have hle:=iZ l (fun x hx=>h x (CQ _ hx));rcases List.mem_cons.1 hx with rfl|hx
  ·simp[List.filter_cons,hpx,hqx];omega
  have ih:=iY l (fun x hx=>h x (CQ _ hx)) ⟨x,hx,hpx,hqx⟩;have ha:=h a (Db ..);cases hp:p a <;> cases hq:q a <;> simp_all
  omega
theorem tq{ws:List Wd}{last best:Wd}(hb:eZ ws last best)(hne:best≠[]):lQ ws best<lQ ws last:=by
 rcases hb with⟨rfl,_⟩|⟨h1,h2,h3⟩
 ·exact absurd rfl hne
 exact iY ws (fun x _ hx=>by simp at hx ⊢;exact fF h1 hx) ⟨best,h2,by simp,by simpa using h1⟩
def strOf:Value→Wd|.string s=>s.toList|_=>[]
theorem sT{a b:Wd}(h:a<b):Op.bytesLess a b=true:=by rw[bytesLess_eq];simpa using h
theorem kR{a b:Wd}(h:¬ a<b):Op.bytesLess a b=false:=by rw[bytesLess_eq];simpa using h
def dE(n:Nat):ByteArray:=⟨(Lib.decDigits n).toArray⟩
def om:List UInt8:=[105,116,101,109,32]
def fe:List UInt8:=[99,111,117,112,111,110,32]
def qy:List UInt8:=[110,111,116,101,32]
def eM(tr:List Dn)(known:List Nat)(x:ByteArray):List UInt8:=if 0<bw tr known x then om++x.data.toList++[32]++(dE (bw tr known x)).data.toList++[10] else[]
def ea(tr:List Dn)(known:List Nat)(k:Kd)(name:List UInt8)(x:ByteArray):List UInt8:=if hasB tr known k x=true then name++x.data.toList++[10] else[]
def sH(tr:List Dn)(known:List Nat)(out:List ByteArray):List UInt8:=out.flatMap (eM tr known)++out.flatMap (ea tr known .established fe)++out.flatMap (ea tr known .closeWait qy)
theorem fA{α β:Type}(l:List α)(k:Nat)(h:k<l.length)(f:α→List β):(l.take (k+1)).flatMap f=(l.take k).flatMap f++f l[k]:=by
 rw[cF l k h,List.flatMap_append,List.flatMap_cons,List.flatMap_nil,List.append_nil]
theorem gD(tr:List Dn)(known:List Nat)(x:ByteArray):bw tr known x≤999:=by unfold bw;omega
theorem fL(h:n<10):dE n=⟨#[CA (48+n)]⟩:=by
 unfold dE;rw[Lib.decDigits,dif_pos h]
theorem mD(h:¬ n<10):dE n=dE (n / 10)++⟨#[CA (48+n % 10)]⟩:=by
 unfold dE;rw[Lib.decDigits,dif_neg h];apply ByteArray.ext
 simp[DW]
theorem eE:∀(k n:Nat),n<10 ^ (k+1)→(dE n).size≤k+1
 |0,n,h=>by rw[fL (by simpa using h)];simp[ByteArray.size]
 |k+1,n,h=>by
  by_cases h1:n<10
  ·rw[fL h1];simp[ByteArray.size]
  rw[mD h1,C7];have:=eE k (n / 10) (by rw[Nat.pow_succ]at h;omega);have e:(CU #[CA (48+n % 10)]).size=1:=rfl;omega
end
section
open Go.RowKit
variable {b:ByteArray}
theorem mK{a:ByteArray}(h:a=b):(a.toList == b.toList)=true:=by subst h;exact beq_self_eq_true _
theorem sS:(Kd.bs Go.Tcp.closed).toList=[97,100,100]:=by simp[Kd.bs,CZ]
theorem mi:(Kd.bs Go.Tcp.listen).toList=[114,101,109,111,118,101]:=by simp[Kd.bs,CZ]
theorem oh:(Kd.bs Go.Tcp.established).toList=[97,112,112,108,121]:=by simp[Kd.bs,CZ]
theorem mf:(Kd.bs Go.Tcp.finWait).toList=[114,101,118,111,107,101]:=by simp[Kd.bs,CZ]
theorem qE:(Kd.bs Go.Tcp.closeWait).toList=[110,111,116,101]:=by simp[Kd.bs,CZ]
section
variable (s:ByteArray) (w:World)
theorem nT(hs:s.size≤maxLen):Calls Tryz.prog 39 #[.string s] w fun e w' =>
  (match aY s with
  |some c=>e=.returned (.tuple #[.agg #[.string c.k.bs,.string c.word,.int .i64 (c.count:Int)],.bool true])
  |none=>∃(x y:ByteArray) (z:Int),e=.returned (.tuple #[.agg #[.string x,.string y,.int .i64 z],.bool false]))∧Below w.heap.size w w':=by
 have ht:Hid ((ag s).size≤maxLen):=CC (fS s) hs;have hh:Hid ((al (ag s)).size≤maxLen):=CC (kX _) ht.out;have hl:Hid ((ag (ag s)).size≤maxLen):=CC (fS _) ht.out;have hs':Hid (s.size≤maxLen):=hs;by_cases h1:aA s=true
 ·by_cases h2:bd (al (ag s))=true
  ·by_cases h3:al s=(Kd.bs Go.Tcp.closed)
   ·have b3:((al s).toList == [97,100,100])=true:=by rw[←sS];exact mK h3
    by_cases h4:aA (ag s)=true
    ·by_cases h5:0<aZ (ag (ag s))
     ·refine(vB s w hs' ht hh hl h1 h2 b3 h4 h5).mono fun e w' ⟨he,hb⟩=>⟨?_,hb⟩
      have:aY s=some ⟨.closed,al (ag s),aZ (ag (ag s))⟩:=by simp[aY,h1,h2,h3,h4,h5]
      rw[this];simp[he,h3]
     refine(tH s w hs' ht hh hl h1 h2 b3 h4 (by omega)).mono fun e w' ⟨he,hb⟩=>⟨?_,hb⟩
     have:aY s=none:=by simp[aY,h1,h2,h3,h4,h5]
     rw[this];exact he
    refine(tG s w hs' ht hh hl h1 h2 b3 (by simpa using h4)).mono fun e w' ⟨he,hb⟩=>⟨?_,hb⟩
    have:aY s=none:=by simp[aY,h1,h2,h3,h4]
    rw[this];exact he
   have b3:((al s).toList == [97,100,100])=false:=by rw[←sS];exact jb h3
   by_cases h4:aA (ag s)=true
   ·refine(tF s w hs' ht hh h1 h2 b3 h4).mono fun e w' ⟨he,hb⟩=>⟨?_,hb⟩
    have:aY s=none:=by simp[aY,h1,h2,h3,h4]
    rw[this];exact he
   have h4':aA (ag s)=false:=by simpa using h4
   by_cases k1:al s=(Kd.bs Go.Tcp.listen)
   ·refine(qj s w hs' ht hh h1 h2 b3 h4' (by rw[←mi];exact mK k1)).mono fun e w' ⟨he,hb⟩=>⟨?_,hb⟩
    have:aY s=some ⟨.listen,al (ag s),0⟩:=by simp only[aY,h1,h2,h3,h4,k1];simp[Kd.bs]
    rw[this];simp[he,k1]
   have c1:((al s).toList == [114,101,109,111,118,101])=false:=by rw[←mi];exact jb k1
   by_cases k2:al s=(Kd.bs Go.Tcp.established)
   ·refine(rK s w hs' ht hh h1 h2 b3 h4' c1 (by rw[←oh];exact mK k2)).mono fun e w' ⟨he,hb⟩=>⟨?_,hb⟩
    have:aY s=some ⟨.established,al (ag s),0⟩:=by simp only[aY,h1,h2,h3,h4,k2];simp[Kd.bs]
    rw[this];simp[he,k2]
   have c2:((al s).toList == [97,112,112,108,121])=false:=by rw[←oh];exact jb k2
   by_cases k3:al s=(Kd.bs Go.Tcp.finWait)
   ·refine(qi s w hs' ht hh h1 h2 b3 h4' c1 c2 (by rw[←mf];exact mK k3)).mono fun e w' ⟨he,hb⟩=>⟨?_,hb⟩
    have:aY s=some ⟨.finWait,al (ag s),0⟩:=by simp only[aY,h1,h2,h3,h4,k3];simp[Kd.bs]
    rw[this];simp[he,k3]
   have c3:((al s).toList == [114,101,118,111,107,101])=false:=by rw[←mf];exact jb k3
   by_cases k4:al s=(Kd.bs Go.Tcp.closeWait)
   ·refine(tD s w hs' ht hh h1 h2 b3 h4' c1 c2 c3 (by rw[←qE];exact mK k4)).mono fun e w' ⟨he,hb⟩=>⟨?_,hb⟩
    have:aY s=some ⟨.closeWait,al (ag s),0⟩:=by simp only[aY,h1,h2,h3,h4,k4];simp[Kd.bs]
    rw[this];simp[he,k4]
   have c4:((al s).toList == [110,111,116,101])=false:=by rw[←qE];exact jb k4
   refine(tE s w hs' ht hh h1 h2 b3 h4' c1 c2 c3 c4).mono fun e w' ⟨he,hb⟩=>⟨?_,hb⟩
   have:aY s=none:=by simp[aY,h1,h2,h3,h4,k1,k2,k3,k4]
   rw[this];exact he
  refine(vy s w hs' ht hh h1 (by simpa using h2)).mono fun e w' ⟨he,hb⟩=>⟨?_,hb⟩
  have:aY s=none:=by simp[aY,h1,h2]
  rw[this];exact he
 refine(vz s w hs' ht hh (by simpa using h1)).mono fun e w' ⟨he,hb⟩=>⟨?_,hb⟩
 have:aY s=none:=by simp[aY,h1]
 rw[this];exact he
theorem ke(hs:s.size≤maxLen){c:Cm}(h:aY s=some c):Calls Tryz.prog 39 #[.string s] w fun e w' =>
  e=.returned (.tuple #[.agg #[.string c.k.bs,.string c.word,.int .i64 (c.count:Int)],.bool true])∧Below w.heap.size w w':=(nT s w hs).mono fun e w' ⟨he,hb⟩=>⟨by rw[h]at he;exact he,hb⟩
theorem vA(hs:s.size≤maxLen)(h:aY s=none):Calls Tryz.prog 39 #[.string s] w fun e w' =>
  (∃(x y:ByteArray) (z:Int),e=.returned (.tuple #[.agg #[.string x,.string y,.int .i64 z],.bool false]))∧Below w.heap.size w w':=(nT s w hs).mono fun e w' ⟨he,hb⟩=>⟨by rw[h]at he;exact he,hb⟩
end
theorem so(d:Nat)(h:d<10):(CU #[48,49,50,51,52,53,54,55,56,57]).extract d (d+1)=⟨#[CA (48+d)]⟩:=by
 have:∀d:Fin 10,(CU #[48,49,50,51,52,53,54,55,56,57]).extract d.val (d.val+1)=⟨#[CA (48+d.val)]⟩:=by decide +kernel
 exact this ⟨d,h⟩
theorem qR:∀(n:Nat) (w:World),n<1000000→Calls Tryz.prog 113 #[.int .i64 (n:Int)] w fun e w'=>e=.returned (.string (dE n))∧w'=w:=by
 intro n
 induction n using Nat.strongRecOn with
 |ind n ih =>
 intro w hn;by_cases h:n<10
 ·have HD:Hid (dE n=(CU #[48,49,50,51,52,53,54,55,56,57]).extract (n % 10) (n % 10+1)):=by
   show _=_;rw[so _ (Nat.mod_lt _ (by omega)),fL h,Nat.mod_eq_of_lt h]
  clear ih;go_enter Tryz.func113,Tryz.ntmps113
  go_wp2
  go_ret
  exact⟨by rw[HD.out];rfl,rfl⟩
 have HI:Hid (∀w,Calls Tryz.prog 113 #[.int .i64 ((n:Int) / 10)] w fun e w'=>e=.returned (.string (dE (n / 10)))∧w'=w):=by
  intro w;have:=ih (n / 10) (by omega) w (by omega);rw[Int.natCast_ediv]at this
  exact this
 have HD:Hid (dE n=dE (n / 10)++(CU #[48,49,50,51,52,53,54,55,56,57]).extract (n % 10) (n % 10+1)):=by
  show _=_;rw[so _ (Nat.mod_lt _ (by omega)),mD h]
 have hsz:(dE (n / 10)).size≤6:=eE 5 _ (by omega);have hsz1:((CU #[48,49,50,51,52,53,54,55,56,57]).extract (n % 10) (n % 10+1)).size≤1:=by rw[so _ (Nat.mod_lt _ (by omega))];exact Cl _
 clear ih;go_enter Tryz.func113,Tryz.ntmps113
 go_wp2_with (go_at_call 113;refine(HI.out _).mono ?_;rintro e w' ⟨rfl,rfl⟩)
 go_ret
 exact⟨by rw[HD.out];rfl,rfl⟩
theorem mL{w:World}{p q:Option Addr}{cap capq:Nat}{tr:List Dn}{known:List Nat}(hT:bL w (.slice p tr.length cap) tr)(hK:aT w (.slice q known.length capq) known)(hk:∀y∈known,y<tr.length){k:Nat}(hlt:k<known.length):∃g gq,p=some ⟨g,0,none⟩∧q=some ⟨gq,0,none⟩∧known[k]<tr.length∧g<w.heap.size∧gq<w.heap.size∧w.cell? ⟨gq,k,none⟩=some (.int .i64 (known[k]:Int))∧w.cell? ⟨g,known[k]*7+3,none⟩=some (.string (cT tr known[k]).k.bs)∧w.cell? ⟨g,known[k]*7+4,none⟩=some (.string (cT tr known[k]).word)∧w.cell? ⟨g,known[k]*7+5,none⟩=some (.int .i64 ((cT tr known[k]).count:Int)):=by
 obtain⟨p',cap',hp',hc'⟩:=hT;have hyl:known[k]<tr.length:=hk _ (CN hlt);obtain⟨g',bv',hg',-,-,-,d3,d4,d5,-,-,-⟩:=hc' known[k] tr[known[k]] (Cr hyl);obtain⟨q',capq',hq',hcq'⟩:=hK;obtain⟨gq',hgq',ck⟩:=hcq' k known[k] (Cr hlt);obtain⟨rfl,-,rfl⟩:p=p'∧True∧cap=cap':=by simpa using hp'
 obtain⟨rfl,-,rfl⟩:q=q'∧True∧capq=capq':=by simpa using hq'
 have hcy:cT tr known[k]=tr[known[k]].c:=jT (Cr hyl);rw[←hcy]at d3 d4 d5
 exact⟨g',gq',hg',hgq',hyl,Cy w _ d3,Cy w _ ck,ck,d3,d4,d5⟩
theorem gC(tv kv:Value)(tr:List Dn)(known:List Nat)(word:ByteArray)(w:World)(hT:bL w tv tr)(hK:aT w kv known)(hk:∀y∈known,y<tr.length)(hs:Small tr)(hl:tr.length≤maxLen)(hkl:known.length≤1000000000000):Calls Tryz.prog 40 #[tv,kv,.string word] w fun e w'=>e=.returned (.int .i64 (bw tr known word:Int))∧Below w.heap.size w w':=by
 obtain⟨p,cap,hp,hc⟩:=id hT;obtain⟨q,capq,hq,hcq⟩:=id hK;subst hp hq;clear hc hcq;have HL:=hid hl;clear hl;go_enter Tryz.func40,Tryz.ntmps40
 go_wp2
 go_loopw [7,8] (fun n i wr=>∃k:Nat,k≤known.length∧i=.int .i64 k∧n=.int .i64 ((sumOf tr known word (known.take k):Nat):Int)∧Below w.heap.size w wr) (fun _ i _=>known.length-(intOf i).toNat)
 case atStart=>exact⟨0,CB _,rfl,by simp[sumOf],Ck _ _⟩
 case round =>
  obtain⟨k,hk',rfl,rfl,hbw⟩:=hrel;have hTr:=hT.below hbw;have hKr:=hK.below hbw;have hsz:=hbw.size;by_cases hlt:k<known.length
  ·obtain⟨g,gq,rfl,rfl,hyl,hg,hgq,ck,d3,d4,d5⟩:=mL hTr hKr hk hlt;have hsum:=pS hs known word (known.take k);have hsl:(known.take k).length≤k:=List.length_take_le _ _;have HSN:Hid (sumOf tr known word (known.take (k+1))=sumOf tr known word (known.take k)+nB tr known word known[k]):=by
    rw[cF known k hlt];exact rD tr known word _ _
   have hcl:(cT tr known[k]).count≤99:=by
    have:=hs tr[known[k]] (CN hyl);rwa[jT (Cr hyl)]
   have HH:Hid (nB tr known word known[k]=if(cT tr known[k]).k=.closed∧(cT tr known[k]).word=word∧cZ tr known known[k]=true then(cT tr known[k]).count else 0):=rfl;have HA:Hid (∀W,Below wr.heap.size wr W→Calls Tryz.prog 77 #[.slice (some ⟨g,0,none⟩) tr.length cap,.slice (some ⟨gq,0,none⟩) known.length capq,.int .i64 (known[k]:Int)] W fun e w'=>e=.returned (.bool (cZ tr known known[k]))∧Below W.heap.size W w'):=fun W hW=>nO _ _ tr known known[k] W (hTr.below hW) (hKr.below hW) hk hyl HL.out (by simp only[maxLen];omega)
   clear hT hK hTr hKr;generalize cZ tr known known[k]=ib at *;generalize cT tr known[k]=Y at *;generalize nB tr known word known[k]=ad at *;generalize sumOf tr known word (known.take k)=sm at *;generalize hE:sumOf tr known word (known.take (k+1))=sm' at *;have HE:Hid (sumOf tr known word (known.take (k+1))=sm'):=hE;clear hE;generalize known[k]=y at *;obtain⟨ky,wy,cy⟩:=Y;have hsm:sm≤99000000000000:=by omega
   simp only at hcl d3 d4 d5;by_cases hky:ky=.closed
   ·subst hky;simp only[Kd.bs]at d3;by_cases hw:wy=word
    ·subst hw;cases ib
     ·have hz:Hid (sm'=sm):=by have:=HSN.out;have:=HH.out;simp at this;simp only[Hid];omega
      go_wp2_with (go_at_call 77;refine(HA.out _ (by first|exact Ck _ _|exact(Ck _ _).alloc (Cl _) _)).mono ?_;rintro e w' ⟨rfl,hbs⟩)
      go_roundw
      case rel=>exact⟨k+1,by omega,by go_num,by rw[HE.out,hz.out],(hbw.alloc hsz _).trans (hbs.mono (by simp;omega))⟩
      case measure=>simp[intOf];omega
     have hz:Hid (sm'=sm+cy):=by have:=HSN.out;have:=HH.out;simp at this;simp only[Hid];omega
     go_wp2_with (go_at_call 77;refine(HA.out _ (by first|exact Ck _ _|exact(Ck _ _).alloc (Cl _) _)).mono ?_;rintro e w' ⟨rfl,hbs⟩;obtain⟨hcb,hfb⟩:=xW hbs)
     go_roundw
     case rel=>exact⟨k+1,by omega,by go_num,by rw[HE.out,hz.out];go_num,(hbw.alloc hsz _).trans (hbs.mono (by simp;omega))⟩
     case measure=>simp[intOf];omega
    have hz:Hid (sm'=sm):=by have:=HSN.out;have:=HH.out;simp[hw]at this;simp only[Hid];omega
    have hw':=jb hw;clear hw;go_wp2
    go_roundw
    case rel=>exact⟨k+1,by omega,by go_num,by rw[HE.out,hz.out],hbw.alloc hsz _⟩
    case measure=>simp[intOf];omega
   have hz:Hid (sm'=sm):=by have:=HSN.out;have:=HH.out;simp[hky]at this;simp only[Hid];omega
   have hne:=yz hky;clear hky;generalize ky.bs=yv at *;go_wp2
   go_roundw
   case rel=>exact⟨k+1,by omega,by go_num,by rw[HE.out,hz.out],hbw.alloc hsz _⟩
   case measure=>simp[intOf];omega
  have he:known.take k=known:=CX (by omega);have HNN:Hid (bw tr known word=min 999 (sumOf tr known word (known.take k))):=by rw[he];rfl
  clear he;have hsum:=pS hs known word (known.take k);have hsl:(known.take k).length≤k:=List.length_take_le _ _;generalize sumOf tr known word (known.take k)=sm at *;have hsm:sm≤99000000000000:=by omega
  by_cases hg:999<sm
  ·go_wp2
   go_ret
   exact⟨cM (by rw[HNN.out];omega),hbw⟩
  go_wp2
  go_ret
  exact⟨cM (by rw[HNN.out];omega),hbw⟩
theorem lE(tv kv:Value)(tr:List Dn)(known:List Nat)(kd:Kd)(word:ByteArray)(w:World)(hT:bL w tv tr)(hK:aT w kv known)(hk:∀y∈known,y<tr.length)(hl:tr.length≤maxLen)(hkl:known.length≤1000000000000):Calls Tryz.prog 41 #[tv,kv,.string kd.bs,.string word] w fun e w'=>e=.returned (.bool (hasB tr known kd word))∧Below w.heap.size w w':=by
 obtain⟨p,cap,hp,hc⟩:=id hT;obtain⟨q,capq,hq,hcq⟩:=id hK;subst hp hq;clear hc hcq;have HL:=hid hl;clear hl;generalize hkb:kd.bs=kb;have HKB:Hid (kd.bs=kb):=hkb;clear hkb;go_enter Tryz.func41,Tryz.ntmps41
 go_wp2
 go_loopw [9] (fun i wr=>∃k:Nat,k≤known.length∧i=.int .i64 k∧Hid ((known.take k).any (dz tr known kd word)=false)∧Below w.heap.size w wr) (fun i _=>known.length-(intOf i).toNat)
 case atStart=>exact⟨0,CB _,rfl,by simp[Hid],Ck _ _⟩
 case round =>
  obtain⟨k,hk',rfl,HS,hbw⟩:=hrel;have hTr:=hT.below hbw;have hKr:=hK.below hbw;have hsz:=hbw.size;by_cases hlt:k<known.length
  ·obtain⟨g,gq,rfl,rfl,hyl,hg,hgq,ck,d3,d4,d5⟩:=mL hTr hKr hk hlt;have hmem:known[k]∈known:=CN hlt;have HSN:Hid ((known.take (k+1)).any (dz tr known kd word)=((known.take k).any (dz tr known kd word) || dz tr known kd word known[k])):=by
    show _=_;rw[cF known k hlt,List.any_append];simp
   have HH:Hid (dz tr known kd word known[k]=(decide ((cT tr known[k]).k=kd) && decide ((cT tr known[k]).word=word) && cZ tr known known[k])):=rfl;have HA:Hid (∀W,Below wr.heap.size wr W→Calls Tryz.prog 77 #[.slice (some ⟨g,0,none⟩) tr.length cap,.slice (some ⟨gq,0,none⟩) known.length capq,.int .i64 (known[k]:Int)] W fun e w'=>e=.returned (.bool (cZ tr known known[k]))∧Below W.heap.size W w'):=fun W hW=>nO _ _ tr known known[k] W (hTr.below hW) (hKr.below hW) hk hyl HL.out (by simp only[maxLen];omega)
   clear hT hK hTr hKr;generalize cZ tr known known[k]=ib at *;generalize cT tr known[k]=Y at *;generalize known[k]=y at *;obtain⟨ky,wy,cy⟩:=Y;simp only at d3 d4 d5;by_cases hky:ky=kd
   ·rw[hky,HKB.out]at d3;by_cases hw:wy=word
    ·subst hw;cases ib
     ·have hz:Hid (dz tr known kd wy y=false):=by have:=HH.out;simpa[Hid] using this
      go_wp2_with (go_at_call 77;refine(HA.out _ (by first|exact Ck _ _|exact(Ck _ _).alloc (Cl _) _)).mono ?_;rintro e w' ⟨rfl,hbs⟩)
      go_roundw
      case rel=>exact⟨k+1,by omega,by go_num,by show _=false;rw[HSN.out,HS.out,hz.out];rfl,(hbw.alloc hsz _).trans (hbs.mono (by simp;omega))⟩
      case measure=>simp[intOf];omega
     have hz:Hid (dz tr known kd wy y=true):=by have:=HH.out;simpa[Hid,hky] using this
     go_wp2_with (go_at_call 77;refine(HA.out _ (by first|exact Ck _ _|exact(Ck _ _).alloc (Cl _) _)).mono ?_;rintro e w' ⟨rfl,hbs⟩;obtain⟨hcb,hfb⟩:=xW hbs)
     go_ret
     exact⟨aF (ug hmem hz.out).symm,(hbw.alloc hsz _).trans (hbs.mono (by simp;omega))⟩
    have hz:Hid (dz tr known kd word y=false):=by have:=HH.out;simpa[Hid,hw] using this
    have hw':=jb hw;clear hw;go_wp2
    go_roundw
    case rel=>exact⟨k+1,by omega,by go_num,by show _=false;rw[HSN.out,HS.out,hz.out];rfl,hbw.alloc hsz _⟩
    case measure=>simp[intOf];omega
   have hz:Hid (dz tr known kd word y=false):=by have:=HH.out;simpa[Hid,hky] using this
   have hne:(ky.bs.toList == kb.toList)=false:=by rw[←HKB.out];exact jb fun e=>hky (Kd.Bt e)
   clear hky;generalize ky.bs=yv at *;go_wp2
   go_roundw
   case rel=>exact⟨k+1,by omega,by go_num,by show _=false;rw[HSN.out,HS.out,hz.out];rfl,hbw.alloc hsz _⟩
   case measure=>simp[intOf];omega
  have he:known.take k=known:=CX (by omega);have HNN:Hid (hasB tr known kd word=false):=by have:=HS.out;rw[he]at this;exact this
  clear he;go_wp2
  go_ret
  exact⟨aF HNN.out.symm,hbw⟩
def bu(tr:List Dn)(known:List Nat):List Wd:=known.map fun y=>(cT tr y).word.toList
theorem gW(tr:List Dn)(known:List Nat):(bu tr known).length=known.length:=by simp[bu]
theorem oG(tr:List Dn)(known:List Nat)(k:Nat)(h:k<known.length):bu tr (known.take (k+1))=bu tr (known.take k)++[(cT tr known[k]).word.toList]:=by
 unfold bu;rw[cF known k h,List.map_append];rfl
theorem Tryz.A2:(Tryz.prog.info? 9).map (fun i=>(i.zero,i.size,i.bytes))=some (some (.string CL),1,16):=by kernel_rfl
theorem nJ(h:b.toList=[]):b=CL:=toList_inj (by rw[h];simp[CZ])
def ru(w w':World)(v:Value)(ws:List Wd):Prop:=∃out:List ByteArray,w'.ownsRow w.heap.size 9 1 v out.length (out.map Value.string)∧Below w.heap.size w w'∧(out.map Dl).Pairwise (· < ·)∧(∀x,x∈out.map Dl↔x∈ws)∧out.length≤ws.length
theorem tj(tv kv:Value)(tr:List Dn)(known:List Nat)(w:World)(hT:bL w tv tr)(hK:aT w kv known)(hk:∀y∈known,y<tr.length)(hne:∀x∈bu tr known,x≠[])(hl:tr.length≤maxLen)(hkl:known.length≤100000000000):Calls Tryz.prog 112 #[tv,kv] w fun e w'=>∃v,e=.returned v∧ru w w' v (bu tr known):=by
 obtain⟨i0,hi,hz0,hz1,hz2⟩:=info_parts Tryz.A2;obtain⟨p,cap,hp,hc⟩:=id hT;obtain⟨q,capq,hq,hcq⟩:=id hK;subst hp hq;clear hc hcq;unfold maxLen at hl;have HNE:=hid hne;clear hne;go_enter Tryz.func112,Tryz.ntmps112
 go_wp2
 go_loopw [5,6] (fun v l wr=>∃(out:List ByteArray) (ao:Option Addr) (cv:Nat) (last:ByteArray),v=.slice ao out.length cv∧l=.string last∧wr.ownsRow w.heap.size 9 1 v out.length (out.map Value.string)∧Below w.heap.size w wr∧Hid (nC (bu tr known) (out.map Dl) last.toList)∧out.length+lQ (bu tr known) last.toList≤known.length) (fun _ l _=>lQ (bu tr known) (strOf l))
 case atStart=>exact⟨[],none,0,CL,rfl,rfl,World.ownsRow_nil _ _ _ _,Ck _ _,by show nC _ _ _;simpa[CZ] using nC.start HNE.out,by
  have:=tu (bu tr known) (CL).toList;have e:(bu tr known).length=known.length:=by simp[bu]
  simp only[List.length_nil];omega⟩
 case round =>
  obtain⟨out,ao,cv,last,rfl,rfl,hown,hbw,HW,hcnt⟩:=hrel;have hTr:=hT.below hbw;have hKr:=hK.below hbw;have hsz:=hbw.size;go_wp2
  go_loop [7,8] (fun b i=>∃(k:Nat) (best:ByteArray),k≤known.length∧i=.int .i64 k∧b=.string best∧Hid (eZ (bu tr (known.take k)) last.toList best.toList)) (fun _ i=>known.length-(intOf i).toNat)
  case atStart=>exact⟨0,_,CB _,rfl,rfl,by simpa[Hid,bu,CZ] using eZ.nil _⟩
  case round =>
   obtain⟨k,best,hk',rfl,rfl,HB⟩:=hrel;by_cases hlt:k<known.length
   ·obtain⟨g,gq,rfl,rfl,hyl,hg,hgq,ck,d3,d4,d5⟩:=mL hTr hKr hk hlt;have HWS:Hid (bu tr (known.take (k+1))=bu tr (known.take k)++[(cT tr known[k]).word.toList]):=oG tr known k hlt;clear hT hK hTr hKr;generalize cT tr known[k]=Y at *;generalize known[k]=y at *;obtain⟨ky,wy,cy⟩:=Y;simp only at d3 d4 d5;by_cases hgt:last.toList<wy.toList
    ·have f1:Op.bytesLess wy.toList last.toList=false:=kR (uU hgt);have f2:(wy.toList == last.toList)=false:=by rw[beq_eq_false_iff_ne];exact fun e=>eA _ (e ▸ hgt)
     have f3:¬ wy.toList=last.toList:=fun e=>eA _ (e ▸ hgt)
     have HG:Hid (last.toList<wy.toList):=hgt;clear hgt;by_cases hbe:best.toList=[]
     ·have HBE:Hid (best.toList=[]∨wy.toList<best.toList):=.inl hbe;obtain rfl:=nJ hbe;clear hbe;go_wp2
      go_round
      case rel=>exact⟨k+1,wy,by omega,by go_num,rfl,by show eZ _ _ _;rw[HWS.out];exact eZ.take HB.out HG.out HBE.out⟩
      case measure=>simp[intOf];omega
     have g1:best.toList.isEmpty=false:=by simpa using hbe
     have HBE:Hid (best.toList≠[]):=hbe;by_cases hlb:wy.toList<best.toList
     ·have g2:=sT hlb;have HLB:Hid (wy.toList<best.toList):=hlb;clear hlb;go_wp2
      go_round
      case rel=>exact⟨k+1,wy,by omega,by go_num,rfl,by show eZ _ _ _;rw[HWS.out];exact eZ.take HB.out HG.out (.inr HLB.out)⟩
      case measure=>simp[intOf];omega
     have g2:=kR hlb;have HLB:Hid (¬ wy.toList<best.toList):=hlb;clear hlb;go_wp2
     go_round
     case rel=>exact⟨k+1,best,by omega,by go_num,rfl,by show eZ _ _ _;rw[HWS.out];exact eZ.stay HB.out HBE.out HLB.out⟩
     case measure=>simp[intOf];omega
    have HG:Hid (¬ last.toList<wy.toList):=hgt;by_cases heq:wy.toList=last.toList
    ·obtain rfl:=toList_inj heq;clear heq hgt;go_wp2
     go_round
     case rel=>exact⟨k+1,best,by omega,by go_num,rfl,by show eZ _ _ _;rw[HWS.out];exact eZ.skip HB.out HG.out⟩
     case measure=>simp[intOf];omega
    have f1:Op.bytesLess wy.toList last.toList=true:=sT (by
     by_cases h:wy.toList<last.toList
     ·exact h
     exact absurd (lL h hgt) heq)
    clear heq hgt;go_wp2
    go_round
    case rel=>exact⟨k+1,best,by omega,by go_num,rfl,by show eZ _ _ _;rw[HWS.out];exact eZ.skip HB.out HG.out⟩
    case measure=>simp[intOf];omega
   have HB':Hid (eZ (bu tr known) last.toList best.toList):=by
    have:=HB.out;rwa[CX (by omega)]at this
   clear HB hT hK hTr hKr;by_cases hbe:best.toList=[]
   ·have HBE:Hid (best.toList=[]):=hbe;obtain rfl:=nJ hbe;clear hbe;go_wp2
    go_ret
    exact⟨_,rfl,out,hown,hbw,HW.out.sorted,HW.out.done (by have:=HB'.out;rwa[HBE.out]at this),by rw[gW];omega⟩
   have g1:best.toList.isEmpty=false:=by simpa using hbe
   have HBE:Hid (best.toList≠[]):=hbe;have hlt2:=tq HB'.out hbe;go_wp2_with (at_builtin;refine wpList_append_lies _ rfl _ _ 133 rfl w.heap.size 9 i0 (.string CL) 1 16 Tryz.underlying133 hi hz0 hz1 hz2 rfl (by decide) _ out.length (out.map Value.string) rfl (hown.alloc _) ⟨wr.heap.size,0,none⟩ 1 1 [.string best] rfl rfl (cell_one_new _ _ _) (fun x hx=>by simp at hx;subst hx;rfl) (by decide) (by unfold maxLen;omega) (by omega) (by simp;omega) (wr.heap.size+1) (by simp) ?_;intro g cap' w1 hown' hgrow hat hlt')
   go_roundw
   case rel=>exact⟨out++[best],some ⟨g,0,none⟩,cap',best,by simp,rfl,by simpa using hown',(hbw.alloc hsz _).grown hgrow (by simp;omega) (fun q hq=>(hown.lt q hq).1),by simpa[Hid] using HW.out.step HB'.out HBE.out,by simp;omega⟩
   case measure=>simp[strOf];omega
end
section
open Go.RowKit Go.Proofs
variable {v:Value} {w:World} {xs:List ByteArray}
def kJ(w:World)(v:Value)(xs:List ByteArray):Prop:=∃p cap,v=.slice p xs.length cap∧∀(i:Nat) (x:ByteArray),xs[i]?=some x→∃g,p=some ⟨g,0,none⟩∧w.cell? ⟨g,i,none⟩=some (.string x)
theorem kJ.below{w':World}(h:kJ w v xs)(hb:Below w.heap.size w w'):kJ w' v xs:=by
 obtain⟨p,cap,hv,hc⟩:=h;refine⟨p,cap,hv,fun i x hx=>?_⟩;obtain⟨g,hg,hcell⟩:=hc i x hx;exact⟨g,hg,aa hb hcell⟩
theorem kJ.Au{base:Nat}{e:TypeId}(h:w.ownsRow base e 1 v xs.length (xs.map Value.string)):kJ w v xs:=by
 rcases h.2 with⟨rfl,h0⟩|⟨g,cap,cur,hv,hb,hg,h1,h2,h3,h4⟩
 ·have:xs=[]:=List.length_eq_zero_iff.1 h0;subst this;exact⟨none,0,rfl,fun i x hx=>by simp at hx⟩
 refine⟨some ⟨g,0,none⟩,cap,hv,fun i x hx=>⟨g,rfl,?_⟩⟩;have:=h.cells (g:=g) (by rw[hv];rfl) i (.string x) (by simp[hx]);rwa[Addr.add_mid,Nat.zero_add]at this
def oW(tr:List Dn)(known:List Nat)(out:List ByteArray)(j:Nat):List UInt8:=out.flatMap (eM tr known)++(if 1≤j then out.flatMap (ea tr known .established fe) else[])++(if 2≤j then out.flatMap (ea tr known .closeWait qy) else[])
def gK(tr:List Dn)(known:List Nat)(s:ByteArray):Prop:=∃out:List ByteArray,(out.map Dl).Pairwise (· < ·)∧(∀x,x∈out.map Dl↔x∈bu tr known)∧s.data.toList=sH tr known out
theorem qe(tv kv:Value)(tr:List Dn)(known:List Nat)(w:World)(hT:bL w tv tr)(hK:aT w kv known)(hk:∀y∈known,y<tr.length)(hs:Small tr)(hne:∀x∈bu tr known,x≠[])(hwl:∀x∈bu tr known,x.length≤8)(hl:tr.length≤maxLen)(hkl:known.length≤100000000):Calls Tryz.prog 64 #[tv,kv] w fun e w'=>∃s,e=.returned (.string s)∧gK tr known s∧Below w.heap.size w w':=by
 have HWO:Hid (∀W,Below w.heap.size w W→Calls Tryz.prog 112 #[tv,kv] W fun e w'=>∃v,e=.returned v∧ru W w' v (bu tr known)):=fun W hW=>tj tv kv tr known W (hT.below hW) (hK.below hW) hk hne hl (by omega)
 have HNU:Hid (∀W x,Below w.heap.size w W→Calls Tryz.prog 40 #[tv,kv,.string x] W fun e w'=>e=.returned (.int .i64 (bw tr known x:Int))∧Below W.heap.size W w'):=fun W x hW=>gC tv kv tr known x W (hT.below hW) (hK.below hW) hk hs hl (by omega)
 have HHA:Hid (∀W kd x,Below w.heap.size w W→Calls Tryz.prog 41 #[tv,kv,.string (Kd.bs kd),.string x] W fun e w'=>e=.returned (.bool (hasB tr known kd x))∧Below W.heap.size W w'):=fun W kd x hW=>lE tv kv tr known kd x W (hT.below hW) (hK.below hW) hk hl (by omega)
 clear hT hK;go_enter Tryz.func64,Tryz.ntmps64
 go_wp2_with (go_at_call 112;refine(HWO.out _ (Ck _ _)).mono ?_;rintro e w1 ⟨v,rfl,out,hown,hb1,hsort,hmem,hlen0⟩)
 have hS1:=kJ.Au hown;obtain⟨p,cap,rfl,hcs⟩:=id hS1;have hlen:out.length≤100000000:=by rw[gW]at hlen0;omega
 have hw8:∀x∈out,x.size≤8:=fun x hx=>by
  have:=hwl x.toList ((hmem _).1 (List.mem_map_of_mem hx));rw[CZ]at this
  simpa using this
 have HM:Hid (∀x,x∈out.map Dl↔x∈bu tr known):=hmem;have HSO:Hid ((out.map Dl).Pairwise (· < ·)):=hsort;clear hmem hsort hcs hown;go_loopw [6,7] (fun sv i wr=>∃(k:Nat) (s:ByteArray),k≤out.length∧i=.int .i64 k∧sv=.string s∧Hid (s.data.toList=(out.take k).flatMap (eM tr known))∧s.size≤32*k∧Below w1.heap.size w1 wr) (fun _ i _=>out.length-(intOf i).toNat)
 case atStart=>exact⟨0,_,CB _,rfl,rfl,by simp[Hid],by simp[ByteArray.size],Ck _ _⟩
 case round =>
  obtain⟨k,s,hk',rfl,rfl,HSE,hss,hbr⟩:=hrel;by_cases hlt:k<out.length
  ·obtain⟨p',cap',hp',hcs⟩:=hS1.below hbr;obtain⟨g,hg,ck⟩:=hcs k out[k] (Cr hlt);obtain⟨rfl,-,rfl⟩:p=p'∧True∧cap=cap':=by simpa using hp'
   subst hg;clear hp' hcs;have hx8:out[k].size≤8:=hw8 _ (CN hlt);have HSN:Hid ((out.take (k+1)).flatMap (eM tr known)=(out.take k).flatMap (eM tr known)++eM tr known out[k]):=fA out k hlt _;have HIL:Hid (eM tr known out[k]=if 0<bw tr known out[k] then om++out[k].data.toList++[32]++(dE (bw tr known out[k])).data.toList++[10] else[]):=rfl;have HNK:Hid (∀W,Below w.heap.size w W→Calls Tryz.prog 40 #[tv,kv,.string out[k]] W fun e w'=>e=.returned (.int .i64 (bw tr known out[k]:Int))∧Below W.heap.size W w'):=fun W hW=>HNU.out W _ hW
   have hnl:=gD tr known out[k];have hbw:Below w.heap.size w wr:=hb1.trans (hbr.mono hb1.size);have hd3:(dE (bw tr known out[k])).size≤3:=eE 2 _ (by omega);generalize hnn:bw tr known out[k]=nn at *;clear hnn;generalize hxx:out[k]=x at *;clear hxx;by_cases hpos:0<nn
   ·go_wp2_with (go_at_call 40;refine(HNK.out _ hbw).mono ?_;rintro e w2 ⟨rfl,hb2⟩)
    have ck2:=aa hb2 ck;go_quiet ((go_at_call 113;exact Calls.quiet_of_same (qR _ _ (by omega))))
    go_wp2
    go_roundw
    case rel=>exact⟨k+1,_,by omega,by go_num,rfl,by
      show _=_
      rw[HSN.out,HIL.out,if_pos hpos,←HSE.out];simp[DW,om],by
      rw[C7,C7,C7,C7,C7];have e1:(CU #[105,116,101,109,32]).size=5:=rfl;have e2:(CU #[32]).size=1:=rfl;have e3:(CU #[10]).size=1:=rfl;omega,below_drewN (hbr.trans (hb2.mono hbr.size)) _⟩
    case measure=>simp[intOf];omega
   go_wp2_with (go_at_call 40;refine(HNK.out _ hbw).mono ?_;rintro e w2 ⟨rfl,hb2⟩)
   go_roundw
   case rel=>exact⟨k+1,s,by omega,by go_num,rfl,by
     show _=_
     rw[HSN.out,HIL.out,if_neg hpos,←HSE.out];simp,by omega,hbr.trans (hb2.mono hbr.size)⟩
   case measure=>simp[intOf];omega
  have hke:out.take k=out:=CX (by omega);have HS1:Hid (s.data.toList=out.flatMap (eM tr known)):=by have:=HSE.out;rwa[hke]at this
  clear HSE hke;obtain⟨wa,hwa⟩:∃x,x=wr:=⟨_,rfl⟩
  subst hwa;have hsza:=hbr.size;have hss1:s.size≤32*out.length:=by omega
  clear hss hk';have hSa:=hS1.below hbr;have hba:Below w.heap.size w wa:=hb1.trans (hbr.mono hb1.size);clear hS1 hbr;go_wp2
  go_loopw [6,11] (fun sv i wr2=>∃(j:Nat) (s2:ByteArray),j≤2∧i=.int .i64 j∧sv=.string s2∧Hid (s2.data.toList=oW tr known out j)∧s2.size≤32*out.length+32*out.length*j∧Below (wa.heap.size+2) ((wa.alloc (.cells #[.string ⟨#[97,112,112,108,121]⟩,.string ⟨#[110,111,116,101]⟩] 9)).alloc (.cells #[.string ⟨#[99,111,117,112,111,110,32]⟩,.string ⟨#[110,111,116,101,32]⟩] 9)) wr2) (fun _ i _=>2-(intOf i).toNat)
  case atStart=>exact⟨0,s,by omega,rfl,rfl,by show _=_;rw[HS1.out];simp[oW],by omega,Ck _ _⟩
  case round =>
   obtain⟨j,s2,hj,rfl,rfl,HSE,hss2,hbr2⟩:=hrel;obtain⟨wb,hwb⟩:∃x,x=wr:=⟨_,rfl⟩
   subst hwb;have hszb:wa.heap.size+2≤wb.heap.size:=by have:=hbr2.size;simpa using this
   have hbb:Below w.heap.size w wb:=(((hba.alloc hba.size _).alloc (by have:=hba.size;simp;omega) _)).trans (hbr2.mono (by have:=hba.size;omega));have hbab:Below wa.heap.size wa wb:=((((Ck _ wa).alloc (Cl _) _).alloc (by simp) _)).trans (hbr2.mono (by omega));have hSb:=hSa.below hbab;by_cases hj2:j<2
   ·obtain⟨kd,nm,kc,nc,HPJ,hn7⟩:∃(kd:Kd) (nm:ByteArray),wb.cell? ⟨wa.heap.size,j,none⟩=some (.string kd.bs)∧wb.cell? ⟨wa.heap.size+1,j,none⟩=some (.string nm)∧Hid (oW tr known out (j+1)=oW tr known out j++out.flatMap (ea tr known kd nm.data.toList))∧nm.size≤7:=by
     have c0:∀o,wb.cell? ⟨wa.heap.size,o,none⟩=_:=fun o=>hbr2.cell (p:=⟨wa.heap.size,o,none⟩) (by simp)
     have c1:∀o,wb.cell? ⟨wa.heap.size+1,o,none⟩=_:=fun o=>hbr2.cell (p:=⟨wa.heap.size+1,o,none⟩) (by simp)
     rcases(show j=0∨j=1 by omega) with rfl|rfl
     ·exact⟨.established,⟨#[99,111,117,112,111,110,32]⟩,by rw[c0];simp[Kd.bs],by rw[c1];simp,by simp[Hid,oW,fe],by decide⟩
     exact⟨.closeWait,⟨#[110,111,116,101,32]⟩,by rw[c0];simp[Kd.bs],by rw[c1];simp,by simp[Hid,oW,qy],by decide⟩
    have j0:(0:Int)≤(j:Int):=by omega
    have j1:(j:Int)<2:=by omega
    have hbl0:=Cy wb _ kc;have hbl1:=Cy wb _ nc;have HBB:Hid (Below (wa.heap.size+2) ((wa.alloc (.cells #[.string ⟨#[97,112,112,108,121]⟩,.string ⟨#[110,111,116,101]⟩] 9)).alloc (.cells #[.string ⟨#[99,111,117,112,111,110,32]⟩,.string ⟨#[110,111,116,101,32]⟩] 9)) wb):=hbr2;clear hbr2;go_wp2
    go_loopw [6,12] (fun sv i wr3=>∃(k:Nat) (s3:ByteArray),k≤out.length∧i=.int .i64 k∧sv=.string s3∧Hid (s3.data.toList=oW tr known out j++(out.take k).flatMap (ea tr known kd nm.data.toList))∧s3.size≤32*out.length+32*out.length*j+32*k∧Below wb.heap.size wb wr3) (fun _ i _=>out.length-(intOf i).toNat)
    case atStart=>exact⟨0,s2,by omega,rfl,rfl,by show _=_;rw[HSE.out];simp,by omega,Ck _ _⟩
    case round =>
     obtain⟨k,s3,hk',rfl,rfl,HS3,hss3,hbr3⟩:=hrel;by_cases hlt:k<out.length
     ·obtain⟨p',cap',hp',hcs⟩:=hSb.below hbr3;obtain⟨g,hg,ck⟩:=hcs k out[k] (Cr hlt);obtain⟨rfl,-,rfl⟩:p=p'∧True∧cap=cap':=by simpa using hp'
      subst hg;clear hp' hcs;have kc3:=aa hbr3 kc;have nc3:=aa hbr3 nc;have k0:(0:Int)≤(k:Int):=by omega
      have k1:(k:Int)<(out.length:Int):=by omega
      have hx8:out[k].size≤8:=hw8 _ (CN hlt);have HSN:Hid ((out.take (k+1)).flatMap (ea tr known kd nm.data.toList)=(out.take k).flatMap (ea tr known kd nm.data.toList)++ea tr known kd nm.data.toList out[k]):=fA out k hlt _;have HIL:Hid (ea tr known kd nm.data.toList out[k]=if hasB tr known kd out[k]=true then nm.data.toList++out[k].data.toList++[10] else[]):=rfl;have HHK:Hid (∀W,Below w.heap.size w W→Calls Tryz.prog 41 #[tv,kv,.string kd.bs,.string out[k]] W fun e w'=>e=.returned (.bool (hasB tr known kd out[k]))∧Below W.heap.size W w'):=fun W hW=>HHA.out W kd _ hW
      have hbw3:Below w.heap.size w wr:=hbb.trans (hbr3.mono hbb.size);generalize hnn:hasB tr known kd out[k]=hb at *;clear hnn;generalize hxx:out[k]=x at *;clear hxx;generalize hkb:kd.bs=kb at *;clear hkb;go_wp2
      go_region_held3 (fun w'=>w'.cell? ⟨wa.heap.size,j,none⟩=some (.string kb)∧w'.cell? ⟨g,k,none⟩=some (.string x)∧w'.cell? ⟨wa.heap.size+1,j,none⟩=some (.string nm)∧Below wr.heap.size wr w') (first|exact⟨by simpa using kc3,by simpa using ck,by simpa using nc3,(Ck _ _).drew⟩|exact⟨aa hb2 (by simpa using kc3),aa hb2 (by simpa using ck),aa hb2 (by simpa using nc3),(Ck _ _).drew.trans (hb2.mono (by simp))⟩) (first|(go_at_call 41;refine(HHK.out _ hbw3.drew).mono ?_;rintro e w2 ⟨rfl,hb2⟩))
      have hbw2:Below wb.heap.size wb w2:=hbr3.drew.trans (hb2.mono (by have:=hbr3.size;simpa using this));have kc2:w2.cell? ⟨wa.heap.size,j,none⟩=some (.string kb):=aa hb2 (by simpa using kc3);have ck2:w2.cell? ⟨g,k,none⟩=some (.string x):=aa hb2 (by simpa using ck);have nc2:w2.cell? ⟨wa.heap.size+1,j,none⟩=some (.string nm):=aa hb2 (by simpa using nc3);have hs9:32*out.length*j≤64*out.length:=by rcases(show j=0∨j=1 by omega) with rfl|rfl <;> omega
      cases hb
      ·go_wp2
       go_roundw
       case rel=>exact⟨k+1,s3,by omega,by go_num,rfl,by
         show _=_
         rw[HSN.out,HIL.out,HS3.out];simp,by omega,hbw2⟩
       case measure=>simp[intOf];omega
      go_wp2
      go_quiet ((fail))
      go_wp2
      go_roundw
      case rel=>exact⟨k+1,_,by omega,by go_num,rfl,by
        show _=_
        rw[HSN.out,HIL.out,←List.append_assoc,←HS3.out];simp[DW],by
        rw[C7,C7,C7];have e3:(CU #[10]).size=1:=rfl;omega,below_drewN hbw2 _⟩
      case measure=>simp[intOf];omega
     have hke:out.take k=out:=CX (by omega);have HS4:Hid (s3.data.toList=oW tr known out (j+1)):=by have:=HS3.out;rw[hke,←HPJ.out]at this;exact this
     clear HS3 hke;have hs5:s3.size≤32*out.length+32*out.length*(j+1):=by rw[Nat.mul_add];omega
     clear hss3;go_wp2
     go_roundw
     case rel=>exact⟨j+1,s3,by omega,by go_num,rfl,HS4.out,hs5,HBB.out.trans (hbr3.mono hszb)⟩
     case measure=>simp[intOf];omega
   have HF:Hid (s2.data.toList=sH tr known out):=by
    have:=HSE.out;obtain rfl:j=2:=by omega
    simpa[Hid,oW,sH] using this
   go_wp2
   go_ret
   exact⟨s2,rfl,⟨out,HSO.out,HM.out,HF.out⟩,hbb⟩
end
end Go.Proofs.YtckmppkdpnhodaaGreatDoor
