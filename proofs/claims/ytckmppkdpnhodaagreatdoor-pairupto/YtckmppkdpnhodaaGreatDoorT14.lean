import Derived.Test.YtckmppkdpnhodaaGreatDoorT13
import Derived.BigRegion
import Derived.Test.YtckmppkdpnhodaaGreatDoorT00
set_option maxRecDepth 100000
set_option maxHeartbeats 8000000
set_option linter.unusedVariables false
set_option linter.unusedSimpArgs false
open Nat renaming le_refl→Cl,zero_add→CJ,add_mul→DU,le_trans→CC,zero_le→CB
open List renaming flatMap_cons→CV,length_append→Cz,length_cons→CR,getElem?_eq_none→DP,getElem_mem→CN,length_take→CI,getElem?_take_of_lt→DA,getElem_set_ne→D8
open Go.Addr renaming add_mid→CS
open Go.World renaming block_lt_of_cell?→Cy
open Array renaming getElem?_eq_some_iff→Cn,getElem?_toList→DI
open Go.RowKit.Below renaming heap_alloc→CF
namespace Go.Proofs.YtckmppkdpnhodaaGreatDoor
section
open Go.RowKit Go.Proofs
variable {B i me o s:Nat} {w:World}
structure Rc where
 a:Nat
 b:Nat
 c:Nat
 d:Nat
 e:Nat
def Rc.zero:Rc:=⟨0,0,0,0,0⟩
def Rc.join(x y:Rc):Rc:=⟨max x.a y.a,max x.b y.b,max x.c y.c,max x.d y.d,max x.e y.e⟩
def Rc.get(x:Rc)(j:Nat):Nat:=if j=0 then x.a else if j=1 then x.b else if j=2 then x.c else if j=3 then x.d else if j=4 then x.e else 0
def Rc.set(x:Rc)(j v:Nat):Rc:=⟨if j=0 then v else x.a,if j=1 then v else x.b,if j=2 then v else x.c,if j=3 then v else x.d,if j=4 then v else x.e⟩
def Rc.Ax(x y:Rc):Bool:=decide (y.a≤x.a) && decide (y.b≤x.b) && decide (y.c≤x.c) && decide (y.d≤x.d) && decide (y.e≤x.e)
theorem Rc.ext'{x y:Rc}(h:∀j,j<5→x.get j=y.get j):x=y:=by
 have h0:=h 0 (by omega);have h1:=h 1 (by omega);have h2:=h 2 (by omega);have h3:=h 3 (by omega);have h4:=h 4 (by omega);simp[Rc.get]at h0 h1 h2 h3 h4
 cases x;cases y;simp_all
theorem Rc.A1(x y:Rc)(j:Nat):(x.join y).get j=max (x.get j) (y.get j):=by
 unfold Rc.get Rc.join
 repeat (split;· rfl)
 rfl
theorem Rc.By(x:Rc){j v:Nat}(hj:j<5):(x.set j v).get i=if i=j then v else x.get i:=by
 unfold Rc.get Rc.set;by_cases e:i=j
 ·subst e;rcases(show i=0∨i=1∨i=2∨i=3∨i=4 by omega) with rfl|rfl|rfl|rfl|rfl <;> simp
 rw[if_neg e];by_cases h0:i=0
 ·subst h0;simp[Ne.symm e]
 by_cases h1:i=1
 ·subst h1;simp[Ne.symm e]
 by_cases h2:i=2
 ·subst h2;simp[Ne.symm e]
 by_cases h3:i=3
 ·subst h3;simp[Ne.symm e]
 by_cases h4:i=4
 ·subst h4;simp[Ne.symm e]
 simp[h0,h1,h2,h3,h4]
theorem Rc.AB(x y:Rc):x.Ax y=true↔∀j,y.get j≤x.get j:=by
 unfold Rc.Ax Rc.get;simp only[Bool.and_eq_true,decide_eq_true_eq]
 constructor
 ·rintro ⟨⟨⟨⟨h0,h1⟩,h2⟩,h3⟩,h4⟩ j
  repeat (split;· assumption)
  exact Cl _
 intro h;have h0:=h 0;have h1:=h 1;have h2:=h 2;have h3:=h 3;have h4:=h 4;simp at h0 h1 h2 h3 h4;exact⟨⟨⟨⟨h0,h1⟩,h2⟩,h3⟩,h4⟩
def Rc.lt(x:Rc)(m:Nat):Prop:=x.a<m∧x.b<m∧x.c<m∧x.d<m∧x.e<m
structure En where
 org:Nat
 seq:Nat
 ah:Rc
 c:Cm
 ho:org<5
 hs:seq<1152921504606846976
 ha:ah.lt 1152921504606846976
 hc:nF c
def En.cells(x:En):List Value:=[.int .i64 (x.org:Int),.int .i64 (x.seq:Int),.int .i64 (x.ah.a:Int),.int .i64 (x.ah.b:Int),.int .i64 (x.ah.c:Int),.int .i64 (x.ah.d:Int),.int .i64 (x.ah.e:Int),.int .i64 (x.c.k.num:Int),.string x.c.word,.int .i64 (x.c.count:Int)]
theorem En.Aw(x:En):x.cells.length=10:=rfl
def En.val(x:En):Value:=.agg #[.int .i64 (x.org:Int),.int .i64 (x.seq:Int),.int .i64 (x.ah.a:Int),.int .i64 (x.ah.b:Int),.int .i64 (x.ah.c:Int),.int .i64 (x.ah.d:Int),.int .i64 (x.ah.e:Int),.int .i64 (x.c.k.num:Int),.string x.c.word,.int .i64 (x.c.count:Int)]
def aP(log:List En):List Value:=log.flatMap En.cells
theorem iJ{α β:Type}(f:α→List β)(s:Nat)(hs:∀x,(f x).length=s):∀(l:List α) (i o:Nat) (hi:i<l.length),o<s→(l.flatMap f)[i*s+o]?=(f l[i])[o]?
 |[],i,o,h,_=>by simp at h
 |x::l,0,o,_,ho=>by
  rw[CV,Nat.zero_mul,CJ,List.getElem?_append_left (by rw[hs];exact ho)]
  rfl
 |x::l,i+1,o,h,ho=>by
  rw[CV,List.getElem?_append_right (by rw[hs,DU];omega),hs,show(i+1)*s+o-s=i*s+o by rw[DU];omega];have:=iJ f s hs l i o (by simpa using h) ho;simpa using this
theorem jO(log:List En):(aP log).length=log.length*10:=by
 unfold aP
 induction log with
 |nil=>rfl
 |cons x l ih=>rw[CV,Cz,ih,En.Aw,CR];omega
theorem ou(log:List En)(hi:i<log.length)(ho:o<10):(aP log)[i*10+o]?=log[i].cells[o]?:=iJ En.cells 10 En.Aw log i o hi ho
theorem jq(log:List En)(x:En):aP (log++[x])=aP log++x.cells:=by simp[aP]
theorem jN{ev:Value}{log:List En}(h:w.ownsRow B 122 10 ev log.length (aP log))(hi:i<log.length):∃g cap,ev=.slice (some ⟨g,0,none⟩) log.length cap∧g<w.heap.size∧w.cell? ⟨g,i*10,none⟩=some (.int .i64 (log[i].org:Int))∧w.cell? ⟨g,i*10+1,none⟩=some (.int .i64 (log[i].seq:Int))∧w.cell? ⟨g,i*10+2,none⟩=some (.int .i64 (log[i].ah.a:Int))∧w.cell? ⟨g,i*10+3,none⟩=some (.int .i64 (log[i].ah.b:Int))∧w.cell? ⟨g,i*10+4,none⟩=some (.int .i64 (log[i].ah.c:Int))∧w.cell? ⟨g,i*10+5,none⟩=some (.int .i64 (log[i].ah.d:Int))∧w.cell? ⟨g,i*10+6,none⟩=some (.int .i64 (log[i].ah.e:Int))∧w.cell? ⟨g,i*10+7,none⟩=some (.int .i64 (log[i].c.k.num:Int))∧w.cell? ⟨g,i*10+8,none⟩=some (.string log[i].c.word)∧w.cell? ⟨g,i*10+9,none⟩=some (.int .i64 (log[i].c.count:Int)):=by
 obtain⟨g,cap,hv,-,hg⟩:=h.form (by omega);have hc:∀o v,o<10→log[i].cells[o]?=some v→w.cell? ⟨g,i*10+o,none⟩=some v:=fun o v ho he=>by
  have:=h.cells (g:=g) (by rw[hv];rfl) (i*10+o) v (by rw[ou log hi ho];exact he);rwa[CS,CJ]at this
 exact⟨g,cap,hv,hg,hc 0 _ (by omega) rfl,hc 1 _ (by omega) rfl,hc 2 _ (by omega) rfl,hc 3 _ (by omega) rfl,hc 4 _ (by omega) rfl,hc 5 _ (by omega) rfl,hc 6 _ (by omega) rfl,hc 7 _ (by omega) rfl,hc 8 _ (by omega) rfl,hc 9 _ (by omega) rfl⟩
theorem aW{e:TypeId}{n:Nat}{v:Value}{xs:List Value}(h:w.ownsRow B e s v n xs):∃p c,v=.slice p n c:=by
 rcases h.2 with⟨h1,h0⟩|⟨g,cap',_,h1,_⟩
 ·rw[h0];exact⟨_,_,h1⟩
 exact⟨_,_,h1⟩
def dO(log:List En):List Value:=log.flatMap fun x=>[.int .i64 (x.org:Int),.int .i64 (x.seq:Int),.string (aQ x.c)]
theorem qt(log:List En)(x:En):dO (log++[x])=dO log++[.int .i64 (x.org:Int),.int .i64 (x.seq:Int),.string (aQ x.c)]:=by simp[dO]
def aq(log:List En)(o:Nat):Nat:=log.countP fun x=>decide (x.org=o)
theorem bO(l m:List En)(o:Nat):aq (l++m) o=aq l o+aq m o:=by simp[aq]
theorem kH(x:En)(m:List En)(o:Nat):aq (x::m) o=(if x.org=o then 1 else 0)+aq m o:=by
 unfold aq;rw[List.countP_cons];by_cases h:x.org=o <;> simp[h,Nat.add_comm]
theorem eF(l:List En)(x:En)(o:Nat):aq (l++[x]) o=aq l o+if x.org=o then 1 else 0:=by
 rw[bO,kH];simp[aq]
theorem fW(l:List En)(o:Nat):aq l o≤l.length:=List.countP_le_length
theorem wF(l:List En)(h:5≤o):aq l o=0:=by
 unfold aq;rw[List.countP_eq_zero];intro x _ e;have:=x.ho;simp at e;omega
def bC(log:List En):Rc:=⟨aq log 0,aq log 1,aq log 2,aq log 3,aq log 4⟩
theorem bD(log:List En)(o:Nat):(bC log).get o=aq log o:=by
 unfold Rc.get bC
 repeat (split;· subst_vars;rfl)
 rw[wF];omega
theorem jz(log:List En)(x:En)(h:x.seq=aq log x.org+1):bC (log++[x])=(bC log).set x.org x.seq:=by
 refine Rc.ext' fun j _=>?_
 rw[bD,Rc.By _ x.ho,bD,eF];by_cases e:j=x.org
 ·subst e;simp[h]
 rw[if_neg e,if_neg (Ne.symm e)];rfl
def sF(me:Nat)(pre:List En)(x:En):Prop:=x.seq=aq pre x.org+1∧(∀o,x.ah.get o≤aq pre o)∧(x.org=me→x.ah=bC pre)
def LogFrom(me:Nat)(pre:List En):List En→Prop
 |[]=>True
 |x::l=>sF me pre x∧LogFrom me (pre++[x]) l
theorem fH(me:Nat):∀(l m pre:List En),LogFrom me pre (l++m)↔LogFrom me pre l∧LogFrom me (pre++l) m
 |[],m,pre=>by simp[LogFrom]
 |x::l,m,pre=>by
  rw[List.cons_append,LogFrom,LogFrom,fH me l m,List.append_assoc,and_assoc]
  rfl
theorem LogFrom.snoc{log:List En}(h:LogFrom me [] log){x:En}(hx:sF me log x):LogFrom me [] (log++[x]):=(fH me log [x] []).2 ⟨h,by simpa[LogFrom] using hx⟩
def bT(o:Nat)(log:List En):List En:=log.filter fun x=>decide (x.org=o)
theorem bZ(o:Nat)(log:List En):(bT o log).length=aq log o:=by simp[bT,aq,List.countP_eq_length_filter]
theorem nY(o:Nat)(log:List En)(x:En):bT o (log++[x])=bT o log++if x.org=o then[x] else[]:=by
 simp[bT,List.filter_cons]
theorem LogFrom.seq{me:Nat}{o:Nat}:∀{l pre:List En},LogFrom me pre l→∀{k:Nat} {x:En},(bT o l)[k]?=some x→x.seq=aq pre o+k+1
 |[],_,_,k,x,hx=>by simp[bT]at hx
 |y::l,pre,h,k,x,hx=>by
  have ih:=@LogFrom.seq me o l (pre++[y]) h.2;rw[bT,List.filter_cons]at hx
  by_cases e:y.org=o
  ·rw[if_pos (by simpa using e)]at hx;cases k with
   |zero =>
    simp at hx;subst hx;rw[←e];exact h.1.1
   |succ k =>
    have:=ih (k:=k) (x:=x) (by simpa[bT] using hx);rw[eF,if_pos e]at this
    omega
  rw[if_neg (by simpa using e)]at hx;have:=ih (k:=k) (x:=x) hx;rw[eF,if_neg e]at this
  omega
theorem dR{log:List En}{x:En}:x∈bT o log↔x∈log∧x.org=o:=by simp[bT]
theorem LogFrom.place{log:List En}(h:LogFrom me [] log){x:En}(hx:x∈log):1≤x.seq∧x.seq≤aq log x.org∧(bT x.org log)[x.seq-1]?=some x:=by
 obtain⟨k,hk⟩:=List.getElem?_of_mem (dR.2 ⟨hx,rfl⟩);have hs:=h.seq hk;have hk':k<(bT x.org log).length:=by
  rcases Nat.lt_or_ge k (bT x.org log).length with h|h
  ·exact h
  rw[DP h]at hk;simp at hk
 rw[bZ]at hk';have h0:aq ([]:List En) x.org=0:=rfl;have e:x.seq-1=k:=by omega
 exact⟨by omega,by omega,by rw[e];exact hk⟩
theorem LogFrom.uniq{log:List En}(h:LogFrom me [] log){x y:En}(hx:x∈log)(hy:y∈log)(ho:x.org=y.org)(hs:x.seq=y.seq):x=y:=by
 have a:=(h.place hx).2.2;have b:=(h.place hy).2.2;rw[ho,hs,b]at a
 exact(Option.some.inj a).symm
theorem LogFrom.the{log:List En}(h:LogFrom me [] log)(h1:1≤s)(h2:s≤aq log o):∃x∈log,x.org=o∧x.seq=s:=by
 have hl:s-1<(bT o log).length:=by rw[bZ];omega
 have hm:=CN hl;have hs:=h.seq (List.getElem?_eq_getElem hl);have h0:aq ([]:List En) o=0:=rfl;exact⟨_,(dR.1 hm).1,(dR.1 hm).2,by omega⟩
theorem LogFrom.split{pre:List En}{x:En}{post:List En}(h:LogFrom me [] (pre++x::post)):sF me pre x∧LogFrom me [] pre:=by
 have:=(fH me pre (x::post) []).1 h;exact⟨by simpa using this.2.1,this.1⟩
def bQ(log:List En)(x:En):List En:=if x.seq=aq log x.org+1∧(bC log).Ax x.ah=true then log++[x] else log
theorem jn(log:List En)(x:En)(o:Nat):aq log o≤aq (bQ log x) o:=by
 unfold bQ;split
 ·rw[bO];omega
 exact Cl _
def bg(log:List En)(es:List En):List En:=es.foldl bQ log
theorem pd(es:List En):∀(log:List En) (o:Nat),aq log o≤aq (bg log es) o:=by
 induction es with
 |nil=>intro log o;exact Cl _
 |cons x es ih=>intro log o;exact CC (jn log x o) (ih _ o)
theorem qG{log:List En}{x:En}(h:x.seq≤aq log x.org+1)(hc:∀o,x.ah.get o≤aq log o):x.seq≤aq (bQ log x) x.org:=by
 unfold bQ;by_cases e:x.seq=aq log x.org+1
 ·rw[if_pos ⟨e,(Rc.AB _ _).2 fun j=>by rw[bD];exact hc j⟩,eF,if_pos rfl];omega
 rw[if_neg fun h=>e h.1];omega
theorem iX{x:En}:∀{es log:List En},x∈es→x.seq≤aq log x.org+1→(∀o,x.ah.get o≤aq log o)→x.seq≤aq (bg log es) x.org
 |[],_,h,_,_=>by simp at h
 |y::es,log,h,h1,h2=>by
  rcases List.mem_cons.1 h with rfl|h
  ·exact CC (qG h1 h2) (pd es _ _)
  exact iX (es:=es) (log:=bQ log y) h (CC h1 (Nat.succ_le_succ (jn log y _))) fun o=>CC (h2 o) (jn log y o)
theorem tW{log:List En}(h:LogFrom me [] log){x:En}(hx:x.org≠me):LogFrom me [] (bQ log x):=by
 unfold bQ;split
 ·rename_i hc;exact h.snoc ⟨hc.1,fun o=>by rw[←bD];exact(Rc.AB _ _).1 hc.2 o,fun e=>absurd e hx⟩
 exact h
theorem kU{me:Nat}:∀{es log:List En},LogFrom me [] log→(∀x∈es,x.org≠me)→LogFrom me [] (bg log es)
 |[],_,h,_=>h
 |y::es,log,h,hx=>kU (es:=es) (tW h (hx y (by simp))) fun x hm=>hx x (by simp[hm])
theorem rX{log:List En}{x y:En}(h:y∈bQ log x):y∈log∨y=x:=by
 unfold bQ at h;split at h
 ·simpa using h
 exact .inl h
theorem fx:∀{es log:List En} {y:En},y∈bg log es→y∈log∨y∈es
 |[],_,_,h=>.inl h
 |x::es,log,y,h=>by
  rcases fx (es:=es) (log:=bQ log x) h with h|h
  ·rcases rX h with h|h
   ·exact .inl h
   exact .inr (by simp[h])
  exact .inr (by simp[h])
theorem fm:∀(es log:List En),∃l,bg log es=log++l
 |[],log=>⟨[],by simp[bg]⟩
 |x::es,log=>by
  obtain⟨l,hl⟩:=fm es (bQ log x);have:bg log (x::es)=bg (bQ log x) es:=rfl;rw[this,hl];unfold bQ;split
  ·exact⟨x::l,by simp⟩
  exact⟨l,rfl⟩
theorem jI{es log:List En}(hx:∀x∈es,x.org≠me):bT me (bg log es)=bT me log:=by
 induction es generalizing log with
 |nil=>rfl
 |cons x es ih =>
  have:bg log (x::es)=bg (bQ log x) es:=rfl;rw[this,ih fun y hy=>hx y (by simp[hy])];unfold bQ;split
  ·rw[nY,if_neg (hx x (by simp)),List.append_nil]
  rfl
end
section
open Go.RowKit Go.Proofs
attribute [local go_sem ↓] Go.wp_at_zero Go.wp_at_succ
variable {i:Nat}
structure It where
 due:Nat
 to:Nat
 en:En
 hd:due<1152921504606846976
 ht:to<5
def It.cells(x:It):List Value:=[.int .i64 (x.due:Int),.int .i64 (x.to:Int)]++x.en.cells
theorem It.Aw(x:It):x.cells.length=12:=rfl
def cA(its:List It):List Value:=its.flatMap It.cells
theorem fy(its:List It):(cA its).length=its.length*12:=by
 unfold cA
 induction its with
 |nil=>rfl
 |cons x l ih=>rw[CV,Cz,ih,It.Aw,CR];omega
theorem iG(its:List It){o:Nat}(hi:i<its.length)(ho:o<12):(cA its)[i*12+o]?=its[i].cells[o]?:=iJ It.cells 12 It.Aw its i o hi ho
theorem mr(its:List It)(x:It):cA (its++[x])=cA its++x.cells:=by simp[cA]
theorem mq{w:World}{B:Nat}{wv:Value}{its:List It}(h:w.ownsRow B 171 12 wv its.length (cA its))(hi:i<its.length):∃g cap,wv=.slice (some ⟨g,0,none⟩) its.length cap∧g<w.heap.size∧∀o v,o<12→its[i].cells[o]?=some v→w.cell? ⟨g,i*12+o,none⟩=some v:=by
 obtain⟨g,cap,hv,-,hg⟩:=h.form (by omega);refine⟨g,cap,hv,hg,fun o v ho he=>?_⟩;have:=h.cells (g:=g) (by rw[hv];rfl) (i*12+o) v (by rw[iG its hi ho];exact he);rwa[CS,CJ]at this
def aX(its:List It)(t:Nat):Nat:=its.countP fun p=>decide (p.to=t)
theorem uw(its:List It)(p:It)(t:Nat):aX (its++[p]) t=if p.to=t then aX its t+1 else aX its t:=by
 unfold aX;rw[List.countP_append];by_cases h:p.to=t <;> simp[h]
theorem xH(its:List It)(t:Nat):aX its t≤its.length:=List.countP_le_length
theorem ox{a b:List It}(h:a.Perm b)(t:Nat):aX a t=aX b t:=h.countP_eq _
def bj(its:List It):Nat:=max (max (max (max (aX its 0) (aX its 1)) (aX its 2)) (aX its 3)) (aX its 4)
theorem rP{a b:List It}(h:a.Perm b):bj a=bj b:=by simp only[bj,ox h]
theorem xS(rb:Nat)(its:List It)(hl:its.length≤1000)(wv:Value)(w:World)(h11:w.cell? ⟨rb,11,none⟩=some wv)(hrow:w.ownsRow 0 171 12 wv its.length (cA its)):Calls Tryz.prog 48 #[.pointer (some ⟨rb,10,none⟩)] w fun e w'=>e=.returned (.int .i64 ((bj its:Nat):Int))∧Below w.heap.size w w':=by
 obtain⟨pe,cape,hev⟩:∃p c,wv=.slice p its.length c:=by
  rcases hrow.2 with⟨h1,h0⟩|⟨g,cap',_,h1,_⟩
  ·rw[h0];exact⟨_,_,h1⟩
  exact⟨_,_,h1⟩
 have HR:=hid hrow;have HE:Hid (wv=.slice pe its.length cape):=hev;have HM:Hid (∀(W:World) n0 n1 n2 n3 n4,W.heap[w.heap.size]?=some (.cells #[.int .i64 ((n0:Nat):Int),.int .i64 ((n1:Nat):Int),.int .i64 ((n2:Nat):Int),.int .i64 ((n3:Nat):Int),.int .i64 ((n4:Nat):Int)] 102 (0,0))→Calls Tryz.prog 87 #[.slice (some ⟨w.heap.size,0,none⟩) 5 5] W fun e w'=>e=.returned (.int .i64 ((mx n0 n1 n2 n3 n4 5:Nat):Int))∧w'=W):=fun W n0 n1 n2 n3 n4 h=>xu _ _ _ _ _ _ W h
 rw[hev]at h11;have hrl:rb<w.heap.size:=Cy w _ h11;clear hrow hev;go_enter Tryz.func48,Tryz.ntmps48
 go_wp2
 go_loopw [11] (fun i wr=>∃j:Nat,j≤its.length∧i=.int .i64 j∧Hid (wr.heap[w.heap.size]?=some (.cells #[.int .i64 ((aX (its.take j) 0:Nat):Int),.int .i64 ((aX (its.take j) 1:Nat):Int),.int .i64 ((aX (its.take j) 2:Nat):Int),.int .i64 ((aX (its.take j) 3:Nat):Int),.int .i64 ((aX (its.take j) 4:Nat):Int)] 102 (0,0)))∧Hid (Below w.heap.size w wr)) (fun i _=>its.length-(intOf i).toNat)
 case atStart=>exact⟨0,CB _,rfl,(by show _=_;rw[heap_alloc_new];simp[aX]),(Below.refl _ w).alloc (Cl _) _⟩
 case round =>
  obtain⟨j,hj,rfl,hC,hB⟩:=hrel;by_cases hlt:j<its.length
  ·have hrw:wr.ownsRow 0 171 12 wv its.length (cA its):=(an.of_below (S:=[]) hB.out).owns HR.out (by simp);obtain⟨g,cap,hge,hgl,hcl⟩:=mq hrw hlt;rw[HE.out]at hge
   obtain⟨rfl,-,rfl⟩:pe=some ⟨g,0,none⟩∧True∧cape=cap:=by simpa using hge
   clear hge hrw;have ht5:=its[j].ht;have hsn:=fG its j hlt;have HS:Hid (∀t,aX (its.take (j+1)) t=if its[j].to=t then aX (its.take j) t+1 else aX (its.take j) t):=fun t=>by rw[hsn,uw]
   have HL:Hid (∀t,aX (its.take j) t≤1000):=fun t=>CC (xH (its.take j) t) (by rw[CI];omega)
   have HBL:Hid (w.heap.size<wr.heap.size):=(Cn.1 hC.out).1;clear hsn;generalize its[j]=x at *;obtain⟨due,t,en,hdx,htx⟩:=x;simp only at ht5 HS;have HS5:Hid (aX (its.take (j+1)) 0=(if t=0 then aX (its.take j) 0+1 else aX (its.take j) 0)∧aX (its.take (j+1)) 1=(if t=1 then aX (its.take j) 1+1 else aX (its.take j) 1)∧aX (its.take (j+1)) 2=(if t=2 then aX (its.take j) 2+1 else aX (its.take j) 2)∧aX (its.take (j+1)) 3=(if t=3 then aX (its.take j) 3+1 else aX (its.take j) 3)∧aX (its.take (j+1)) 4=(if t=4 then aX (its.take j) 4+1 else aX (its.take j) 4)):=⟨HS.out 0,HS.out 1,HS.out 2,HS.out 3,HS.out 4⟩;clear HS
   obtain⟨v2,v3,v4,v5,v6,v7,v8,v9,v11,s10,e0,e1,e2,e3,e4,e5,e6,e7,e8,e9,e10,e11⟩:∃(v2 v3 v4 v5 v6 v7 v8 v9 v11:Int) (s10:ByteArray),wr.cell? ⟨g,j*12,none⟩=some (.int .i64 (due:Int))∧wr.cell? ⟨g,j*12+1,none⟩=some (.int .i64 (t:Int))∧wr.cell? ⟨g,j*12+2,none⟩=some (.int .i64 v2)∧wr.cell? ⟨g,j*12+3,none⟩=some (.int .i64 v3)∧wr.cell? ⟨g,j*12+4,none⟩=some (.int .i64 v4)∧wr.cell? ⟨g,j*12+5,none⟩=some (.int .i64 v5)∧wr.cell? ⟨g,j*12+6,none⟩=some (.int .i64 v6)∧wr.cell? ⟨g,j*12+7,none⟩=some (.int .i64 v7)∧wr.cell? ⟨g,j*12+8,none⟩=some (.int .i64 v8)∧wr.cell? ⟨g,j*12+9,none⟩=some (.int .i64 v9)∧wr.cell? ⟨g,j*12+10,none⟩=some (.string s10)∧wr.cell? ⟨g,j*12+11,none⟩=some (.int .i64 v11):=⟨_,_,_,_,_,_,_,_,_,_,hcl 0 _ (by omega) rfl,hcl 1 _ (by omega) rfl,hcl 2 _ (by omega) rfl,hcl 3 _ (by omega) rfl,hcl 4 _ (by omega) rfl,hcl 5 _ (by omega) rfl,hcl 6 _ (by omega) rfl,hcl 7 _ (by omega) rfl,hcl 8 _ (by omega) rfl,hcl 9 _ (by omega) rfl,hcl 10 _ (by omega) rfl,hcl 11 _ (by omega) rfl⟩
   clear hcl;have d0:wr.cell? ⟨w.heap.size,0,none⟩=some (.int .i64 ((aX (its.take j) 0:Nat):Int)):=cell_of_heap hC.out _;have d1:wr.cell? ⟨w.heap.size,1,none⟩=some (.int .i64 ((aX (its.take j) 1:Nat):Int)):=cell_of_heap hC.out _;have d2:wr.cell? ⟨w.heap.size,2,none⟩=some (.int .i64 ((aX (its.take j) 2:Nat):Int)):=cell_of_heap hC.out _;have d3:wr.cell? ⟨w.heap.size,3,none⟩=some (.int .i64 ((aX (its.take j) 3:Nat):Int)):=cell_of_heap hC.out _;have d4:wr.cell? ⟨w.heap.size,4,none⟩=some (.int .i64 ((aX (its.take j) 4:Nat):Int)):=cell_of_heap hC.out _;have fz:∀o,wr.frozen? ⟨w.heap.size,o,none⟩=false:=frozen_of_heap hC.out
   have l0:=HL.out 0;have l1:=HL.out 1;have l2:=HL.out 2;have l3:=HL.out 3;have l4:=HL.out 4;have hbl:=HBL.out;generalize aX (its.take j) 0=k0 at *;generalize aX (its.take j) 1=k1 at *;generalize aX (its.take j) 2=k2 at *;generalize aX (its.take j) 3=k3 at *;generalize aX (its.take j) 4=k4 at *;rcases(show t=0∨t=1∨t=2∨t=3∨t=4 by omega) with rfl|rfl|rfl|rfl|rfl
   ·go_wp2
    go_roundw
    case rel =>
     refine⟨j+1,by omega,by go_num,?_,(hB.out.setCell (Cl _) _).alloc (by rw[bJ];omega) _⟩;show _=_
     obtain⟨q0,q1,q2,q3,q4⟩:=HS5.out;rw[CF _ _ _ (by rw[bJ];omega),ae hC.out,q0,q1,q2,q3,q4];simp
    case measure=>simp[intOf];omega
   ·go_wp2
    go_roundw
    case rel =>
     refine⟨j+1,by omega,by go_num,?_,(hB.out.setCell (Cl _) _).alloc (by rw[bJ];omega) _⟩;show _=_
     obtain⟨q0,q1,q2,q3,q4⟩:=HS5.out;rw[CF _ _ _ (by rw[bJ];omega),ae hC.out,q0,q1,q2,q3,q4];simp
    case measure=>simp[intOf];omega
   ·go_wp2
    go_roundw
    case rel =>
     refine⟨j+1,by omega,by go_num,?_,(hB.out.setCell (Cl _) _).alloc (by rw[bJ];omega) _⟩;show _=_
     obtain⟨q0,q1,q2,q3,q4⟩:=HS5.out;rw[CF _ _ _ (by rw[bJ];omega),ae hC.out,q0,q1,q2,q3,q4];simp
    case measure=>simp[intOf];omega
   ·go_wp2
    go_roundw
    case rel =>
     refine⟨j+1,by omega,by go_num,?_,(hB.out.setCell (Cl _) _).alloc (by rw[bJ];omega) _⟩;show _=_
     obtain⟨q0,q1,q2,q3,q4⟩:=HS5.out;rw[CF _ _ _ (by rw[bJ];omega),ae hC.out,q0,q1,q2,q3,q4];simp
    case measure=>simp[intOf];omega
   go_wp2
   go_roundw
   case rel =>
    refine⟨j+1,by omega,by go_num,?_,(hB.out.setCell (Cl _) _).alloc (by rw[bJ];omega) _⟩;show _=_
    obtain⟨q0,q1,q2,q3,q4⟩:=HS5.out;rw[CF _ _ _ (by rw[bJ];omega),ae hC.out,q0,q1,q2,q3,q4];simp
   case measure=>simp[intOf];omega
  obtain rfl:j=its.length:=by omega
  rw[List.take_length]at hC;go_wp2_with (go_at_call 87;refine(HM.out _ _ _ _ _ _ hC.out).mono ?_;rintro e w1 ⟨rfl,rfl⟩)
  go_ret
  exact⟨rfl,hB.out⟩
def putMany(F:Array Value):Nat→List Value→Array Value
 |_,[]=>F
 |s,v::vs=>putMany (F.setIfInBounds s v) (s+1) vs
theorem cJ:∀(vs:List Value) (s:Nat) (F:Array Value),(putMany F s vs).size=F.size
 |[],_,_=>rfl
 |v::vs,s,F=>by rw[putMany,cJ vs];simp
theorem ig:∀(vs:List Value) (s:Nat) (F:Array Value) (t:Nat),t<F.size→(putMany F s vs)[t]?=if s≤t∧t<s+vs.length then vs[t-s]? else F[t]?
 |[],s,F,t,_=>by
  rw[putMany,if_neg];simp only[List.length_nil];omega
 |v::vs,s,F,t,ht=>by
  rw[putMany,ig vs (s+1) _ t (by simpa using ht),CR];by_cases h1:s=t
  ·subst h1;rw[if_neg (by omega),if_pos (by omega),Nat.sub_self];simp[ht]
  by_cases h2:s+1≤t∧t<s+1+vs.length
  ·rw[if_pos h2,if_pos (by omega),show t-s=(t-(s+1))+1 by omega];simp
  rw[if_neg h2,if_neg (by omega),Array.getElem?_setIfInBounds_ne h1]
def bY(w:World)(g:Nat):Nat→List Value→World
 |_,[]=>w
 |s,v::vs=>bY (w.setCell ⟨g,s,none⟩ v) g (s+1) vs
theorem eK{T:TypeId}{g:Nat}:∀(vs:List Value) (s:Nat) (w:World) (cur:Array Value),w.heap[g]?=some (.cells cur T (0,0))→(bY w g s vs).heap[g]?=some (.cells (putMany cur s vs) T (0,0))
 |[],_,_,_,h=>h
 |v::vs,s,w,cur,h=>by
  rw[bY,putMany];exact eK vs (s+1) _ _ (ae h v)
theorem fi{g:Nat}:∀(vs:List Value) (s:Nat) (w:World),an [some g] w (bY w g s vs)
 |[],_,w=>an.refl _ w
 |v::vs,s,w=>by
  rw[bY];exact((an.refl _ w).setCell (.inl (by simp)) v).trans (fi vs (s+1) _) (fun i hi=>.inl hi)
theorem kz{cur:Array Value}{its:List It}{n:Nat}(hn:n=its.length)(hc:n*12≤cur.size)(h:cur.toList.take (n*12)=cA its)(hi:i<n)(x:It):(putMany cur (i*12) x.cells).toList.take (n*12)=cA (its.set i x):=by
 subst hn;apply List.ext_getElem?
 intro t;by_cases ht:t<its.length*12
 ·rw[DA ht,DI,ig _ _ _ t (by omega),It.Aw];have hq:t / 12<its.length:=by omega
  have e:t=t / 12*12+t % 12:=by omega
  have hr:=iG (its.set i x) (i:=t / 12) (o:=t % 12) (by simpa using hq) (by omega);rw[←e]at hr
  rw[hr];by_cases hit:i=t / 12
  ·subst hit;rw[if_pos (by omega)];simp only[List.getElem_set_self];rw[show t-t / 12*12=t % 12 by omega]
  rw[if_neg (by omega),D8 hit];have h0:=iG its hq (show t % 12<12 by omega);rw[←e,←h,DA ht,DI]at h0
  exact h0
 rw[DP (by rw[CI];omega),DP (by rw[fy];simpa using ht)]
structure fj(w:World)(g cap:Nat)(its:List It)(cur:Array Value):Prop where
 blk:w.heap[g]?=some (.cells cur 171 (0,0))
 le:its.length≤cap
 size:cap*12≤cur.size
 row:cur.toList.take (its.length*12)=cA its
theorem xU(g n cap i j di dj:Nat)(hi:i<n)(hj:j<n)(hn:n≤1000)(w:World)(h1:w.cell? ⟨g,i*12,none⟩=some (.int .i64 (di:Int)))(h2:w.cell? ⟨g,j*12,none⟩=some (.int .i64 (dj:Int))):Calls Tryz.prog 232 #[.slice (some ⟨g,0,none⟩) n cap,.int .i64 (i:Int),.int .i64 (j:Int)] w fun e w'=>e=.returned (.bool (decide (di<dj)))∧Below w.heap.size w w':=by
 have a0:(0:Int)≤(i:Int):=by omega
 have a1:(i:Int)<(n:Int):=by omega
 have a2:(0:Int)≤(j:Int):=by omega
 have a3:(j:Int)<(n:Int):=by omega
 have HD:Hid (decide ((di:Int)<(dj:Int))=decide (di<dj)):=by
  show _=_
  rw[decide_eq_decide];omega
 go_enter Tryz.func232,Tryz.ntmps232
 go_upto_region 1 with fail
 go_quiet (fail)
 go_wp2
 go_ret
 exact⟨aF (by rw[←HD.out]),below_drewN (Below.refl _ w) _⟩
theorem fj.cell{w:World}{g cap:Nat}{its:List It}{cur:Array Value}(h:fj w g cap its cur){i o:Nat}(hi:i<its.length)(ho:o<12){v:Value}(hv:its[i].cells[o]?=some v):w.cell? ⟨g,i*12+o,none⟩=some v:=by
 rw[cell_of_heap h.blk];have hr:=iG its hi ho;rw[←h.row,DA (by omega),DI]at hr
 rw[hr,hv]
theorem ve(g cap i j:Nat)(its:List It)(hi:i<its.length)(hj:j<its.length)(hn:its.length≤1000)(cur:Array Value)(w:World)(h:fj w g cap its cur):Calls Tryz.prog 233 #[.slice (some ⟨g,0,none⟩) its.length cap,.int .i64 (i:Int),.int .i64 (j:Int)] w fun e w'=>e=.returned (.tuple #[])∧∃n,w'=(bY (bY w g (i*12) its[j].cells) g (j*12) its[i].cells).drewN n:=by
 have a0:(0:Int)≤(i:Int):=by omega
 have a1:(i:Int)<(its.length:Int):=by omega
 have a2:(0:Int)≤(j:Int):=by omega
 have a3:(j:Int)<(its.length:Int):=by omega
 obtain⟨p0,p1,p2,p3,p4,p5,p6,p7,p8,p9,p11,ps,hp,pc0,pc1,pc2,pc3,pc4,pc5,pc6,pc7,pc8,pc9,pc10,pc11⟩:∃(p0 p1 p2 p3 p4 p5 p6 p7 p8 p9 p11:Int) (ps:ByteArray),its[i].cells=[.int .i64 p0,.int .i64 p1,.int .i64 p2,.int .i64 p3,.int .i64 p4,.int .i64 p5,.int .i64 p6,.int .i64 p7,.int .i64 p8,.int .i64 p9,.string ps,.int .i64 p11]∧w.cell? ⟨g,i*12,none⟩=some (.int .i64 p0)∧w.cell? ⟨g,i*12+1,none⟩=some (.int .i64 p1)∧w.cell? ⟨g,i*12+2,none⟩=some (.int .i64 p2)∧w.cell? ⟨g,i*12+3,none⟩=some (.int .i64 p3)∧w.cell? ⟨g,i*12+4,none⟩=some (.int .i64 p4)∧w.cell? ⟨g,i*12+5,none⟩=some (.int .i64 p5)∧w.cell? ⟨g,i*12+6,none⟩=some (.int .i64 p6)∧w.cell? ⟨g,i*12+7,none⟩=some (.int .i64 p7)∧w.cell? ⟨g,i*12+8,none⟩=some (.int .i64 p8)∧w.cell? ⟨g,i*12+9,none⟩=some (.int .i64 p9)∧w.cell? ⟨g,i*12+10,none⟩=some (.string ps)∧w.cell? ⟨g,i*12+11,none⟩=some (.int .i64 p11):=⟨_,_,_,_,_,_,_,_,_,_,_,_,rfl,h.cell (o:=0) hi (by omega) rfl,h.cell (o:=1) hi (by omega) rfl,h.cell (o:=2) hi (by omega) rfl,h.cell (o:=3) hi (by omega) rfl,h.cell (o:=4) hi (by omega) rfl,h.cell (o:=5) hi (by omega) rfl,h.cell (o:=6) hi (by omega) rfl,h.cell (o:=7) hi (by omega) rfl,h.cell (o:=8) hi (by omega) rfl,h.cell (o:=9) hi (by omega) rfl,h.cell (o:=10) hi (by omega) rfl,h.cell (o:=11) hi (by omega) rfl⟩
 obtain⟨q0,q1,q2,q3,q4,q5,q6,q7,q8,q9,q11,qs,hq,qc0,qc1,qc2,qc3,qc4,qc5,qc6,qc7,qc8,qc9,qc10,qc11⟩:∃(q0 q1 q2 q3 q4 q5 q6 q7 q8 q9 q11:Int) (qs:ByteArray),its[j].cells=[.int .i64 q0,.int .i64 q1,.int .i64 q2,.int .i64 q3,.int .i64 q4,.int .i64 q5,.int .i64 q6,.int .i64 q7,.int .i64 q8,.int .i64 q9,.string qs,.int .i64 q11]∧w.cell? ⟨g,j*12,none⟩=some (.int .i64 q0)∧w.cell? ⟨g,j*12+1,none⟩=some (.int .i64 q1)∧w.cell? ⟨g,j*12+2,none⟩=some (.int .i64 q2)∧w.cell? ⟨g,j*12+3,none⟩=some (.int .i64 q3)∧w.cell? ⟨g,j*12+4,none⟩=some (.int .i64 q4)∧w.cell? ⟨g,j*12+5,none⟩=some (.int .i64 q5)∧w.cell? ⟨g,j*12+6,none⟩=some (.int .i64 q6)∧w.cell? ⟨g,j*12+7,none⟩=some (.int .i64 q7)∧w.cell? ⟨g,j*12+8,none⟩=some (.int .i64 q8)∧w.cell? ⟨g,j*12+9,none⟩=some (.int .i64 q9)∧w.cell? ⟨g,j*12+10,none⟩=some (.string qs)∧w.cell? ⟨g,j*12+11,none⟩=some (.int .i64 q11):=⟨_,_,_,_,_,_,_,_,_,_,_,_,rfl,h.cell (o:=0) hj (by omega) rfl,h.cell (o:=1) hj (by omega) rfl,h.cell (o:=2) hj (by omega) rfl,h.cell (o:=3) hj (by omega) rfl,h.cell (o:=4) hj (by omega) rfl,h.cell (o:=5) hj (by omega) rfl,h.cell (o:=6) hj (by omega) rfl,h.cell (o:=7) hj (by omega) rfl,h.cell (o:=8) hj (by omega) rfl,h.cell (o:=9) hj (by omega) rfl,h.cell (o:=10) hj (by omega) rfl,h.cell (o:=11) hj (by omega) rfl⟩
 have HX:Hid (its[i].cells=[.int .i64 p0,.int .i64 p1,.int .i64 p2,.int .i64 p3,.int .i64 p4,.int .i64 p5,.int .i64 p6,.int .i64 p7,.int .i64 p8,.int .i64 p9,.string ps,.int .i64 p11]∧its[j].cells=[.int .i64 q0,.int .i64 q1,.int .i64 q2,.int .i64 q3,.int .i64 q4,.int .i64 q5,.int .i64 q6,.int .i64 q7,.int .i64 q8,.int .i64 q9,.string qs,.int .i64 q11]):=⟨hp,hq⟩;have fz:∀o,w.frozen? ⟨g,o,none⟩=false:=frozen_of_heap h.blk
 clear h hp hq;by_cases hij:i=j
 ·subst hij;obtain⟨A,hA⟩:∃A,i*12=A:=⟨_,rfl⟩
  rw[hA]at pc0 pc1 pc2 pc3 pc4 pc5 pc6 pc7 pc8 pc9 pc10 pc11 qc0 qc1 qc2 qc3 qc4 qc5 qc6 qc7 qc8 qc9 qc10 qc11;have hpq:([.int .i64 p0,.int .i64 p1,.int .i64 p2,.int .i64 p3,.int .i64 p4,.int .i64 p5,.int .i64 p6,.int .i64 p7,.int .i64 p8,.int .i64 p9,.string ps,.int .i64 p11]:List Value)=[.int .i64 q0,.int .i64 q1,.int .i64 q2,.int .i64 q3,.int .i64 q4,.int .i64 q5,.int .i64 q6,.int .i64 q7,.int .i64 q8,.int .i64 q9,.string qs,.int .i64 q11]:=HX.out.1.symm.trans HX.out.2;simp only[List.cons.injEq,Value.int.injEq,Value.string.injEq,true_and,and_true]at hpq;obtain⟨rfl,rfl,rfl,rfl,rfl,rfl,rfl,rfl,rfl,rfl,rfl,rfl⟩:=hpq;clear qc0 qc1 qc2 qc3 qc4 qc5 qc6 qc7 qc8 qc9 qc10 qc11 a2 a3;go_enter Tryz.func233,Tryz.ntmps233
  go_upto_region 0 with fail
  go_region
  all_goals go_wp2
  go_end0
  refine⟨rfl,1,?_⟩;rw[HX.out.1,hA]
  rfl
 obtain⟨A,hA⟩:∃A,A=i*12:=⟨_,rfl⟩
 obtain⟨B,hB⟩:∃B,B=j*12:=⟨_,rfl⟩
 have f0:¬ B=A:=by omega
 have g0:¬ A=B:=by omega
 have f1:¬ B=A+1:=by omega
 have g1:¬ B+1=A:=by omega
 have k1:¬ A=B+1:=by omega
 have l1:¬ A+1=B:=by omega
 have f2:¬ B=A+2:=by omega
 have g2:¬ B+2=A:=by omega
 have k2:¬ A=B+2:=by omega
 have l2:¬ A+2=B:=by omega
 have f3:¬ B=A+3:=by omega
 have g3:¬ B+3=A:=by omega
 have k3:¬ A=B+3:=by omega
 have l3:¬ A+3=B:=by omega
 have f4:¬ B=A+4:=by omega
 have g4:¬ B+4=A:=by omega
 have k4:¬ A=B+4:=by omega
 have l4:¬ A+4=B:=by omega
 have f5:¬ B=A+5:=by omega
 have g5:¬ B+5=A:=by omega
 have k5:¬ A=B+5:=by omega
 have l5:¬ A+5=B:=by omega
 have f6:¬ B=A+6:=by omega
 have g6:¬ B+6=A:=by omega
 have k6:¬ A=B+6:=by omega
 have l6:¬ A+6=B:=by omega
 have f7:¬ B=A+7:=by omega
 have g7:¬ B+7=A:=by omega
 have k7:¬ A=B+7:=by omega
 have l7:¬ A+7=B:=by omega
 have f8:¬ B=A+8:=by omega
 have g8:¬ B+8=A:=by omega
 have k8:¬ A=B+8:=by omega
 have l8:¬ A+8=B:=by omega
 have f9:¬ B=A+9:=by omega
 have g9:¬ B+9=A:=by omega
 have k9:¬ A=B+9:=by omega
 have l9:¬ A+9=B:=by omega
 have f10:¬ B=A+10:=by omega
 have g10:¬ B+10=A:=by omega
 have k10:¬ A=B+10:=by omega
 have l10:¬ A+10=B:=by omega
 have f11:¬ B=A+11:=by omega
 have g11:¬ B+11=A:=by omega
 have k11:¬ A=B+11:=by omega
 have l11:¬ A+11=B:=by omega
 have HA:Hid (A=i*12∧B=j*12):=⟨hA,hB⟩;rw[←hA]at pc0 pc1 pc2 pc3 pc4 pc5 pc6 pc7 pc8 pc9 pc10 pc11
 rw[←hB]at qc0 qc1 qc2 qc3 qc4 qc5 qc6 qc7 qc8 qc9 qc10 qc11;replace hA:i*12=A:=hA.symm;replace hB:j*12=B:=hB.symm;clear hij;go_enter Tryz.func233,Tryz.ntmps233
 go_upto_region 0 with fail
 go_region
 all_goals go_wp2
 go_end0
 refine⟨rfl,1,?_⟩;rw[HX.out.1,HX.out.2,hA,hB]
 rfl
end
section
variable {i j lo n:Nat} {k:Nat→Nat}
def iT(k:Nat→Nat)(i j:Nat):Nat→Nat:=fun t=>if t=i then k j else if t=j then k i else k t
theorem iB(k:Nat→Nat)(i j:Nat):iT k i j i=k j:=by simp[iT]
theorem lB(k:Nat→Nat)(i j:Nat):iT k i j j=k i:=by
 unfold iT;by_cases h:j=i
 ·subst h;simp
 simp[h]
theorem eJ(k:Nat→Nat){t:Nat}(h1:t≠i)(h2:t≠j):iT k i j t=k t:=by simp[iT,h1,h2]
def aH(lo n:Nat)(k:Nat→Nat):Prop:=∀c,0<c→c<n→lo≤(c-1) / 2→k ((c-1) / 2)≤k c
theorem aH.root(h:aH 0 n k):∀c,c<n→k 0≤k c:=by
 intro c
 induction c using Nat.strongRecOn with
 |_ c ih =>
  intro hc;by_cases h0:c=0
  ·subst h0;exact Cl _
  exact CC (ih ((c-1) / 2) (by omega) (by omega)) (h c (by omega) hc (CB _))
structure iy(n j:Nat)(k:Nat→Nat):Prop where
 ok:∀c,0<c→c<n→c≠j→k ((c-1) / 2)≤k c
 gr:∀c,0<c→c<n→(c-1) / 2=j→0<j→k ((j-1) / 2)≤k c
theorem iy.start(h:aH 0 n k):iy (n+1) n k:=⟨fun c h0 hc hn=>h c h0 (by omega) (CB _),fun c h0 hc hp=>by omega⟩
theorem iy.done(h:iy n j k)(hj:j=0∨k ((j-1) / 2)≤k j):aH 0 n k:=fun c h0 hc _=>by
 by_cases e:c=j
 ·subst e;rcases hj with hj|hj
  ·omega
  exact hj
 exact h.ok c h0 hc e
theorem iy.step(h:iy n j k)(hj:0<j)(hjn:j<n)(hl:k j<k ((j-1) / 2)):iy n ((j-1) / 2) (iT k ((j-1) / 2) j):=by
 have hp:(j-1) / 2≠j:=by omega
 refine⟨fun c h0 hc hne=>?_,fun c h0 hc hcp hp0=>?_⟩
 ·by_cases hcj:c=j
  ·subst hcj;rw[iB,lB];omega
  rw[eJ k (t:=c) hne hcj];by_cases hpc:(c-1) / 2=j
  ·rw[hpc,lB];exact h.gr c h0 hc hpc hj
  by_cases hpp:(c-1) / 2=(j-1) / 2
  ·rw[hpp,iB];have:=h.ok c h0 hc hcj;rw[hpp]at this
   omega
  rw[eJ k hpp hpc];exact h.ok c h0 hc hcj
 have hpj:((j-1) / 2-1) / 2≠(j-1) / 2:=by omega
 have hpj2:((j-1) / 2-1) / 2≠j:=by omega
 rw[eJ k hpj hpj2];have hg:=h.ok ((j-1) / 2) hp0 (by omega) hp;by_cases hcj:c=j
 ·subst hcj;rw[lB];exact hg
 rw[eJ k (t:=c) (by omega) hcj];have:=h.ok c h0 hc hcj;rw[hcp]at this
 omega
structure gR(lo n i:Nat)(k:Nat→Nat):Prop where
 ok:∀c,0<c→c<n→lo≤(c-1) / 2→(c-1) / 2≠i→k ((c-1) / 2)≤k c
 gr:lo<i→∀c,0<c→c<n→(c-1) / 2=i→k ((i-1) / 2)≤k c
 le:lo≤i
 up:lo<i→lo≤(i-1) / 2
theorem gR.start(h:aH (lo+1) n k):gR lo n lo k:=⟨fun c h0 hc hp hne=>h c h0 hc (by omega),fun h=>by omega,Cl _,fun h=>by omega⟩
theorem gR.done(h:gR lo n i k)(hd:∀c,0<c→c<n→(c-1) / 2=i→k i≤k c):aH lo n k:=fun c h0 hc hp=>by
 by_cases e:(c-1) / 2=i
 ·rw[e];exact hd c h0 hc e
 exact h.ok c h0 hc hp e
theorem gR.step(h:gR lo n i k)(hj:(j-1) / 2=i)(hj0:0<j)(hjn:j<n)(hm:∀c,0<c→c<n→(c-1) / 2=i→k j≤k c)(hl:k j<k i):gR lo n j (iT k i j):=by
 have hij:i≠j:=by omega
 have hle:=h.le;refine⟨fun c h0 hc hp hne=>?_,fun hlo c h0 hc hcp=>?_,by omega,fun _=>by omega⟩
 ·by_cases hcj:c=j
  ·subst hcj;rw[hj,iB,lB];omega
  by_cases hpi:(c-1) / 2=i
  ·rw[hpi,iB,eJ k (t:=c) (by omega) hcj];exact hm c h0 hc hpi
  by_cases hci:c=i
  ·subst hci;rw[iB,eJ k hpi hne];exact h.gr (by omega) j hj0 hjn hj
  rw[eJ k hpi hne,eJ k hci hcj];exact h.ok c h0 hc hp hpi
 rw[hj,iB];rw[eJ k (t:=c) (by omega) (by omega)];have:=h.ok c h0 hc (by omega) (by omega);rw[hcp]at this
 exact this
end
section
open Go.RowKit Go.Proofs
attribute [local go_sem ↓] Go.wp_at_zero Go.wp_at_succ
variable {cap g i j:Nat} {cur:Array Value} {its:List It} {w w':World}
def swapL(its:List It)(i j:Nat):List It:=match its[i]?,its[j]? with
 |some x,some y=>(its.set i y).set j x
 |_,_=>its
theorem lR(hi:i<its.length)(hj:j<its.length):swapL its i j=(its.set i its[j]).set j its[i]:=by
 simp[swapL,hi,hj]
theorem fw(its:List It)(i j:Nat):(swapL its i j).length=its.length:=by
 unfold swapL;split <;> simp
def kF(its:List It)(t:Nat):Nat:=(its[t]?.map It.due).getD 0
theorem fY{t:Nat}(h:t<its.length):kF its t=its[t].due:=by simp[kF,h]
theorem j5(hi:i<its.length)(hj:j<its.length)(t:Nat):(swapL its i j)[t]?=if t=j then its[i]? else if t=i then its[j]? else its[t]?:=by
 rw[lR hi hj,List.getElem?_set];by_cases h1:j=t
 ·subst h1;simp[hj,hi]
 rw[if_neg h1,if_neg (fun e=>h1 e.symm),List.getElem?_set];by_cases h2:i=t
 ·subst h2;simp[hi,hj]
 rw[if_neg h2,if_neg (fun e=>h2 e.symm)]
theorem px(hi:i<its.length)(hj:j<its.length):kF (swapL its i j)=iT (kF its) i j:=by
 funext t
 unfold kF iT;rw[j5 hi hj];by_cases h2:t=i
 ·subst h2;by_cases h1:t=j
  ·subst h1;simp
  simp[h1]
 by_cases h1:t=j
 ·subst h1;simp[h2]
 simp[h1,h2]
theorem rC(hi:i<its.length)(hj:j<its.length):(swapL its i j).Perm its:=by
 classical
 rw[lR hi hj,List.perm_iff_count];intro a;by_cases hij:i=j
 ·subst hij;simp
 have e1:=List.count_set (a:=its[i]) (b:=a) (l:=its.set i its[j]) (i:=j) (by simpa using hj);have e2:=List.count_set (a:=its[j]) (b:=a) (l:=its) (i:=i) hi;rw[e1,e2];have e3:(its.set i its[j])[j]'(by simpa using hj)=its[j]:=D8 hij _;rw[e3];have c1:(if its[i] == a then 1 else 0)≤its.count a:=by
  split
  ·rename_i h;have:a∈its:=by rw[←beq_iff_eq.1 h];exact CN hi
   exact List.count_pos_iff.2 this
  exact CB _
 omega
theorem fj.BU(h:fj w g cap its cur)(hi:i<its.length)(hj:j<its.length){xi xj:List Value}(exi:xi=its[i].cells)(exj:xj=its[j].cells)(n:Nat):∃cur',fj ((bY (bY w g (i*12) xj) g (j*12) xi).drewN n) g cap (swapL its i j) cur'∧cur'.size=cur.size:=by
 have hs:its.length*12≤cur.size:=CC (Nat.mul_le_mul_right _ h.le) h.size;have h1:=eK xj (i*12) w cur h.blk;have h2:=eK xi (j*12) _ _ h1;refine⟨putMany (putMany cur (i*12) xj) (j*12) xi,⟨h2,by rw[fw];exact h.le,by rw[cJ,cJ];exact h.size,?_⟩,by rw[cJ,cJ]⟩;rw[fw,lR hi hj];have r1:=kz rfl hs h.row hi its[j];rw[exi,exj];exact kz (n:=its.length) (by simp) (by rw[cJ];exact hs) r1 hj its[i]
theorem fj.swap(h:fj w g cap its cur)(hi:i<its.length)(hj:j<its.length)(n:Nat):∃cur',fj ((bY (bY w g (i*12) its[j].cells) g (j*12) its[i].cells).drewN n) g cap (swapL its i j) cur'∧cur'.size=cur.size:=h.BU hi hj rfl rfl n
theorem fj.below(h:fj w g cap its cur)(hb:Below w.heap.size w w'):fj w' g cap its cur:=⟨(hb.block g (Cn.1 h.blk).1).trans h.blk,h.le,h.size,h.row⟩
theorem tm{S:List (Option Nat)}(h:an S w w'):∀n,an S w (w'.drewN n):=fun n=>⟨h.os,h.tape,h.output,h.size,h.block⟩
theorem gx (rb : Nat) (W : World) (a : Option Addr) (n c : Nat) (h : W.cell? ⟨rb, 11, none⟩ = some (.slice a n c)) : (method 409 175 (.pointer (some ⟨rb, 11, none⟩)) "Swap").run Tryz.prog W = .ok (233, .slice a n c) W := by
 have e1 : (method 409 175 (.pointer (some ⟨rb, 11, none⟩)) "Swap").run Tryz.prog W = ((receiverAt 175 (.val (.pointer (some ⟨rb, 11, none⟩))) false (some "Swap") >>= fun v => pure (233, v)) : Sem (FuncId × Value)).run Tryz.prog W := by kernel_rfl
 have e2 : (receiverAt 175 (.val (.pointer (some ⟨rb, 11, none⟩))) false (some "Swap")).run Tryz.prog W = (loadVar 108 ⟨rb, 11, none⟩).run Tryz.prog W := by kernel_rfl
 have e3:(loadVar 108 ⟨rb,11,none⟩).run Tryz.prog W=.ok (.slice a n c) W:=by go_simp
 rw[e1];have e4:=e2.trans e3;simp[go_sem,e4]
structure dD(w:World)(g cap:Nat)(its:List It)(cur:Array Value)(its':List It)(cur':Array Value)(W:World):Prop where
 row:fj W g cap its' cur'
 csz:cur'.size=cur.size
 perm:its'.Perm its
 len:its'.length=its.length
 upd:an [some g] w W
theorem dD.refl{w:World}{g cap:Nat}{its:List It}{cur:Array Value}(h:fj w g cap its cur):dD w g cap its cur its cur w:=⟨h,rfl,List.Perm.refl _,rfl,an.refl _ _⟩
theorem dD.below{w:World}{g cap:Nat}{its its':List It}{cur cur':Array Value}{W W':World}(h:dD w g cap its cur its' cur' W)(hb:Below W.heap.size W W'):dD w g cap its cur its' cur' W':=⟨h.row.below hb,h.csz,h.perm,h.len,h.upd.trans (an.of_below (S:=[some g]) hb) (fun i hi=>.inl hi)⟩
theorem dD.swap{w:World}{g cap:Nat}{its its':List It}{cur cur':Array Value}{W:World}(h:dD w g cap its cur its' cur' W){i j:Nat}(hi:i<its'.length)(hj:j<its'.length)(n:Nat):∃cur'',dD w g cap its cur (swapL its' i j) cur'' ((bY (bY W g (i*12) its'[j].cells) g (j*12) its'[i].cells).drewN n):=by
 obtain⟨c,h1,h2⟩:=h.row.swap hi hj n;exact⟨c,h1,h2.trans h.csz,(rC hi hj).trans h.perm,(fw _ _ _).trans h.len,tm (h.upd.trans ((fi _ _ _).trans (fi _ _ _) (fun i hi=>.inl hi)) (fun i hi=>.inl hi)) n⟩
theorem dD.AF{its':List It}{cur':Array Value}{W:World}(h:dD w g cap its cur its' cur' W){rb o:Nat}{v:Value}(hc:w.cell? ⟨rb,o,none⟩=some v)(hne:g≠rb):W.cell? ⟨rb,o,none⟩=some v:=(World.cell?_of_block (a:=⟨rb,o,none⟩) (h.upd.block rb (Cy w _ hc) (by simp;exact fun e=>hne e.symm))).trans hc
theorem Ap(rb g cap j:Nat)(its:List It)(hj:j<its.length)(hn:its.length≤1000)(cur:Array Value)(w:World)(h11:w.cell? ⟨rb,11,none⟩=some (.slice (some ⟨g,0,none⟩) its.length cap))(hq:fj w g cap its cur)(hne:g≠rb)(hI:iy its.length j (kF its)):Calls Tryz.prog 128 #[.iface 175 (.pointer (some ⟨rb,11,none⟩)),.int .i64 (j:Int)] w fun e w'=>e=.returned (.tuple #[])∧∃its' cur',dD w g cap its cur its' cur' w'∧aH 0 its.length (kF its'):=by
 have H11:=hid h11;have HT0:Hid (dD w g cap its cur its cur w):=dD.refl hq;have HI0:=hid hI;clear h11 hq hI;go_enter Tryz.func128,Tryz.ntmps128
 go_wp2
 go_loopw [1] (fun v wr=>∃m:Nat,v=.int .i64 m∧m<its.length∧∃its' cur',Hid (dD w g cap its cur its' cur' wr∧iy its.length m (kF its'))) (fun v _=>(intOf v).toNat)
 case atStart=>exact⟨j,rfl,hj,its,cur,HT0.out,HI0.out⟩
 case round =>
  obtain⟨m,rfl,hm,its',cur',HT⟩:=hrel;have hlen:=HT.out.1.len;have hc11:=HT.out.1.AF H11.out hne;have hmL:=kp rb wr _ _ _ hc11;rcases m with _|m
  ·have q0:((0:Int)-1).tdiv 2=0:=by decide
   go_wp2
   go_end0
   exact⟨rfl,its',cur',HT.out.1,HT.out.2.done (.inl rfl)⟩
  have hqb:((m:Int) / 2 == (m:Int)+1)=false:=by simp;omega
  have hp:((m+1)-1) / 2=m / 2:=by simp
  have k1:kF its' (m+1)=(its'[m+1]'(by omega)).due:=fY (by omega);have k2:kF its' (m / 2)=(its'[m / 2]'(by omega)).due:=fY (by omega);have HLm:Hid (Calls Tryz.prog 232 #[.slice (some ⟨g,0,none⟩) its.length cap,.int .i64 ((m:Int)+1),.int .i64 ((m:Int) / 2)] wr fun e w'=>e=.returned (.bool (decide (kF its' (m+1)<kF its' (m / 2))))∧Below wr.heap.size wr w'):=by
   have:=xU g its.length cap (m+1) (m / 2) (its'[m+1]'(by omega)).due (its'[m / 2]'(by omega)).due hm (by omega) hn wr (by have:=HT.out.1.row.cell (i:=m+1) (o:=0) (by omega) (by omega) rfl;simpa using this) (by have:=HT.out.1.row.cell (i:=m / 2) (o:=0) (by omega) (by omega) rfl;simpa using this);rw[show((m / 2:Nat):Int)=(m:Int) / 2 by omega,show((m+1:Nat):Int)=(m:Int)+1 by omega,←k1,←k2]at this
   exact this
  by_cases hlt:kF its' (m+1)<kF its' (m / 2)
  ·rw[decide_eq_true hlt]at HLm;have HS:Hid (∀W,Below wr.heap.size wr W→W.cell? ⟨rb,11,none⟩=some (.slice (some ⟨g,0,none⟩) its.length cap)∧Calls Tryz.prog 233 #[.slice (some ⟨g,0,none⟩) its.length cap,.int .i64 ((m:Int) / 2),.int .i64 ((m:Int)+1)] W fun e w'=>e=.returned (.tuple #[])∧∃its'' cur'',dD w g cap its cur its'' cur'' w'∧iy its.length (m / 2) (kF its'')):=fun W hW=>by
    have ht:=HT.out.1.below hW;have hi1:m / 2<its'.length:=by omega
    have hi2:m+1<its'.length:=by omega
    refine⟨ht.AF H11.out hne,?_⟩;have:=ve g cap (m / 2) (m+1) its' hi1 hi2 (by omega) cur' W ht.row;rw[show((m / 2:Nat):Int)=(m:Int) / 2 by omega,show((m+1:Nat):Int)=(m:Int)+1 by omega,hlen]at this
    refine this.mono ?_;rintro e w' ⟨he,n,rfl⟩
    obtain⟨c,hc⟩:=ht.swap hi1 hi2 n;refine⟨he,_,c,hc,?_⟩;rw[px hi1 hi2];have hs:=HT.out.2.step (by omega) hm (by rw[hp];exact hlt);rw[hp]at hs
    exact hs
   clear hlt k1 k2;go_wp2_with (first
    |(go_at_call 232;refine HLm.out.mono ?_;rintro e w1 ⟨rfl,hb1⟩;obtain⟨hc1,hS1⟩:=HS.out w1 hb1;have hmS:=gx rb w1 _ _ _ hc1;have HS1:Hid _:=hS1;clear hS1)
    |(go_at_call 233;refine Calls.mono HS1.out ?_;rintro e w2 ⟨rfl,its2,cur2,hT2,hU2⟩))
   go_roundw
   case rel=>exact⟨m / 2,by go_num,by omega,its2,cur2,hT2,hU2⟩
   case measure=>simp[intOf];omega
  rw[decide_eq_false hlt]at HLm;have HE:Hid (aH 0 its.length (kF its')):=HT.out.2.done (.inr (by rw[hp];omega));clear hlt k1 k2;go_wp2_with (go_at_call 232;refine HLm.out.mono ?_;rintro e w1 ⟨rfl,hb1⟩)
  go_end0
  exact⟨rfl,its',cur',HT.out.1.below hb1,HE.out⟩
end
end Go.Proofs.YtckmppkdpnhodaaGreatDoor
