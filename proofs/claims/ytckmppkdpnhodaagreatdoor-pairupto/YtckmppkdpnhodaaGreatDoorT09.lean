import Derived.Test.YtckmppkdpnhodaaGreatDoorT08
set_option maxRecDepth 100000
set_option maxHeartbeats 8000000
set_option linter.unusedVariables false
set_option linter.unusedSimpArgs false
open ByteArray renaming data_append→DW
namespace Go.Proofs.YtckmppkdpnhodaaGreatDoor
section
open Go.RowKit Go.Proofs
variable {s:ByteArray}
theorem oI{a:UInt8}(h:48≤a.toNat):UInt8.ofNat (48+(a.toNat-48))=a:=by
 have:48+(a.toNat-48)=a.toNat:=by omega
 rw[this];simp
theorem jR:∀(l:List UInt8) (c:Nat),countGo l 0=c→0<c→l=(dE c).data.toList
 |[],c,h,h0=>by simp[countGo]at h;omega
 |[a],c,h,h0=>by
  simp only[countGo]at h;split at h
  ·omega
  split at h
  ·omega
  have hc:c=a.toNat-48:=by omega
  have ha:48≤a.toNat:=by omega
  rw[fL (by omega),hc,oI ha]
 |[a,b],c,h,h0=>by
  simp only[countGo]at h;split at h
  ·omega
  split at h
  ·omega
  split at h
  ·omega
  split at h
  ·omega
  have ha:48≤a.toNat:=by omega
  have hb:48≤b.toNat:=by omega
  have h1:c / 10=a.toNat-48:=by omega
  have h2:c % 10=b.toNat-48:=by omega
  rw[mD (by omega),fL (by omega),h1,h2,oI ha,oI hb];simp[DW]
 |a::b::e::r,c,h,h0=>by
  simp only[countGo]at h;split at h
  ·omega
  split at h
  ·omega
  split at h
  ·omega
  split at h
  ·omega
  split at h
  ·omega
  split at h
  ·omega
  omega
theorem rh(h:blank s<s.size):s[blank s]=32:=by
 have hk:s.data.toList.findIdx (· == 32)<s.data.toList.length:=by simpa[blank] using h
 have:=List.findIdx_getElem (p:=(· == 32)) (xs:=s.data.toList) (w:=hk);have h3:s.data.toList[s.data.toList.findIdx (· == 32)]'hk=32:=by simpa using this
 exact h3
theorem rp(h:blank s<s.size):al s++⟨#[32]⟩++ag s=s:=by
 unfold al ag;rw[if_pos h,if_pos h];have hd:s.data[blank s]'h=32:=rh h;apply ByteArray.ext
 apply Array.toList_inj.1
 simp only[DW,ByteArray.data_extract,Array.toList_append,Array.toList_extract,List.extract_eq_take_drop,List.drop_zero,Nat.sub_zero];have e:s.data.toList=s.data.toList.take (blank s)++([32]++s.data.toList.drop (blank s+1)):=by
  have:=List.take_append_drop (blank s) s.data.toList
  conv=>lhs;rw[←this]
  congr 1
  rw[List.drop_eq_getElem_cons (by simpa using h)];simp[hd]
 conv=>rhs;rw[e]
 rw[List.append_assoc];congr 2
 rw[List.take_of_length_le (by rw[List.length_drop,Array.length_toList];exact Nat.le_refl _)]
theorem eU{cm:Cm}(h:aY s=some cm):nF cm∧aQ cm=s:=by
 unfold aY at h;split at h
 case isFalse=>cases h
 case isTrue h1 =>
  obtain⟨hb,hw⟩:=h1;simp only[aA,decide_eq_true_eq]at hb;have hs:=rp hb;split at h
  case isTrue h2 =>
   split at h
   case isFalse=>cases h
   case isTrue h3 =>
    obtain⟨hb2,hc⟩:=h3;simp only[aA,decide_eq_true_eq]at hb2;have hs2:=rp hb2;have hd:=jR _ _ rfl hc;have hd':dE (aZ (ag (ag s)))=ag (ag s):=ByteArray.ext (Array.toList_inj.1 hd.symm);simp only[Option.some.injEq]at h;subst h;refine⟨⟨hw,fun _=>⟨hc,js _ 0 (by omega)⟩,fun h=>absurd rfl h⟩,?_⟩;simp only[aQ,if_pos];rw[hd',←h2]
    conv=>rhs;rw[←hs,←hs2]
    simp only[ByteArray.append_assoc]
  case isFalse h2 =>
   split at h
   case isTrue=>cases h
   case isFalse h3 =>
    have hb2:¬ blank (ag s)<(ag s).size:=by simpa[aA] using h3
    have ht:al (ag s)=ag s:=by unfold al;rw[if_neg hb2]
    have fin:∀k:Kd,k≠.closed→al s=k.bs→nF ⟨k,al (ag s),0⟩∧aQ ⟨k,al (ag s),0⟩=s:=fun k hk hh=>by
     refine⟨⟨hw,fun e=>absurd e hk,fun _=>rfl⟩,?_⟩;simp only[aQ,if_neg hk,ht,ByteArray.append_empty];rw[←hh];exact hs
    split at h
    case isTrue h4=>simp only[Option.some.injEq]at h;subst h;exact fin .listen (by decide) h4
    case isFalse =>
    split at h
    case isTrue h4=>simp only[Option.some.injEq]at h;subst h;exact fin .established (by decide) h4
    case isFalse =>
    split at h
    case isTrue h4=>simp only[Option.some.injEq]at h;subst h;exact fin .finWait (by decide) h4
    case isFalse =>
    split at h
    case isTrue h4=>simp only[Option.some.injEq]at h;subst h;exact fin .closeWait (by decide) h4
    case isFalse=>cases h
end
section
open Go.RowKit
structure Sp where
 K:Int
 A:Int
 B:Int
 C:Int
 S:ByteArray
def Sp.ok(o:Sp):Prop := -9223372036854775808≤o.K∧o.K≤9223372036854775807
def Sp.val(o:Sp):Value:=.agg #[.int .i64 o.K,.int .i64 o.A,.int .i64 o.B,.int .i64 o.C,.string o.S]
def dF(w:World)(p:Option Addr)(sc:List Sp):Prop:=∀(i:Nat) (o:Sp),sc[i]?=some o→∃b off,p=some ⟨b,off,none⟩∧w.cell? ⟨b,off+i*5,none⟩=some (.int .i64 o.K)∧w.cell? ⟨b,off+i*5+1,none⟩=some (.int .i64 o.A)∧w.cell? ⟨b,off+i*5+2,none⟩=some (.int .i64 o.B)∧w.cell? ⟨b,off+i*5+3,none⟩=some (.int .i64 o.C)∧w.cell? ⟨b,off+i*5+4,none⟩=some (.string o.S)
def yh:ByteArray:=⟨#[97,100,100,32,116,101,97,32,50]⟩
end
end Go.Proofs.YtckmppkdpnhodaaGreatDoor
