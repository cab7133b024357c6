/-
  Plain facts on programs as bytes: what is put is read back, whatever stands behind it. No program is met here.
  Plain facts on programs as bytes: what is typed may be put; the program of bytes. No program is met here.
  Plain facts on programs as bytes: what the package reads; of a typed program's bytes it is the program. No program is met here.
  The reference of code, walked: a program's bytes.
  The reference of code, walked: a program's bytes, or what is wrong with it; one thing that is read.
  What the package's functions come to; the document's example.
  Arguments that are programs by value: what they hold, and that nodes' numbers are numbers of the language.
-/
import Derived.Test.YtekogckmgkodfaaGreatDoorKindsG
import Derived.Test.YtekogckmgkodfaaGreatDoorWireH
import Derived.Test.YtekogckmgkodfaaGreatDoorWireG
import Derived.Test.YtekogckmgkodfaaGreatDoorLebG
set_option linter.unusedVariables false
set_option maxRecDepth 100000
namespace Go.Proofs.YtekogckmgkodfaaGreatDoor
theorem zCodeG0{P:Prop}(h:P:=by
  rw [List.drop_eq_getElem_cons hi]
  rw [List.getElem?_eq_getElem hi] at ht
  rw [Option.some.inj ht]):P:=h
theorem zCodeG1{P:Prop}(h:P:=by
  have k0:nkind t=0:=by rcases nkind_three t with q | q | q;exact q;exact absurd q k1;exact absurd q k2
  have ht1:tail (t,n)=[]:=by unfold tail;rw [if_neg k1,if_neg k2]
  rw [if_neg k1,if_neg k2,ht1,r4 k0]
  simp):P:=h
theorem zCodeG2{P:Prop}(h:P:=by
  have e:S.data.toList[x.length]? = some b:=by rw [hS];simp
  have e2:S.data.toList[x.length]? = some S[x.length]:=by
   rw [List.getElem?_eq_getElem (by simpa using hl)]
   rfl
  rw [e] at e2
  exact(Option.some.inj e2).symm):P:=h
theorem zCodeG3{P:Prop}(h:P:=by
  have:xs.drop i=(t,n)::xs.drop (i+1):=by
   have hi:i<xs.length:=by omega
   exact zCodeG0
  rw [← this,List.take_append_drop]):P:=h
theorem zCodeG4{P:Prop}(h:P:=by
  rw [hS,← List.append_assoc];exact lget_back (by omega) x y):P:=h
theorem zCodeG5{P:Prop}(h:P:=by
  have:vs.drop i=t::vs.drop (i+1):=by
   have hi:i<vs.length:=by omega
   exact zCodeG0
  rw [← this,List.take_append_drop]):P:=h
theorem zCodeG6{P:Prop}(h:P:=by
  rw [hlen1] at hq
  rw [if_pos k1,ht1]
  simp only [Int.natCast_add,Int.natCast_one] at hq
  rw [hq,Int.toNat_of_nonneg hr.1]):P:=h
theorem zCodeG7{P:Prop}(h:P:=by
  rw [hlen1] at hq
  rw [if_neg k1,if_pos k2,ht1]
  simp only [Int.natCast_add,Int.natCast_one] at hq
  rw [hq]):P:=h
theorem zCodeG8{P:Prop}(h:P:=by
  have h:S.data.size=x.length+(y.length+1):=by rw [← Array.length_toList,hS];simp
  show x.length<S.data.size
  omega):P:=h
theorem zCodeG9{P:Prop}(h:P:=by
  unfold bads at hbad
  rw [List.any_eq_false] at hbad
  have:=hbad x hx
  rw [decide_eq_true_eq] at this
  omega):P:=h
end Go.Proofs.YtekogckmgkodfaaGreatDoor
namespace Go.Proofs.YtekogckmgkodfaaGreatDoor.Code
open Go.RowKit Leb Mem Wire Zig Arena Kinds
def nkind(t:Int):Nat:=if t=1 then 2 else if t=2∨t=3∨t=4∨t=20∨t=21∨t=22 then 1 else 0
theorem nkind_three(t:Int):nkind t=0∨nkind t=1∨nkind t=2:=by
 unfold nkind
 split
 ·exact .inr (.inr rfl)
 ·split
  ·exact .inr (.inl rfl)
  ·exact .inl rfl
def tail(x:Nd):List UInt8:=if nkind x.1=1 then lput x.2.toNat else if nkind x.1=2 then lput (zig x.2).toNat else []
def nb(x:Nd):List UInt8:=UInt8.ofNat x.1.toNat::tail x
def tb(t:Int):UInt8:=UInt8.ofNat t.toNat
def cput(ps:Int)(vs:List Int)(xs:List Nd):List UInt8:=lput ps.toNat++(lput vs.length++(vs.map tb++(lput xs.length++xs.flatMap nb)))
def ask(S:ByteArray)(s:Int×Int)(k:Int):(Int×Int)×Int :=
  ((((outOf S s.1.toNat k 1000000).fin s.2 s.1.toNat).to, ((outOf S s.1.toNat k 1000000).fin s.2 s.1.toNat).er),
    if((outOf S s.1.toNat k 1000000).fin s.2 s.1.toNat).er≠0 then -1 else if k=3 then((outOf S s.1.toNat k 1000000).fin s.2 s.1.toNat).int else((outOf S s.1.toNat k 1000000).fin s.2 s.1.toNat).num)
def rv(S:ByteArray)(s:Int×Int):Nat→List Int×(Int×Int)
 | 0=>([],s)
 | i+1=>((rv S s i).1++[(ask S (rv S s i).2 0).2],(ask S (rv S s i).2 0).1)
def num(S:ByteArray)(s:Int×Int)(t:Int):(Int×Int)×Int:=if nkind t=1 then ask S s 2 else if nkind t=2 then ask S s 3 else(s,0)
def rb(S:ByteArray)(s:Int×Int):Nat→List Nd×(Int×Int)
 | 0=>([],s)
 | i+1=>((rb S s i).1++[((ask S (rb S s i).2 0).2,(num S (ask S (rb S s i).2 0).1 (ask S (rb S s i).2 0).2).2)],(num S (ask S (rb S s i).2 0).1 (ask S (rb S s i).2 0).2).1)
structure Good (ps:Int) (vs:List Int) (xs:List Nd):Prop where
 ps0:0≤ps
 ps1:ps≤1000000
 vs0:∀ t∈vs,0≤t∧t≤255
 vl:vs.length≤13
 xl:xs.length≤201
 xs0:∀ x∈xs,0≤x.1∧x.1≤255∧(nkind x.1=1→0≤x.2∧x.2≤1000000)∧(nkind x.1=2 → -9223372036854775808≤x.2∧x.2≤9223372036854775807)∧(nkind x.1=0→x.2=0)
theorem ask_num{S:ByteArray}{x y:List UInt8}{n:Nat}(hn:n≤1000000)(hS:S.data.toList=x++(lput n++y)):ask S ((x.length:Int),0) 2=(((x.length:Int)+(lput n).length,0),(n:Int)):=by
 have hg:lget S.data.toList (x.length:Int)=(n,(x.length:Int)+(lput n).length,0):=by
  exact zCodeG4
 have hl:lcount S.data.toList (x.length:Int) 1000000=(n,(x.length:Int)+(lput n).length,0):=by
  rw [lcount_ok (by rw [hg]) (by omega) (by rw [hg];simp;omega),hg]
 unfold ask
 simp only [Int.toNat_natCast]
 rw [outOf_2,hl,fin0_ok rfl]
 simp
theorem ask_int{S:ByteArray}{x y:List UInt8}{v:Int}(h0 : -9223372036854775808≤v)(h1:v≤9223372036854775807)(hS:S.data.toList=x++(lput (zig v).toNat++y)):ask S ((x.length:Int),0) 3=(((x.length:Int)+(lput (zig v).toNat).length,0),v):=by
 have hz:=zig_range h0 h1
 have hg:lget S.data.toList (x.length:Int)=((zig v).toNat,(x.length:Int)+(lput (zig v).toNat).length,0):=by
  exact zCodeG4
 have hzz:zag (((zig v).toNat:Nat):Int)=v:=by rw [Int.toNat_of_nonneg hz.1,zag_zig]
 unfold ask
 simp only [Int.toNat_natCast]
 rw [outOf_3,hg,fin0_ok rfl]
 simp only
 rw [hzz]
 simp
theorem ask_byte{S:ByteArray}{x y:List UInt8}{b:UInt8}(hS:S.data.toList=x++(b::y)):ask S ((x.length:Int),0) 0=(((x.length:Int)+1,0),(b.toNat:Int)):=by
 have hl:x.length<S.size:=by
  exact zCodeG8
 have hb:S[x.length]=b:=by
  exact zCodeG2
 unfold ask
 simp only [Int.toNat_natCast]
 rw [outOf_0a hl,fin0_ok rfl,hb]
 simp
theorem tb_val{t:Int}(h0:0≤t)(h1:t≤255):((tb t).toNat:Int)=t:=by
 unfold tb
 rw [ofNat_lo (by omega)]
 omega
theorem rv_put{S:ByteArray}{x y:List UInt8}{vs:List Int}(hv:∀ t∈vs,0≤t∧t≤255)(hS:S.data.toList=x++(vs.map tb++y)):∀ i,i≤vs.length→rv S ((x.length:Int),0) i=(vs.take i,((x.length:Int)+i,0))
 | 0,_=>by simp [rv]
 | i+1,h=>by
  have ih:=rv_put hv hS i (by omega)
  obtain⟨t,ht⟩:∃ t,vs[i]? = some t:=⟨_,List.getElem?_eq_getElem (by omega)⟩
  have hr:=hv t (List.mem_of_getElem? ht)
  have hsp:vs=vs.take i++(t::vs.drop (i+1)):=by
   exact zCodeG5
  have hS2:S.data.toList=(x++(vs.take i).map tb)++(tb t::((vs.drop (i+1)).map tb++y)):=by
   rw [hS]
   conv=>lhs;rw [hsp]
   simp
  have ha:=ask_byte hS2
  have hlen:(x++(vs.take i).map tb).length=x.length+i:=by simp;omega
  rw [hlen,Int.natCast_add] at ha
  rw [rv,ih]
  simp only
  rw [ha,tb_val hr.1 hr.2,List.take_add_one,ht]
  simp
  omega
theorem rb_put{S:ByteArray}{x y:List UInt8}{xs:List Nd}(hx:∀ x∈xs,0≤x.1∧x.1≤255∧(nkind x.1=1→0≤x.2∧x.2≤1000000)∧(nkind x.1=2 → -9223372036854775808≤x.2∧x.2≤9223372036854775807)∧(nkind x.1=0→x.2=0))(hS:S.data.toList=x++(xs.flatMap nb++y)) :
  ∀ i,i≤xs.length→rb S ((x.length:Int),0) i=(xs.take i,((x.length:Int)+((xs.take i).flatMap nb).length,0))
 | 0,_=>by simp [rb]
 | i+1,h=>by
  have ih:=rb_put hx hS i (by omega)
  obtain⟨⟨t,n⟩,ht⟩:∃ t,xs[i]? = some t:=⟨_,List.getElem?_eq_getElem (by omega)⟩
  obtain⟨r0,r1,r2,r3,r4⟩:=hx _ (List.mem_of_getElem? ht)
  simp only at r0 r1 r2 r3 r4
  have htk:xs.take (i+1)=xs.take i++[(t,n)]:=by rw [List.take_add_one,ht];rfl
  have hsp:xs=xs.take i++((t,n)::xs.drop (i+1)):=by
   exact zCodeG3
  have hS2:S.data.toList=(x++(xs.take i).flatMap nb)++(tb t::(tail (t,n)++((xs.drop (i+1)).flatMap nb++y))):=by
   rw [hS]
   conv=>lhs;rw [hsp]
   simp [nb,tb]
  have ha:=ask_byte hS2
  have hlen:(x++(xs.take i).flatMap nb).length=x.length+((xs.take i).flatMap nb).length:=by simp
  have hlen1:(x++(xs.take i).flatMap nb++[tb t]).length=x.length+((xs.take i).flatMap nb).length+1:=by simp;omega
  have hS3:S.data.toList=(x++(xs.take i).flatMap nb++[tb t])++(tail (t,n)++((xs.drop (i+1)).flatMap nb++y)):=by rw [hS2];simp
  rw [hlen,Int.natCast_add,tb_val r0 r1] at ha
  have hnum:num S ((x.length:Int)+((xs.take i).flatMap nb).length+1,0) t=(((x.length:Int)+((xs.take i).flatMap nb).length+1+(tail (t,n)).length,0),n):=by
   unfold num
   by_cases k1:nkind t=1
   ·have hr:=r2 k1
    have ht1:tail (t,n)=lput n.toNat:=by unfold tail;rw [if_pos k1]
    rw [ht1] at hS3
    have hq:=ask_num (n:=n.toNat) (by omega) hS3
    exact zCodeG6
   ·by_cases k2:nkind t=2
    ·have hr:=r3 k2
     have ht1:tail (t,n)=lput (zig n).toNat:=by unfold tail;rw [if_neg k1,if_pos k2]
     rw [ht1] at hS3
     have hq:=ask_int hr.1 hr.2 hS3
     exact zCodeG7
    ·exact zCodeG1
  rw [rb,ih]
  simp only
  rw [ha]
  simp only
  rw [hnum,htk]
  simp [nb]
  omega
def rd(S:ByteArray):(Int×List Int×List Nd)×(Int×Int) :=
  (((ask S (0, 0) 2).2, (rv S (ask S (ask S (0, 0) 2).1 2).1 (min (ask S (ask S (0, 0) 2).1 2).2.toNat 13)).1,
    (rb S (ask S (rv S (ask S (ask S (0,0) 2).1 2).1 (min (ask S (ask S (0,0) 2).1 2).2.toNat 13)).2 2).1 (min (ask S (rv S (ask S (ask S (0,0) 2).1 2).1 (min (ask S (ask S (0,0) 2).1 2).2.toNat 13)).2 2).2.toNat 201)).1),
    (rb S (ask S (rv S (ask S (ask S (0,0) 2).1 2).1 (min (ask S (ask S (0,0) 2).1 2).2.toNat 13)).2 2).1 (min (ask S (rv S (ask S (ask S (0,0) 2).1 2).1 (min (ask S (ask S (0,0) 2).1 2).2.toNat 13)).2 2).2.toNat 201)).2)
theorem rd_put{ps:Int}{vs:List Int}{xs:List Nd}(g:Good ps vs xs){S:ByteArray}{y:List UInt8}(hS:S.data.toList=cput ps vs xs++y):rd S=((ps,vs,xs),(((cput ps vs xs).length:Int),0)):=by
 have h1:S.data.toList=[]++(lput ps.toNat++((lput vs.length++(vs.map tb++(lput xs.length++xs.flatMap nb)))++y)):=by rw [hS];unfold cput;simp
 have a1:=ask_num (n:=ps.toNat) (by have:=g.ps1;omega) h1
 have h2:S.data.toList=lput ps.toNat++(lput vs.length++((vs.map tb++(lput xs.length++xs.flatMap nb))++y)):=by rw [hS];unfold cput;simp
 have a2:=ask_num (n:=vs.length) (by have:=g.vl;omega) h2
 have h3:S.data.toList=(lput ps.toNat++lput vs.length)++(vs.map tb++((lput xs.length++xs.flatMap nb)++y)):=by rw [hS];unfold cput;simp
 have a3:=rv_put g.vs0 h3 vs.length (Nat.le_refl _)
 have h4:S.data.toList=(lput ps.toNat++lput vs.length++vs.map tb)++(lput xs.length++(xs.flatMap nb++y)):=by rw [hS];unfold cput;simp
 have a4:=ask_num (n:=xs.length) (by have:=g.xl;omega) h4
 have h5:S.data.toList=(lput ps.toNat++lput vs.length++vs.map tb++lput xs.length)++(xs.flatMap nb++y):=by rw [hS];unfold cput;simp
 have a5:=rb_put g.xs0 h5 xs.length (Nat.le_refl _)
 have hv:=g.vl
 have hx:=g.xl
 have hp:((ps.toNat:Nat):Int)=ps:=Int.toNat_of_nonneg g.ps0
 simp only [List.length_append,List.length_map,List.length_nil,Int.natCast_add,Int.natCast_zero,Int.zero_add,List.take_length] at a1 a2 a3 a4 a5
 unfold rd
 rw [a1]
 simp only
 rw [a2]
 simp only [Int.toNat_natCast]
 rw [Nat.min_eq_left hv,a3]
 simp only
 rw [a4]
 simp only [Int.toNat_natCast]
 rw [Nat.min_eq_left hx,a5]
 simp only
 rw [hp]
 unfold cput
 simp only [List.length_append,List.length_map,Int.natCast_add,Prod.mk.injEq,true_and,and_true]
 omega
theorem put_one{ps ps':Int}{vs vs':List Int}{xs xs':List Nd}(g:Good ps vs xs)(g':Good ps' vs' xs'){y y':List UInt8}(h:cput ps vs xs++y=cput ps' vs' xs'++y'):(ps=ps'∧vs=vs'∧xs=xs')∧y=y':=by
 have e1:=rd_put g (S:=strB (cput ps vs xs++y)) (y:=y) (strB_list _)
 have e2:=rd_put g' (S:=strB (cput ps vs xs++y)) (y:=y') (by rw [strB_list,h])
 rw [e1] at e2
 simp only [Prod.mk.injEq] at e2
 obtain⟨⟨rfl,rfl,rfl⟩,-⟩:=e2
 exact⟨⟨rfl,rfl,rfl⟩,List.append_cancel_left h⟩
def NB(xs:List Nd):Prop:=∀ x∈xs,-9223372036854775808≤x.2∧x.2≤9223372036854775807
theorem ar_good{x:Nd}(h:0≤ar x):1≤x.1∧x.1≤26∧(nkind x.1=1→0≤x.2∧x.2≤200)∧(nkind x.1=0→x.2=0):=by
 obtain⟨t,n⟩:=x
 unfold ar at h
 simp only at h ⊢
 by_cases h1:t=1
 ·subst h1;simp [nkind]
 rw [if_neg h1] at h
 have hq:¬ (n<0∨(asks t n).2<n):=by
  intro hq
  rw [if_pos hq] at h
  omega
 rw [if_neg hq] at h
 unfold asks at h hq
 by_cases h2:t=2
 ·subst h2;simp [nkind] at *;omega
 rw [if_neg h2] at h hq
 by_cases h3:t=3
 ·subst h3;simp [nkind] at *;omega
 rw [if_neg h3] at h hq
 by_cases h4:t=4∨t=21
 ·rw [if_pos h4] at hq;simp only at hq
  exact⟨by omega,by omega,fun _=>by omega,fun hk=>by unfold nkind at hk;rw [if_neg h1,if_pos (by omega)] at hk;cases hk⟩
 rw [if_neg h4] at h hq
 by_cases h5:t=22
 ·subst h5;simp [nkind] at *;omega
 rw [if_neg h5] at h hq
 by_cases h6:t=5∨t=6∨t=25
 ·rw [if_pos h6] at hq;simp only at hq
  exact⟨by omega,by omega,fun hk=>by omega,fun _=>by omega⟩
 rw [if_neg h6] at h hq
 by_cases h7:7≤t∧t≤19∨t=24
 ·rw [if_pos h7] at hq;simp only at hq
  exact⟨by omega,by omega,fun hk=>by omega,fun _=>by omega⟩
 rw [if_neg h7] at h hq
 by_cases h8:t=20
 ·subst h8;simp [nkind] at *;omega
 rw [if_neg h8] at h hq
 by_cases h9:t=23
 ·subst h9;simp [nkind] at *;omega
 rw [if_neg h9] at h hq
 by_cases h10:t=26
 ·subst h10;simp [nkind] at *;omega
 rw [if_neg h10] at h
 simp at h
theorem good_of{ps:Int}{vs:List Int}{xs:List Nd}(h:pcheck ps vs xs=0)(hb:NB xs):Good ps vs xs:=by
 obtain⟨c1,c2,-,-⟩:=pcheck_zero h
 obtain⟨p0,p1,p2,p3⟩:=avars_zero c2
 obtain⟨l0,l1⟩:=acheck_zero c1
 have hbad:=bads_scan xs 1 l1
 refine⟨p0,by omega,?_,by omega,by omega,?_⟩
 ·intro t ht
  obtain⟨i,hi,rfl⟩:=List.getElem_of_mem ht
  have q:=vsgood_le p3 (show i+1≤vs.length by omega)
  rw [vsgood,Bool.and_eq_true,List.getD_eq_getElem?_getD,List.getElem?_eq_getElem hi] at q
  have q2:=q.2
  unfold vgood at q2
  rw [decide_eq_true_eq] at q2
  simp only [Option.getD_some] at q2
  omega
 ·intro x hx
  have ha:0≤ar x:=by
   exact zCodeG9
  obtain⟨a1,a2,a3,a4⟩:=ar_good ha
  exact⟨by omega,by omega,fun k=>by have:=a3 k;omega,fun _=>hb x hx,a4⟩
def fits(S:ByteArray):Prop:=pcheck (rd S).1.1 (rd S).1.2.1 (rd S).1.2.2=0∧cput (rd S).1.1 (rd S).1.2.1 (rd S).1.2.2=S.data.toList
theorem fits_put{ps:Int}{vs:List Int}{xs:List Nd}(h:pcheck ps vs xs=0)(hb:NB xs){S:ByteArray}(hS:S.data.toList=cput ps vs xs):fits S∧(rd S).1=(ps,vs,xs):=by
 have e:=rd_put (good_of h hb) (S:=S) (y:=[]) (by rw [hS,List.append_nil])
 unfold fits
 rw [e]
 exact⟨⟨h,hS.symm⟩,rfl⟩
theorem fits_more{ps:Int}{vs:List Int}{xs:List Nd}(h:pcheck ps vs xs=0)(hb:NB xs){S:ByteArray}{y:List UInt8}(hy:y≠[])(hS:S.data.toList=cput ps vs xs++y):¬ fits S:=by
 intro hf
 have e:=rd_put (good_of h hb) hS
 unfold fits at hf
 rw [e] at hf
 have:=hf.2
 simp only at this
 rw [hS] at this
 exact hy (List.append_cancel_left (this.symm.trans (List.append_nil _).symm))
theorem cput_inj{ps ps':Int}{vs vs':List Int}{xs xs':List Nd}(h:pcheck ps vs xs=0)(hb:NB xs)(h':pcheck ps' vs' xs'=0)(hb':NB xs')(e:cput ps vs xs=cput ps' vs' xs'):ps=ps'∧vs=vs'∧xs=xs' :=
 (put_one (good_of h hb) (good_of h' hb') (y:=[]) (y':=[]) (by rw [List.append_nil,List.append_nil,e])).1
theorem fin_num_or(o:Out)(e p:Int):(o.fin e p).num=o.num∨(o.fin e p).num=0:=by unfold Out.fin;split<;>simp
theorem fin_int_or(o:Out)(e p:Int):(o.fin e p).int=o.int∨(o.fin e p).int=0:=by unfold Out.fin;split<;>simp
theorem ask_rng(S:ByteArray)(s:Int×Int)(k:Int)(hk:k=2∨k=3) : -9223372036854775808≤(ask S s k).2∧(ask S s k).2≤9223372036854775807:=by
 unfold ask
 simp only
 split
 ·omega
 ·rcases hk with rfl | rfl
  ·rw [if_neg (by decide)]
   rcases fin_num_or (outOf S s.1.toNat 2 1000000) s.2 s.1.toNat with q | q
   ·rw [q,outOf_2]
    have:=lcount_le S.data.toList s.1.toNat 1000000 (by omega)
    simp only
    omega
   ·rw [q];omega
  ·rw [if_pos rfl]
   rcases fin_int_or (outOf S s.1.toNat 3 1000000) s.2 s.1.toNat with q | q
   ·rw [q,outOf_3]
    exact zag_range (by omega) (by have:=lget_fst_le S.data.toList s.1.toNat;omega)
   ·rw [q];omega
theorem num_rng(S:ByteArray)(s:Int×Int)(t:Int) : -9223372036854775808≤(num S s t).2∧(num S s t).2≤9223372036854775807:=by
 unfold num
 split
 ·exact ask_rng S s 2 (.inl rfl)
 ·split
  ·exact ask_rng S s 3 (.inr rfl)
  ·simp
theorem rb_NB(S:ByteArray)(s:Int×Int):∀ i,NB (rb S s i).1
 | 0=>fun x hx=>by simp [rb] at hx
 | i+1=>fun x hx=>by
  rw [rb] at hx
  rcases List.mem_append.1 hx with h | h
  ·exact rb_NB S s i x h
  ·rw [List.mem_singleton] at h
   rw [h]
   exact num_rng S _ _
theorem rd_NB(S:ByteArray):NB (rd S).1.2.2:=rb_NB S _ _
theorem fits_cut{ps:Int}{vs:List Int}{xs:List Nd}(h:pcheck ps vs xs=0)(hb:NB xs){S:ByteArray}{n:Nat}(hn:n<(cput ps vs xs).length)(hS:S.data.toList=(cput ps vs xs).take n):¬ fits S:=by
 rintro⟨f1,f2⟩
 rw [hS] at f2
 have e:cput (rd S).1.1 (rd S).1.2.1 (rd S).1.2.2++(cput ps vs xs).drop n=cput ps vs xs++[]:=by rw [f2,List.take_append_drop,List.append_nil]
 have q:=(put_one (good_of f1 (rd_NB S)) (good_of h hb) e).2
 have:=congrArg List.length q
 rw [List.length_drop,List.length_nil] at this
 omega
def askP(S:ByteArray)(s:Int×Int)(k N:Int):(Int×Int)×Int :=
  ((((outOf S s.1.toNat k N).fin s.2 s.1.toNat).to, ((outOf S s.1.toNat k N).fin s.2 s.1.toNat).er),
    if k=3 then((outOf S s.1.toNat k N).fin s.2 s.1.toNat).int else((outOf S s.1.toNat k N).fin s.2 s.1.toNat).num)
def pv(S:ByteArray)(s:Int×Int):Nat→List Int×(Int×Int)
 | 0=>([],s)
 | i+1=>((pv S s i).1++[(askP S (pv S s i).2 0 0).2],(askP S (pv S s i).2 0 0).1)
def pnum(S:ByteArray)(s:Int×Int)(t:Int):(Int×Int)×Int:=if nkind t=1 then askP S s 2 200 else if nkind t=2 then askP S s 3 0 else(s,0)
def pb(S:ByteArray)(s:Int×Int):Nat→List Nd×(Int×Int)
 | 0=>([],s)
 | i+1=>((pb S s i).1++[((askP S (pb S s i).2 0 0).2,(pnum S (askP S (pb S s i).2 0 0).1 (askP S (pb S s i).2 0 0).2).2)],(pnum S (askP S (pb S s i).2 0 0).1 (askP S (pb S s i).2 0 0).2).1)
theorem askP_num{N:Int}(hN:N≤1000000){S:ByteArray}{x y:List UInt8}{n:Nat}(hn:(n:Int)≤N)(hS:S.data.toList=x++(lput n++y)):askP S ((x.length:Int),0) 2 N=(((x.length:Int)+(lput n).length,0),(n:Int)):=by
 have hg:lget S.data.toList (x.length:Int)=(n,(x.length:Int)+(lput n).length,0):=by
  exact zCodeG4
 have hl:lcount S.data.toList (x.length:Int) N=(n,(x.length:Int)+(lput n).length,0):=by
  rw [lcount_ok (by rw [hg]) (by omega) (by rw [hg];simp;omega),hg]
 unfold askP
 simp only [Int.toNat_natCast]
 rw [outOf_2,hl,fin0_ok rfl]
 simp
theorem askP_int{S:ByteArray}{x y:List UInt8}{v N:Int}(h0 : -9223372036854775808≤v)(h1:v≤9223372036854775807)(hS:S.data.toList=x++(lput (zig v).toNat++y)):askP S ((x.length:Int),0) 3 N=(((x.length:Int)+(lput (zig v).toNat).length,0),v):=by
 have hz:=zig_range h0 h1
 have hg:lget S.data.toList (x.length:Int)=((zig v).toNat,(x.length:Int)+(lput (zig v).toNat).length,0):=by
  exact zCodeG4
 have hzz:zag (((zig v).toNat:Nat):Int)=v:=by rw [Int.toNat_of_nonneg hz.1,zag_zig]
 unfold askP
 simp only [Int.toNat_natCast]
 rw [outOf_3,hg,fin0_ok rfl]
 simp only
 rw [hzz]
 simp
theorem askP_byte{S:ByteArray}{x y:List UInt8}{b:UInt8}(hS:S.data.toList=x++(b::y)):askP S ((x.length:Int),0) 0 0=(((x.length:Int)+1,0),(b.toNat:Int)):=by
 have hl:x.length<S.size:=by
  exact zCodeG8
 have hb:S[x.length]=b:=by
  exact zCodeG2
 unfold askP
 simp only [Int.toNat_natCast]
 rw [outOf_0a hl,fin0_ok rfl,hb]
 simp
theorem pv_put{S:ByteArray}{x y:List UInt8}{vs:List Int}(hv:∀ t∈vs,0≤t∧t≤255)(hS:S.data.toList=x++(vs.map tb++y)):∀ i,i≤vs.length→pv S ((x.length:Int),0) i=(vs.take i,((x.length:Int)+i,0))
 | 0,_=>by simp [pv]
 | i+1,h=>by
  have ih:=pv_put hv hS i (by omega)
  obtain⟨t,ht⟩:∃ t,vs[i]? = some t:=⟨_,List.getElem?_eq_getElem (by omega)⟩
  have hr:=hv t (List.mem_of_getElem? ht)
  have hsp:vs=vs.take i++(t::vs.drop (i+1)):=by
   exact zCodeG5
  have hS2:S.data.toList=(x++(vs.take i).map tb)++(tb t::((vs.drop (i+1)).map tb++y)):=by
   rw [hS]
   conv=>lhs;rw [hsp]
   simp
  have ha:=askP_byte hS2
  have hlen:(x++(vs.take i).map tb).length=x.length+i:=by simp;omega
  rw [hlen,Int.natCast_add] at ha
  rw [pv,ih]
  simp only
  rw [ha,tb_val hr.1 hr.2,List.take_add_one,ht]
  simp
  omega
theorem pb_put{S:ByteArray}{x y:List UInt8}{xs:List Nd}(hx:∀ x∈xs,0≤x.1∧x.1≤255∧(nkind x.1=1→0≤x.2∧x.2≤200)∧(nkind x.1=2 → -9223372036854775808≤x.2∧x.2≤9223372036854775807)∧(nkind x.1=0→x.2=0))(hS:S.data.toList=x++(xs.flatMap nb++y)) :
  ∀ i,i≤xs.length→pb S ((x.length:Int),0) i=(xs.take i,((x.length:Int)+((xs.take i).flatMap nb).length,0))
 | 0,_=>by simp [pb]
 | i+1,h=>by
  have ih:=pb_put hx hS i (by omega)
  obtain⟨⟨t,n⟩,ht⟩:∃ t,xs[i]? = some t:=⟨_,List.getElem?_eq_getElem (by omega)⟩
  obtain⟨r0,r1,r2,r3,r4⟩:=hx _ (List.mem_of_getElem? ht)
  simp only at r0 r1 r2 r3 r4
  have htk:xs.take (i+1)=xs.take i++[(t,n)]:=by rw [List.take_add_one,ht];rfl
  have hsp:xs=xs.take i++((t,n)::xs.drop (i+1)):=by
   exact zCodeG3
  have hS2:S.data.toList=(x++(xs.take i).flatMap nb)++(tb t::(tail (t,n)++((xs.drop (i+1)).flatMap nb++y))):=by
   rw [hS]
   conv=>lhs;rw [hsp]
   simp [nb,tb]
  have ha:=askP_byte hS2
  have hlen:(x++(xs.take i).flatMap nb).length=x.length+((xs.take i).flatMap nb).length:=by simp
  have hlen1:(x++(xs.take i).flatMap nb++[tb t]).length=x.length+((xs.take i).flatMap nb).length+1:=by simp;omega
  have hS3:S.data.toList=(x++(xs.take i).flatMap nb++[tb t])++(tail (t,n)++((xs.drop (i+1)).flatMap nb++y)):=by rw [hS2];simp
  rw [hlen,Int.natCast_add,tb_val r0 r1] at ha
  have hnum:pnum S ((x.length:Int)+((xs.take i).flatMap nb).length+1,0) t=(((x.length:Int)+((xs.take i).flatMap nb).length+1+(tail (t,n)).length,0),n):=by
   unfold pnum
   by_cases k1:nkind t=1
   ·have hr:=r2 k1
    have ht1:tail (t,n)=lput n.toNat:=by unfold tail;rw [if_pos k1]
    rw [ht1] at hS3
    have hq:=askP_num (n:=n.toNat) (N:=200) (by omega) (by omega) hS3
    exact zCodeG6
   ·by_cases k2:nkind t=2
    ·have hr:=r3 k2
     have ht1:tail (t,n)=lput (zig n).toNat:=by unfold tail;rw [if_neg k1,if_pos k2]
     rw [ht1] at hS3
     have hq:=askP_int (N:=0) hr.1 hr.2 hS3
     exact zCodeG7
    ·exact zCodeG1
  rw [pb,ih]
  simp only
  rw [ha]
  simp only
  rw [hnum,htk]
  simp [nb]
  omega
theorem good_more{ps:Int}{vs:List Int}{xs:List Nd}(h:pcheck ps vs xs=0)(hb:NB xs):Good ps vs xs∧ps≤12∧(vs.length≤12∧xs.length≤200)∧∀ x∈xs,nkind x.1=1→x.2≤200:=by
 obtain⟨c1,c2,-,-⟩:=pcheck_zero h
 obtain⟨p0,p1,p2,p3⟩:=avars_zero c2
 obtain⟨l0,l1⟩:=acheck_zero c1
 have hbad:=bads_scan xs 1 l1
 refine⟨good_of h hb,by omega,⟨by omega,by omega⟩,fun x hx k=>?_⟩
 have ha:0≤ar x:=by
  exact zCodeG9
 exact((ar_good ha).2.2.1 k).2
def st1(S:ByteArray):(Int×Int)×Int:=askP S (0,0) 2 12
def st2(S:ByteArray):(Int×Int)×Int:=askP S (st1 S).1 2 12
def st3(S:ByteArray):List Int×(Int×Int):=pv S (st2 S).1 (st2 S).2.toNat
def st4(S:ByteArray):(Int×Int)×Int:=askP S (st3 S).2 2 200
theorem st_put{ps:Int}{vs:List Int}{xs:List Nd}(g:pcheck ps vs xs=0)(hb:NB xs){S:ByteArray}{y:List UInt8}(hS:S.data.toList=cput ps vs xs++y) :
  (st1 S).2=ps∧(st3 S).1=vs∧(st4 S).2=xs.length∧∀ k,k≤xs.length→(pb S (st4 S).1 k).1=xs.take k∧(pb S (st4 S).1 k).2.2=0:=by
 obtain⟨G,q1,⟨q2,q4⟩,q3⟩:=good_more g hb
 have h1:S.data.toList=[]++(lput ps.toNat++((lput vs.length++(vs.map tb++(lput xs.length++xs.flatMap nb)))++y)):=by rw [hS];unfold cput;simp
 have a1:=askP_num (n:=ps.toNat) (N:=12) (by omega) (by omega) h1
 have h2:S.data.toList=lput ps.toNat++(lput vs.length++((vs.map tb++(lput xs.length++xs.flatMap nb))++y)):=by rw [hS];unfold cput;simp
 have a2:=askP_num (n:=vs.length) (N:=12) (by omega) (by omega) h2
 have h3:S.data.toList=(lput ps.toNat++lput vs.length)++(vs.map tb++((lput xs.length++xs.flatMap nb)++y)):=by rw [hS];unfold cput;simp
 have a3:=pv_put G.vs0 h3 vs.length (Nat.le_refl _)
 have h4:S.data.toList=(lput ps.toNat++lput vs.length++vs.map tb)++(lput xs.length++(xs.flatMap nb++y)):=by rw [hS];unfold cput;simp
 have a4:=askP_num (n:=xs.length) (N:=200) (by omega) (by omega) h4
 have h5:S.data.toList=(lput ps.toNat++lput vs.length++vs.map tb++lput xs.length)++(xs.flatMap nb++y):=by rw [hS];unfold cput;simp
 have a5:=pb_put (fun x hx=>by obtain⟨g1,g2,g3,g4,g5⟩:=G.xs0 x hx;exact⟨g1,g2,fun k=>⟨(g3 k).1,q3 x hx k⟩,g4,g5⟩) h5
 have hp:((ps.toNat:Nat):Int)=ps:=Int.toNat_of_nonneg G.ps0
 simp only [List.length_append,List.length_map,List.length_nil,Int.natCast_add,Int.natCast_zero,Int.zero_add,List.take_length] at a1 a2 a3 a4 a5
 have e1:st1 S=((((lput ps.toNat).length:Int),0),ps):=by unfold st1;rw [a1,hp]
 have e2:st2 S=((((lput ps.toNat).length:Int)+(lput vs.length).length,0),(vs.length:Int)):=by unfold st2;rw [e1];exact a2
 have e3:st3 S=(vs,((lput ps.toNat).length:Int)+(lput vs.length).length+vs.length,0):=by unfold st3;rw [e2];simp only [Int.toNat_natCast];rw [a3]
 have e4:st4 S=((((lput ps.toNat).length:Int)+(lput vs.length).length+vs.length+(lput xs.length).length,0),(xs.length:Int)):=by unfold st4;rw [e3];exact a4
 refine⟨by rw [e1],by rw [e3],by rw [e4],fun k hk=>?_⟩
 rw [e4,a5 k hk]
 exact⟨rfl,rfl⟩
theorem askP_range{S:ByteArray}{s:Int×Int}{k N:Int}(h0:0≤s.1)(h:s.1≤S.size):0≤(askP S s k N).1.1∧(askP S s k N).1.1≤S.size:=by
 have:=fin_range S s.1.toNat s.2 k N (by omega)
 exact⟨this.1,this.2.1⟩
theorem pnum_range{S:ByteArray}{s:Int×Int}{t:Int}(h0:0≤s.1)(h:s.1≤S.size):0≤(pnum S s t).1.1∧(pnum S s t).1.1≤S.size:=by
 unfold pnum
 split
 ·exact askP_range h0 h
 ·split
  ·exact askP_range h0 h
  ·exact⟨h0,h⟩
theorem pv_range{S:ByteArray}{s:Int×Int}(h0:0≤s.1)(h:s.1≤S.size):∀ k,0≤(pv S s k).2.1∧(pv S s k).2.1≤S.size
 | 0=>⟨h0,h⟩
 | k+1=>askP_range (pv_range h0 h k).1 (pv_range h0 h k).2
theorem pb_range{S:ByteArray}{s:Int×Int}(h0:0≤s.1)(h:s.1≤S.size):∀ k,0≤(pb S s k).2.1∧(pb S s k).2.1≤S.size
 | 0=>⟨h0,h⟩
 | k+1=>by
  have q:=askP_range (k:=0) (N:=0) (pb_range h0 h k).1 (pb_range h0 h k).2
  exact pnum_range q.1 q.2
theorem pv_len(S:ByteArray)(s:Int×Int):∀ k,(pv S s k).1.length=k
 | 0=>rfl
 | k+1=>by rw [pv,List.length_append,pv_len S s k];rfl
theorem pb_len(S:ByteArray)(s:Int×Int):∀ k,(pb S s k).1.length=k
 | 0=>rfl
 | k+1=>by rw [pb,List.length_append,pb_len S s k];rfl
theorem askP_count{S:ByteArray}{s:Int×Int}{N:Int}(hN:0≤N)(hN2:N≤9223372036854775807):0≤(askP S s 2 N).2∧(askP S s 2 N).2≤N:=by
 unfold askP
 simp only
 rw [if_neg (by decide)]
 rcases fin_num_or (outOf S s.1.toNat 2 N) s.2 s.1.toNat with q | q
 ·rw [q,outOf_2]
  simp only
  refine⟨by omega,?_⟩
  unfold lcount
  split
  ·simpa using hN
  ·split
   ·simpa using hN
   ·omega
 ·rw [q];omega
theorem askP_int_rng{S:ByteArray}{s:Int×Int}{N:Int} : -9223372036854775808≤(askP S s 3 N).2∧(askP S s 3 N).2≤9223372036854775807:=by
 unfold askP
 rw [if_pos rfl]
 rcases fin_int_or (outOf S s.1.toNat 3 N) s.2 s.1.toNat with q | q
 ·rw [q,outOf_3]
  exact zag_range (by omega) (by have:=lget_fst_le S.data.toList s.1.toNat;omega)
 ·rw [q];omega
theorem pnum_rng(S:ByteArray)(s:Int×Int)(t:Int) : -9223372036854775808≤(pnum S s t).2∧(pnum S s t).2≤9223372036854775807:=by
 unfold pnum
 split
 ·have:=askP_count (S:=S) (s:=s) (N:=200) (by omega) (by omega);omega
 ·split
  ·exact askP_int_rng
  ·simp
theorem pb_NB(S:ByteArray)(s:Int×Int):∀ i,NB (pb S s i).1
 | 0=>fun x hx=>by simp [pb] at hx
 | i+1=>fun x hx=>by
  rw [pb] at hx
  rcases List.mem_append.1 hx with h | h
  ·exact pb_NB S s i x h
  ·rw [List.mem_singleton] at h
   rw [h]
   exact pnum_rng S _ _
def stops(S:ByteArray)(s:Int×Int):Prop:=endOf S s.1 s.2≠0∧endOf S s.1 s.2≠5
theorem stops_0(S:ByteArray)(p:Int)(er:Int)(h:er=0):¬ stops S (p,er):=by
 subst h
 unfold stops endOf
 rw [if_neg (by omega)]
 split<;>simp
def ReadTo(S:ByteArray)(k:Nat):Prop:=(k:Int)≤(st4 S).2∧((k:Int)=(st4 S).2∨stops S (pb S (st4 S).1 (k+1)).2)
theorem read_fits{S:ByteArray}{k:Nat}(hk:ReadTo S k)(hf:fits S):(rd S).1=((st1 S).2,(st3 S).1,(pb S (st4 S).1 k).1):=by
 obtain⟨f1,f2⟩:=hf
 obtain⟨s1,s2,s3,s4⟩:=st_put f1 (rd_NB S) (S:=S) (y:=[]) (by rw [f2,List.append_nil])
 obtain⟨h1,h2⟩:=hk
 rw [s3] at h1 h2
 have hkk:k=(rd S).1.2.2.length:=by
  rcases h2 with h | h
  ·omega
  ·by_cases c:k+1≤(rd S).1.2.2.length
   ·exact absurd h (stops_0 S _ _ (s4 (k+1) c).2)
   ·omega
 rw [s1,s2,(s4 k (by omega)).1,hkk,List.take_length]
theorem read_iff{S:ByteArray}{k:Nat}(hk:ReadTo S k):(pcheck (st1 S).2 (st3 S).1 (pb S (st4 S).1 k).1=0∧cput (st1 S).2 (st3 S).1 (pb S (st4 S).1 k).1=S.data.toList)↔fits S:=by
 constructor
 ·rintro⟨h1,h2⟩
  exact(fits_put h1 (pb_NB S _ k) h2.symm).1
 ·intro hf
  have e:=read_fits hk hf
  obtain⟨f1,f2⟩:=hf
  rw [e] at f1 f2
  exact⟨f1,f2⟩
end Go.Proofs.YtekogckmgkodfaaGreatDoor.Code
namespace Go.Proofs.YtekogckmgkodfaaGreatDoor.Code
open Go.RowKit Leb Mem Wire Arena Kinds
attribute [local go_sem ↓] Go.wp_at_zero Go.wp_at_succ
theorem cstr_app(l m:List UInt8):(⟨l.toArray⟩:ByteArray)++⟨m.toArray⟩=⟨(l++m).toArray⟩:=ByteArray.mk_append_mk ..
theorem cstr_size(l:List UInt8):(⟨l.toArray⟩:ByteArray).size=l.length:=by simp [ByteArray.size]
def pput(ps:Int)(vs:List Int)(xs:List Nd):List UInt8:=if pcheck ps vs xs=0 then cput ps vs xs else []
theorem tail_len{x:Nd}(h1:nkind x.1=1→0≤x.2∧x.2≤1000000)(h2:nkind x.1=2 → -9223372036854775808≤x.2∧x.2≤9223372036854775807):(tail x).length≤10:=by
 unfold tail
 split
 ·rename_i k;have:=h1 k;exact lput_len10 (by omega)
 ·split
  ·rename_i k
   have:=Zig.zig_range (h2 k).1 (h2 k).2
   exact lput_len10 (by omega)
  ·simp
theorem flat_len:∀ (l:List Nd),(∀ x∈l,(tail x).length≤10)→(l.flatMap nb).length≤11*l.length
 | [],_=>by simp
 | x::l,h=>by
  have ih:=flat_len l (fun y hy=>h y (List.mem_cons_of_mem _ hy))
  have h1:=h x (List.mem_cons_self ..)
  have h2:(nb x).length=(tail x).length+1:=rfl
  rw [List.flatMap_cons,List.length_append,List.length_cons,h2]
  omega
theorem flat_snoc(xs:List Nd)(k:Nat)(x:Nd)(h:xs[k]? = some x):(xs.take (k+1)).flatMap nb=(xs.take k).flatMap nb++nb x:=by
 rw [List.take_add_one,h];simp
theorem map_snoc(vs:List Int)(k:Nat)(x:Int)(h:vs[k]? = some x):(vs.take (k+1)).map tb=(vs.take k).map tb++[tb x]:=by
 rw [List.take_add_one,h];simp
end Go.Proofs.YtekogckmgkodfaaGreatDoor.Code
namespace Go.Proofs.YtekogckmgkodfaaGreatDoor.Code
open Go.RowKit Leb Mem Wire Arena Kinds
def GetEnds(S:ByteArray)(w:World)(e:Ending)(w':World):Prop :=
  Below w.heap.size w w' ∧
  ((fits S ∧ ∃ A c B ce, e = .returned (.tuple #[.agg #[.int .i64 (rd S).1.1, .slice A (rd S).1.2.1.length c, .slice B (rd S).1.2.2.length ce], .int .i64 0]) ∧ Prg.Ok ⟨(rd S).1.1, A, c, (rd S).1.2.1, B, ce, (rd S).1.2.2⟩ w') ∨
   (¬ fits S∧∃ A c B ce,e=.returned (.tuple #[.agg #[.int .i64 0,.slice A 0 c,.slice B 0 ce],.int .i64 12])∧Prg.Ok ⟨0,A,c,[],B,ce,[]⟩ w'))
theorem GetEnds.ok{S:ByteArray}{w w':World}{e:Ending}(h:GetEnds S w e w'){ps:Int}{vs:List Int}{xs:List Nd}(hf:fits S)(hr:(rd S).1=(ps,vs,xs)):Below w.heap.size w w'∧∃ A c B ce,e=.returned (.tuple #[.agg #[.int .i64 ps,.slice A vs.length c,.slice B xs.length ce],.int .i64 0])∧Prg.Ok ⟨ps,A,c,vs,B,ce,xs⟩ w':=by
 obtain⟨hb,⟨-,A,c,B,ce,he,hk⟩ | ⟨hn,-⟩⟩:=h
 ·rw [hr] at he hk
  exact⟨hb,A,c,B,ce,he,hk⟩
 ·exact absurd hf hn
theorem GetEnds.no{S:ByteArray}{w w':World}{e:Ending}(h:GetEnds S w e w')(hf:¬ fits S):Below w.heap.size w w'∧∃ A c B ce,e=.returned (.tuple #[.agg #[.int .i64 0,.slice A 0 c,.slice B 0 ce],.int .i64 12])∧Prg.Ok ⟨0,A,c,[],B,ce,[]⟩ w':=by
 obtain⟨hb,⟨hy,-⟩ | ⟨-,hk⟩⟩:=h
 ·exact absurd hy hf
 ·exact⟨hb,hk⟩
def B9:List Nd:=[(20,1),(25,0),(3,0)]
def L9:List UInt8:=[1,1,0,3,20,1,25,3,0]
theorem scan9:scan 1 B9=some B9.length:=by simp [B9,scan_cons,scan_0,ar,asks]
theorem okind9:okind [0] B9 0=2:=by
 have h:okind [0] B9 0=((fold (kd [0]) B9).headD (-1,0)).1:=by unfold okind val;rw [whole_part scan9]
 rw [h];decide +kernel
theorem acheck9:acheck B9=0:=by
 have hd:adep B9 0=3:=by
  have:=stk_whole (l:=B9) (k:=0) (n:=B9.length) scan9
  rw [List.drop_zero,List.take_length,show stk B9=[3] by decide +kernel] at this
  simpa using this.symm
 unfold acheck
 rw [end_all scan9,hd]
 decide +kernel
theorem pcheck9:pcheck 1 [0] B9=0:=by unfold pcheck;rw [acheck9,okind9];decide +kernel
theorem NB9:NB B9:=by
 intro x hx
 simp only [B9,List.mem_cons,List.not_mem_nil,or_false] at hx
 rcases hx with rfl | rfl | rfl<;>simp
theorem lput_1:lput 1=[1]:=lput_lo (by omega)
theorem cput9:cput 1 [0] B9=L9:=by
 unfold cput
 have h3:lput 3=[3]:=lput_lo (by omega)
 have h0:lput 0=[0]:=lput_lo (by omega)
 simp [B9,nb,tail,nkind,tb,L9,lput_1,h3,h0]
theorem pput9:pput 1 [0] B9=L9:=by unfold pput;rw [if_pos pcheck9,cput9]
theorem fits9:fits ⟨L9.toArray⟩∧(rd ⟨L9.toArray⟩).1=(1,[0],B9):=fits_put pcheck9 NB9 (by rw [cput9])
theorem fits9_more:¬ fits (⟨L9.toArray⟩++⟨#[0]⟩):=fits_more pcheck9 NB9 (y:=[0]) (by simp) (by rw [cput9];rfl)
theorem pcheck_none:pcheck 0 [] []=10:=by unfold pcheck acheck;simp
theorem pput_none:pput 0 [] []=[]:=by unfold pput;rw [pcheck_none];rfl
theorem size9:(⟨L9.toArray⟩:ByteArray).size≤10000:=by rw [cstr_size];simp [L9]
theorem size9m:(⟨L9.toArray⟩++⟨#[0]⟩:ByteArray).size≤10000:=by
 have h:(⟨#[0]⟩:ByteArray).size=1:=rfl
 have:=size9
 rw [ByteArray.size_append,h]
 rw [cstr_size] at *
 have:L9.length=9:=rfl
 omega
end Go.Proofs.YtekogckmgkodfaaGreatDoor.Code
namespace Go.Proofs.YtekogckmgkodfaaGreatDoor.Code
open Go.RowKit Mem Go.ChangeShapes Go.WideShapes Go.Deep Go.Joins Arena Kinds
section
variable {H:Type} {enc:TypeId×Value→H} {W:World} {spare:Nat→Bool} {held:Bool}
theorem wf_i64{n:Int}(h:(Lit.int .i64 n).wf=true) : -9223372036854775808≤n∧n≤9223372036854775807:=bounds_i64 h
theorem node_of_wf{n:Nat}{cs:List Value}{x:DataW H×List MemPlace}(h:DataW.trod enc Tryz.prog W 0 spare held n 105 cs=some x):∃ y:Nd,cs=[.int .i64 y.1,.int .i64 y.2] ∧ -9223372036854775808≤y.2∧y.2≤9223372036854775807:=by
 have hC:Tryz.prog.cellsOf 105=2:=by kernel_rfl
 obtain⟨y0,y1,m,hx,hl,h0,h1⟩:=trod_struct2 Tryz.underlying105 h
 rw [hC] at hl
 match cs,hl with
 | [c0,c1],_ =>
  obtain⟨k,e0,-,-⟩:=DataW.trod_int Tryz.underlying3 h0
  obtain⟨n,e1,-,wf⟩:=DataW.trod_int Tryz.underlying3 h1
  have hC0:Tryz.prog.cellsOf 3=1:=by kernel_rfl
  simp only [hC0] at e0 e1
  simp at e0 e1
  exact⟨⟨k,n⟩,by simp [e0,e1],wf_i64 wf⟩
theorem nodes_of_wf{n:Nat}{cs:List Value}{x:DataW H×List MemPlace}(hf:DataW.trod enc Tryz.prog W 0 spare held n 23 cs=some x) :
  ∃ (A:Option Addr) (cap:Nat) (xs:List Nd),cs=[.slice A xs.length cap]∧xs.length≤maxLen∧xs.length≤cap∧(A=none→cap=0)∧Nodes W W.heap.size A xs∧NB xs:=by
 have hC:Tryz.prog.cellsOf 105=2:=by kernel_rfl
 rcases open_slice Tryz.underlying23 hf with⟨rfl,-⟩ | ⟨a,len,cap,m,n,D,Pl,rfl,-,hlc,hcm,hm,hx,hi⟩
 ·exact⟨none,0,[],rfl,by simp,by simp,fun _=>rfl,(fun i x h=>by simp at h),(fun x h=>by simp at h)⟩
 ·rw [hC] at hi
  have hlm:len≤m:=by rw [hm];split<;>omega
  have each:∀ i,i<len→∃ y:Nd,(a.add (i*2)).block=a.block∧W.cell? (a.add (i*2))=some (.int .i64 y.1)∧W.cell? ⟨(a.add (i*2)).block,(a.add (i*2)).off+1,none⟩=some (.int .i64 y.2) ∧ -9223372036854775808≤y.2∧y.2≤9223372036854775807:=by
   intro i hil
   obtain⟨cs',hc,ht⟩:=hi i (by omega)
   obtain⟨y,hy,hy1,hy2⟩:=node_of_wf ht
   have hat:=cells_atN hc
   subst hy
   refine⟨y,add_blockN _ _,?_,?_,hy1,hy2⟩
   ·exact hat 0 _ rfl
   ·have:=hat 1 _ rfl;rwa [add_off _ _ (by omega)] at this
  obtain⟨F,hF⟩:=choose_lt each
  refine⟨some a,cap,(List.range len).map F,by simp,by simp;omega,by simpa using hlc,(fun e=>by cases e),fun i x hxi=>?_,fun x hx=>?_⟩
  ·obtain⟨hil,rfl⟩:i<len∧F i=x:=by
    rw [List.getElem?_map] at hxi
    have h1:(List.range len)[i]? = some i:=by
     rcases Nat.lt_or_ge i len with h | h
     ·rw [List.getElem?_range h]
     ·rw [List.getElem?_eq_none (by simpa using h)] at hxi;cases hxi
    rw [h1] at hxi
    have h2:=(List.getElem?_eq_some_iff.1 h1).1
    exact⟨by simpa using h2,by simpa using hxi⟩
   obtain⟨hb,q0,q1,-⟩:=hF i hil
   exact⟨a,rfl,by have:=World.block_lt_of_cell? W _ q0;rw [hb] at this;exact this,q0,q1⟩
  ·obtain⟨i,hi',rfl⟩:=List.mem_map.1 hx
   exact(hF i (List.mem_range.1 hi')).2.2.2
theorem open_program{b0:Nat}{v:Value}{d:DataW H}{q:List MemPlace}(hv:Value.okWide Tryz.prog W .any b0 25 v)(h:DataW.Trod enc Tryz.prog W 0 spare held 25 v d q) :
  ∃ p:Prg,v=.agg #[.int .i64 p.ps,.slice p.A p.vs.length p.c,.slice p.B p.xs.length p.e]∧p.In W∧NB p.xs:=by
 obtain⟨cs,rfl,-⟩:=okWide_struct Tryz.underlying25 hv
 obtain⟨fuel,hf⟩:=h
 have hC:Tryz.prog.cellsOf 25=3:=by kernel_rfl
 have hC0:Tryz.prog.cellsOf 3=1:=by kernel_rfl
 have hC1:Tryz.prog.cellsOf 22=1:=by kernel_rfl
 have hC2:Tryz.prog.cellsOf 23=1:=by kernel_rfl
 obtain⟨l⟩:=cs
 obtain⟨y0,y1,y2,m,hx,hl,h0,h1,h2⟩:=trod_struct3 Tryz.underlying25 hf
 rw [hC] at hl
 simp only [Value.cells] at hl h0 h1 h2
 match l,hl with
 | [c0,c1,c2],_ =>
  obtain⟨k,e0,-,-⟩:=DataW.trod_int Tryz.underlying3 h0
  obtain⟨A,c,vs,e1,r1,r2,r3,r4⟩:=ints_of h1
  obtain⟨B,e,xs,e2,s1,s2,s3,s4,s5⟩:=nodes_of_wf h2
  simp only [hC0,hC1,hC2] at e0 e1 e2
  simp at e0 e1 e2
  exact⟨⟨k,A,c,vs,B,e,xs⟩,by simp [e0,e1,e2],⟨r4,s4,r1,s1,r2,s2,r3,s3⟩,s5⟩
end
end Go.Proofs.YtekogckmgkodfaaGreatDoor.Code
