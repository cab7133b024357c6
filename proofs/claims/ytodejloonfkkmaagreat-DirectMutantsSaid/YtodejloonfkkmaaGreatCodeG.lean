/-
  Plain facts on programs as bytes: what is put is read back, whatever stands behind it. No program is met here.
  Plain facts on programs as bytes: what is typed may be put; the program of bytes. No program is met here.
  Plain facts on programs as bytes: what the package reads; of a typed program's bytes it is the program. No program is met here.
  The reference of code, walked: a program's bytes.
  The reference of code, walked: a program's bytes, or what is wrong with it; one thing that is read.
  What the package's functions come to; the document's example.
  Arguments that are programs by value: what they hold, and that nodes' numbers are numbers of the language.
-/
import Derived.Test.YtodejloonfkkmaaGreatKindsG
import Derived.Test.YtodejloonfkkmaaGreatWireH
import Derived.Test.YtodejloonfkkmaaGreatWireG
import Derived.Test.YtodejloonfkkmaaGreatLebG
set_option linter.unusedVariables false
set_option maxRecDepth 100000
namespace Go.Proofs.YtodejloonfkkmaaGreat.Code
open Go.RowKit Leb Mem Wire Zig Arena Kinds
def nkind(t:Int):Nat:=if t=1 then 2 else if t=2∨t=3∨t=4∨t=20∨t=21∨t=22 then 1 else 0
def tail(x:Nd):List UInt8:=if nkind x.1=1 then lput x.2.toNat else if nkind x.1=2 then lput (zig x.2).toNat else []
def nb(x:Nd):List UInt8:=UInt8.ofNat x.1.toNat::tail x
def tb(t:Int):UInt8:=UInt8.ofNat t.toNat
def cput(ps:Int)(vs:List Int)(xs:List Nd):List UInt8:=lput ps.toNat++(lput vs.length++(vs.map tb++(lput xs.length++xs.flatMap nb)))
def ask(S:ByteArray)(s:Int×Int)(k:Int):(Int×Int)×Int :=
  ((((outOf S s.1.toNat k 1000000).fin s.2 s.1.toNat).to, ((outOf S s.1.toNat k 1000000).fin s.2 s.1.toNat).er),
    if((outOf S s.1.toNat k 1000000).fin s.2 s.1.toNat).er≠0 then -1 else if k=3 then((outOf S s.1.toNat k 1000000).fin s.2 s.1.toNat).int else((outOf S s.1.toNat k 1000000).fin s.2 s.1.toNat).num)
def rv(S:ByteArray)(s:Int×Int):Nat→List Int×(Int×Int)
 | 0=>([],s)
 | i+1=>((rv S s i).1++[(ask S (rv S s i).2 0).2],(ask S (rv S s i).2 0).1)
def num(S:ByteArray)(s:Int×Int)(t:Int):(Int×Int)×Int:=if nkind t=1 then ask S s 2 else if nkind t=2 then ask S s 3 else(s,0)
def rb(S:ByteArray)(s:Int×Int):Nat→List Nd×(Int×Int)
 | 0=>([],s)
 | i+1=>((rb S s i).1++[((ask S (rb S s i).2 0).2,(num S (ask S (rb S s i).2 0).1 (ask S (rb S s i).2 0).2).2)],(num S (ask S (rb S s i).2 0).1 (ask S (rb S s i).2 0).2).1)
structure Good (ps:Int) (vs:List Int) (xs:List Nd):Prop where
 ps0:0≤ps
 ps1:ps≤1000000
 vs0:∀ t∈vs,0≤t∧t≤255
 vl:vs.length≤13
 xl:xs.length≤201
 xs0:∀ x∈xs,0≤x.1∧x.1≤255∧(nkind x.1=1→0≤x.2∧x.2≤1000000)∧(nkind x.1=2 → -9223372036854775808≤x.2∧x.2≤9223372036854775807)∧(nkind x.1=0→x.2=0)
def rd(S:ByteArray):(Int×List Int×List Nd)×(Int×Int) :=
  (((ask S (0, 0) 2).2, (rv S (ask S (ask S (0, 0) 2).1 2).1 (min (ask S (ask S (0, 0) 2).1 2).2.toNat 13)).1,
    (rb S (ask S (rv S (ask S (ask S (0,0) 2).1 2).1 (min (ask S (ask S (0,0) 2).1 2).2.toNat 13)).2 2).1 (min (ask S (rv S (ask S (ask S (0,0) 2).1 2).1 (min (ask S (ask S (0,0) 2).1 2).2.toNat 13)).2 2).2.toNat 201)).1),
    (rb S (ask S (rv S (ask S (ask S (0,0) 2).1 2).1 (min (ask S (ask S (0,0) 2).1 2).2.toNat 13)).2 2).1 (min (ask S (rv S (ask S (ask S (0,0) 2).1 2).1 (min (ask S (ask S (0,0) 2).1 2).2.toNat 13)).2 2).2.toNat 201)).2)
def NB(xs:List Nd):Prop:=∀ x∈xs,-9223372036854775808≤x.2∧x.2≤9223372036854775807
def fits(S:ByteArray):Prop:=pcheck (rd S).1.1 (rd S).1.2.1 (rd S).1.2.2=0∧cput (rd S).1.1 (rd S).1.2.1 (rd S).1.2.2=S.data.toList
def askP(S:ByteArray)(s:Int×Int)(k N:Int):(Int×Int)×Int :=
  ((((outOf S s.1.toNat k N).fin s.2 s.1.toNat).to, ((outOf S s.1.toNat k N).fin s.2 s.1.toNat).er),
    if k=3 then((outOf S s.1.toNat k N).fin s.2 s.1.toNat).int else((outOf S s.1.toNat k N).fin s.2 s.1.toNat).num)
def pnum(S:ByteArray)(s:Int×Int)(t:Int):(Int×Int)×Int:=if nkind t=1 then askP S s 2 200 else if nkind t=2 then askP S s 3 0 else(s,0)
def pb(S:ByteArray)(s:Int×Int):Nat→List Nd×(Int×Int)
 | 0=>([],s)
 | i+1=>((pb S s i).1++[((askP S (pb S s i).2 0 0).2,(pnum S (askP S (pb S s i).2 0 0).1 (askP S (pb S s i).2 0 0).2).2)],(pnum S (askP S (pb S s i).2 0 0).1 (askP S (pb S s i).2 0 0).2).1)
end Go.Proofs.YtodejloonfkkmaaGreat.Code
namespace Go.Proofs.YtodejloonfkkmaaGreat.Code
open Go.RowKit Leb Mem Wire Arena Kinds
attribute [local go_sem ↓] Go.wp_at_zero Go.wp_at_succ
theorem flat_snoc(xs:List Nd)(k:Nat)(x:Nd)(h:xs[k]? = some x):(xs.take (k+1)).flatMap nb=(xs.take k).flatMap nb++nb x:=by
 rw [List.take_add_one,h];simp
end Go.Proofs.YtodejloonfkkmaaGreat.Code
namespace Go.Proofs.YtodejloonfkkmaaGreat.Code
open Go.RowKit Leb Mem Wire Arena Kinds
def GetEnds(S:ByteArray)(w:World)(e:Ending)(w':World):Prop :=
  Below w.heap.size w w' ∧
  ((fits S ∧ ∃ A c B ce, e = .returned (.tuple #[.agg #[.int .i64 (rd S).1.1, .slice A (rd S).1.2.1.length c, .slice B (rd S).1.2.2.length ce], .int .i64 0]) ∧ Prg.Ok ⟨(rd S).1.1, A, c, (rd S).1.2.1, B, ce, (rd S).1.2.2⟩ w') ∨
   (¬ fits S∧∃ A c B ce,e=.returned (.tuple #[.agg #[.int .i64 0,.slice A 0 c,.slice B 0 ce],.int .i64 12])∧Prg.Ok ⟨0,A,c,[],B,ce,[]⟩ w'))
theorem GetEnds.ok{S:ByteArray}{w w':World}{e:Ending}(h:GetEnds S w e w'){ps:Int}{vs:List Int}{xs:List Nd}(hf:fits S)(hr:(rd S).1=(ps,vs,xs)):Below w.heap.size w w'∧∃ A c B ce,e=.returned (.tuple #[.agg #[.int .i64 ps,.slice A vs.length c,.slice B xs.length ce],.int .i64 0])∧Prg.Ok ⟨ps,A,c,vs,B,ce,xs⟩ w':=by
 obtain⟨hb,⟨-,A,c,B,ce,he,hk⟩ | ⟨hn,-⟩⟩:=h
 ·rw [hr] at he hk
  exact⟨hb,A,c,B,ce,he,hk⟩
 ·exact absurd hf hn
theorem GetEnds.no{S:ByteArray}{w w':World}{e:Ending}(h:GetEnds S w e w')(hf:¬ fits S):Below w.heap.size w w'∧∃ A c B ce,e=.returned (.tuple #[.agg #[.int .i64 0,.slice A 0 c,.slice B 0 ce],.int .i64 12])∧Prg.Ok ⟨0,A,c,[],B,ce,[]⟩ w':=by
 obtain⟨hb,⟨hy,-⟩ | ⟨-,hk⟩⟩:=h
 ·exact absurd hy hf
 ·exact⟨hb,hk⟩
end Go.Proofs.YtodejloonfkkmaaGreat.Code
namespace Go.Proofs.YtodejloonfkkmaaGreat.Code
open Go.RowKit Mem Go.ChangeShapes Go.WideShapes Go.Deep Go.Joins Arena Kinds
section
variable {H:Type} {enc:TypeId×Value→H} {W:World} {spare:Nat→Bool} {held:Bool}
theorem wf_i64{n:Int}(h:(Lit.int .i64 n).wf=true) : -9223372036854775808≤n∧n≤9223372036854775807:=bounds_i64 h
theorem node_of_wf{n:Nat}{cs:List Value}{x:DataW H×List MemPlace}(h:DataW.trod enc Tryz.prog W 0 spare held n 47 cs=some x):∃ y:Nd,cs=[.int .i64 y.1,.int .i64 y.2] ∧ -9223372036854775808≤y.2∧y.2≤9223372036854775807:=by
 have hC:Tryz.prog.cellsOf 47=2:=by kernel_rfl
 obtain⟨y0,y1,m,hx,hl,h0,h1⟩:=trod_struct2 Tryz.underlying47 h
 rw [hC] at hl
 match cs,hl with
 | [c0,c1],_ =>
  obtain⟨k,e0,-,-⟩:=DataW.trod_int Tryz.underlying3 h0
  obtain⟨n,e1,-,wf⟩:=DataW.trod_int Tryz.underlying3 h1
  have hC0:Tryz.prog.cellsOf 3=1:=by kernel_rfl
  simp only [hC0] at e0 e1
  simp at e0 e1
  exact⟨⟨k,n⟩,by simp [e0,e1],wf_i64 wf⟩
theorem nodes_of_wf{n:Nat}{cs:List Value}{x:DataW H×List MemPlace}(hf:DataW.trod enc Tryz.prog W 0 spare held n 23 cs=some x) :
  ∃ (A:Option Addr) (cap:Nat) (xs:List Nd),cs=[.slice A xs.length cap]∧xs.length≤maxLen∧xs.length≤cap∧(A=none→cap=0)∧Nodes W W.heap.size A xs∧NB xs:=by
 have hC:Tryz.prog.cellsOf 47=2:=by kernel_rfl
 rcases open_slice Tryz.underlying23 hf with⟨rfl,-⟩ | ⟨a,len,cap,m,n,D,Pl,rfl,-,hlc,hcm,hm,hx,hi⟩
 ·exact⟨none,0,[],rfl,by simp,by simp,fun _=>rfl,(fun i x h=>by simp at h),(fun x h=>by simp at h)⟩
 ·rw [hC] at hi
  have hlm:len≤m:=by rw [hm];split<;>omega
  have each:∀ i,i<len→∃ y:Nd,(a.add (i*2)).block=a.block∧W.cell? (a.add (i*2))=some (.int .i64 y.1)∧W.cell? ⟨(a.add (i*2)).block,(a.add (i*2)).off+1,none⟩=some (.int .i64 y.2) ∧ -9223372036854775808≤y.2∧y.2≤9223372036854775807:=by
   intro i hil
   obtain⟨cs',hc,ht⟩:=hi i (by omega)
   obtain⟨y,hy,hy1,hy2⟩:=node_of_wf ht
   have hat:=cells_atN hc
   subst hy
   refine⟨y,add_blockN _ _,?_,?_,hy1,hy2⟩
   ·exact hat 0 _ rfl
   ·have:=hat 1 _ rfl;rwa [add_off _ _ (by omega)] at this
  obtain⟨F,hF⟩:=choose_lt each
  refine⟨some a,cap,(List.range len).map F,by simp,by simp;omega,by simpa using hlc,(fun e=>by cases e),fun i x hxi=>?_,fun x hx=>?_⟩
  ·obtain⟨hil,rfl⟩:i<len∧F i=x:=by
    rw [List.getElem?_map] at hxi
    have h1:(List.range len)[i]? = some i:=by
     rcases Nat.lt_or_ge i len with h | h
     ·rw [List.getElem?_range h]
     ·rw [List.getElem?_eq_none (by simpa using h)] at hxi;cases hxi
    rw [h1] at hxi
    have h2:=(List.getElem?_eq_some_iff.1 h1).1
    exact⟨by simpa using h2,by simpa using hxi⟩
   obtain⟨hb,q0,q1,-⟩:=hF i hil
   exact⟨a,rfl,by have:=World.block_lt_of_cell? W _ q0;rw [hb] at this;exact this,q0,q1⟩
  ·obtain⟨i,hi',rfl⟩:=List.mem_map.1 hx
   exact(hF i (List.mem_range.1 hi')).2.2.2
theorem open_program{b0:Nat}{v:Value}{d:DataW H}{q:List MemPlace}(hv:Value.okWide Tryz.prog W .any b0 25 v)(h:DataW.Trod enc Tryz.prog W 0 spare held 25 v d q) :
  ∃ p:Prg,v=.agg #[.int .i64 p.ps,.slice p.A p.vs.length p.c,.slice p.B p.xs.length p.e]∧p.In W∧NB p.xs:=by
 obtain⟨cs,rfl,-⟩:=okWide_struct Tryz.underlying25 hv
 obtain⟨fuel,hf⟩:=h
 have hC:Tryz.prog.cellsOf 25=3:=by kernel_rfl
 have hC0:Tryz.prog.cellsOf 3=1:=by kernel_rfl
 have hC1:Tryz.prog.cellsOf 22=1:=by kernel_rfl
 have hC2:Tryz.prog.cellsOf 23=1:=by kernel_rfl
 obtain⟨l⟩:=cs
 obtain⟨y0,y1,y2,m,hx,hl,h0,h1,h2⟩:=trod_struct3 Tryz.underlying25 hf
 rw [hC] at hl
 simp only [Value.cells] at hl h0 h1 h2
 match l,hl with
 | [c0,c1,c2],_ =>
  obtain⟨k,e0,-,-⟩:=DataW.trod_int Tryz.underlying3 h0
  obtain⟨A,c,vs,e1,r1,r2,r3,r4⟩:=ints_of h1
  obtain⟨B,e,xs,e2,s1,s2,s3,s4,s5⟩:=nodes_of_wf h2
  simp only [hC0,hC1,hC2] at e0 e1 e2
  simp at e0 e1 e2
  exact⟨⟨k,A,c,vs,B,e,xs⟩,by simp [e0,e1,e2],⟨r4,s4,r1,s1,r2,s2,r3,s3⟩,s5⟩
end
end Go.Proofs.YtodejloonfkkmaaGreat.Code
