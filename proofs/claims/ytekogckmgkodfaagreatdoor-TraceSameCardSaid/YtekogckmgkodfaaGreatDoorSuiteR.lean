/-
  Arguments that are tests: rows of rows of numbers of 64 bits.
  The reference of tests, walked: are tests few, are two lists alike, may they be.
  The reference of tests, walked: tests as bytes.
  The reference of tests, walked: the tests of bytes.
  What the functions of tests come to.
-/
import Derived.Test.YtekogckmgkodfaaGreatDoorSuiteG
import Derived.Test.YtekogckmgkodfaaGreatDoorKindsG
import Derived.Test.YtekogckmgkodfaaGreatDoorCodeG
import Derived.Deep.RegionHeld3
import Derived.Deep.DrawnRows
import Derived.Test.YtekogckmgkodfaaGreatDoorCodeRefC
import Derived.Deep.CutBlock
import Derived.Deep.CutRange
set_option maxRecDepth 100000
set_option linter.unusedVariables false
namespace Go.Proofs.YtekogckmgkodfaaGreatDoor
theorem zSuiteR0{P:Prop}(h:P:=by
  rw [List.getElem?_map] at hxi
  have h1:(List.range len)[i]? = some i:=by
   rcases Nat.lt_or_ge i len with h | h
   ·rw [List.getElem?_range h]
   ·rw [List.getElem?_eq_none (by simpa using h)] at hxi;cases hxi
  rw [h1] at hxi
  have h2:=(List.getElem?_eq_some_iff.1 h1).1
  exact⟨by simpa using h2,by simpa using hxi⟩):P:=h
end Go.Proofs.YtekogckmgkodfaaGreatDoor
namespace Go.Proofs.YtekogckmgkodfaaGreatDoor.Suite
open Go.RowKit Mem Go.ChangeShapes Go.WideShapes Go.Deep Go.Joins Arena Delta
section
variable {H:Type} {enc:TypeId×Value→H} {W:World} {spare:Nat→Bool} {held:Bool}
theorem ints64_of{n:Nat}{cs:List Value}{x:DataW H×List MemPlace}(hf:DataW.trod enc Tryz.prog W 0 spare held n 22 cs=some x) :
  ∃ (A:Option Addr) (cap:Nat) (ks:List Int),cs=[.slice A ks.length cap]∧TOk W A cap ks∧∀ k∈ks,N64 k:=by
 have hC:Tryz.prog.cellsOf 3=1:=by kernel_rfl
 rcases open_slice1 Tryz.underlying22 hC hf with⟨rfl,-⟩ | ⟨a,len,cap,m,n,V,D,Pl,rfl,-,hlc,hcm,hm,hx,hi⟩
 ·exact⟨none,0,[],rfl,⟨fun i x h=>by simp at h,by simp,fun _=>rfl⟩,fun k h=>by cases h⟩
 ·have hlm:len≤m:=by rw [hm];split<;>omega
  have each:∀ i,i<len→∃ y:Int,W.cell? (a.add i)=some (.int .i64 y)∧N64 y:=by
   intro i hil
   obtain⟨hc,ht⟩:=hi i (by omega)
   obtain⟨k,e0,-,wf⟩:=DataW.trod_int Tryz.underlying3 ht
   simp at e0
   exact⟨k,by rw [hc,e0],Code.wf_i64 wf⟩
  obtain⟨F,hF⟩:=choose_lt each
  refine⟨some a,cap,(List.range len).map F,by simp,⟨fun i x hxi=>?_,by simpa using hlc,fun e=>by cases e⟩,fun k hk=>?_⟩
  ·obtain⟨hil,rfl⟩:i<len∧F i=x:=by
    exact zSuiteR0
   have h3:=(hF i hil).1
   exact⟨a,rfl,by have:=World.block_lt_of_cell? W _ h3;rwa [add_blockN] at this,h3⟩
  ·rw [List.mem_map] at hk
   obtain⟨i,hi',rfl⟩:=hk
   exact(hF i (List.mem_range.1 hi')).2
theorem open_ints64{b0:Nat}{v:Value}{d:DataW H}{p:List MemPlace}(hv:Value.okWide Tryz.prog W .any b0 22 v)(h:DataW.Trod enc Tryz.prog W 0 spare held 22 v d p) :
  ∃ (A:Option Addr) (cap:Nat) (ks:List Int),v=.slice A ks.length cap∧ks.length≤cap∧(A=none→cap=0)∧(∀ k∈ks,N64 k)∧IRow W W.heap.size A ks:=by
 obtain⟨A,len,cap,rfl⟩:=okWide_slice Tryz.underlying22 hv
 obtain⟨fuel,hf⟩:=h
 obtain⟨A',cap',ks,hcs,h1,h2⟩:=ints64_of hf
 simp [Value.cells] at hcs
 obtain⟨rfl,rfl,rfl⟩:=hcs
 exact⟨_,_,ks,rfl,h1.cap,h1.none,h2,h1.row⟩
theorem open_tests{b0:Nat}{v:Value}{d:DataW H}{p:List MemPlace}(hv:Value.okWide Tryz.prog W .any b0 43 v)(h:DataW.Trod enc Tryz.prog W 0 spare held 43 v d p) :
  ∃ (A:Option Addr) (cap:Nat) (ts:List (List Int)),v=.slice A ts.length cap∧ts.length≤maxLen∧ts.length≤cap∧(A=none→cap=0)∧T64 ts∧TRow W A ts:=by
 obtain⟨A,len,cap,rfl⟩:=okWide_slice Tryz.underlying43 hv
 obtain⟨fuel,hf⟩:=h
 have hC:Tryz.prog.cellsOf 22=1:=by kernel_rfl
 rcases open_slice1 Tryz.underlying43 hC hf with⟨hcs,-⟩ | ⟨a,len',cap',m,n,V,D,Pl,hcs,-,hlc,hcm,hm,hx,hi⟩
 ·simp [Value.cells] at hcs
  obtain⟨rfl,rfl,rfl⟩:=hcs
  exact⟨none,0,[],rfl,by simp,by simp,fun _=>rfl,(fun t h=>by cases h),TRow.nil _ _⟩
 ·simp [Value.cells] at hcs
  obtain⟨rfl,rfl,rfl⟩:=hcs
  have hlm:len≤m:=by rw [hm];split<;>omega
  have each:∀ i,i<len→∃ y:(Option Addr×Nat)×List Int,(TOk W y.1.1 y.1.2 y.2∧∀ k∈y.2,N64 k)∧W.cell? (a.add i)=some (.slice y.1.1 y.2.length y.1.2):=by
   intro i hil
   obtain⟨hc,ht⟩:=hi i (by omega)
   obtain⟨P,c,ks,e0,h1,h2⟩:=ints64_of ht
   simp at e0
   exact⟨((P,c),ks),⟨h1,h2⟩,by rw [hc,e0]⟩
  obtain⟨F,hF⟩:∃ F:Nat→(Option Addr×Nat)×List Int,∀ i,i<len→(TOk W (F i).1.1 (F i).1.2 (F i).2∧∀ k∈(F i).2,N64 k)∧W.cell? (a.add i)=some (.slice (F i).1.1 (F i).2.length (F i).1.2):=by
   refine⟨fun i=>if h:i<len then(each i h).choose else((none,0),[]),fun i hil=>?_⟩
   simp only [dif_pos hil]
   exact(each i hil).choose_spec
  refine⟨some a,cap,(List.range len).map fun i=>(F i).2,by simp,by simp;omega,by simpa using hlc,(fun e=>by cases e),fun t ht=>?_,fun i x hxi=>?_⟩
  ·rw [List.mem_map] at ht
   obtain⟨i,hi',rfl⟩:=ht
   exact(hF i (List.mem_range.1 hi')).1.2
  ·obtain⟨hil,rfl⟩:i<len∧(F i).2=x:=by
    exact zSuiteR0
   obtain⟨⟨ok,-⟩,hce⟩:=hF i hil
   exact⟨a,(F i).1.1,(F i).1.2,rfl,by have:=World.block_lt_of_cell? W _ hce;rwa [add_blockN] at this,ok,hce⟩
end
end Go.Proofs.YtekogckmgkodfaaGreatDoor.Suite
namespace Go.Proofs.YtekogckmgkodfaaGreatDoor.Suite
open Go.RowKit Mem Arena Delta Path Cat
attribute [local go_sem ↓] Go.wp_at_zero Go.wp_at_succ
def fewT(ts:List (List Int)):Bool:=decide (ts.length≤40) && ts.all fun t=>decide (t.length≤40)
theorem fewT_len{ts:List (List Int)}(h:fewT ts=true):ts.length≤40∧∀ t∈ts,t.length≤40:=by
 unfold fewT at h
 rw [Bool.and_eq_true,List.all_eq_true] at h
 simp only [decide_eq_true_eq] at h
 exact h
end Go.Proofs.YtekogckmgkodfaaGreatDoor.Suite
namespace Go.Proofs.YtekogckmgkodfaaGreatDoor.Suite
open Go.RowKit Leb Mem Wire Zig Arena Delta Path Cat
attribute [local go_sem ↓] Go.wp_at_zero Go.wp_at_succ
def sputE(ts:List (List Int))(f:Int):List UInt8:=if serr ts f=0 then sput ts f else []
theorem add_0(a:Addr):a.add 0=a:=rfl
theorem row_snoc(ts:List (List Int))(k:Nat)(t:List Int)(h:ts[k]? = some t):rowb (ts.take (k+1))=rowb (ts.take k)++intb t:=by
 unfold rowb
 rw [take_one h];simp
theorem int_snoc(t:List Int)(k:Nat)(x:Int)(h:t[k]? = some x):intb (t.take (k+1))=intb (t.take k)++Zig.zput x:=by
 unfold intb Zig.zput
 rw [take_one h];simp
end Go.Proofs.YtekogckmgkodfaaGreatDoor.Suite
namespace Go.Proofs.YtekogckmgkodfaaGreatDoor.Suite
open Go.RowKit Leb Mem Wire Zig Arena Delta Path Cat _root_.Go.Proofs.YtekogckmgkodfaaGreatDoor.Code
attribute [local go_sem ↓] Go.wp_at_zero Go.wp_at_succ
def SEnds(S:ByteArray)(w:World)(e:Ending)(w':World):Prop :=
  Below w.heap.size w w' ∧
  ((sfits S ∧ ∃ A c, e = .returned (.tuple #[.slice A (t4 S).1.length c, .int .i64 (t1 S).2, .int .i64 0]) ∧ (t4 S).1.length ≤ c ∧ (A = none → c = 0) ∧ TRow w' A (t4 S).1) ∨
   (¬ sfits S∧∃ A c,e=.returned (.tuple #[.slice A 0 c,.int .i64 0,.int .i64 12])))
theorem rp3_range{S:ByteArray}{s:Int×Int}(h0:0≤s.1)(h:s.1≤S.size):∀ i,0≤(rp (fun s=>Code.ask S s 3) s i).2.1∧(rp (fun s=>Code.ask S s 3) s i).2.1≤S.size
 | 0=>⟨h0,h⟩
 | i+1=>by
  have ih:=rp3_range h0 h i
  exact ask_range ih.1 ih.2
theorem rrows_range{S:ByteArray}{m:Nat}{s:Int×Int}(h0:0≤s.1)(h:s.1≤S.size):∀ i,0≤(rrows (fun s=>Code.ask S s 3) m s i).2.1∧(rrows (fun s=>Code.ask S s 3) m s i).2.1≤S.size
 | 0=>⟨h0,h⟩
 | i+1=>by
  have ih:=rrows_range (m:=m) h0 h i
  exact rp3_range ih.1 ih.2 m
theorem own_setC{w:World}{base:Nat}{e:TypeId}{size:Nat}{v:Value}{n:Nat}{xs:List Value}(h:w.ownsRow base e size v n xs)(a:Addr)(x:Value)(ha:a.block<base):(w.setCell a x).ownsRow base e size v n xs :=
 own_of_block h (fun i hi=>Below.heap_setCell _ _ _ _ (fun z=>by have:=(h.lt i hi).1;omega))
section
variable {w W W':World} {R:Nat} {S:ByteArray} {st:Int×Int}
end
end Go.Proofs.YtekogckmgkodfaaGreatDoor.Suite
namespace Go.Proofs.YtekogckmgkodfaaGreatDoor.Suite
open Go.RowKit Leb Mem Wire Zig Arena Delta Path Cat _root_.Go.Proofs.YtekogckmgkodfaaGreatDoor.Code
structure TArg (w:World) (A:Option Addr) (c:Nat) (ts:List (List Int)):Prop where
 row:TRow w A ts
 cap:ts.length≤c
 none:A=none→c=0
 n:ts.length≤1000000
 m:∀ t∈ts,t.length≤1000000
theorem TArg.at{w w':World}{A:Option Addr}{c:Nat}{ts:List (List Int)}(h:TArg w A c ts)(hb:Below w.heap.size w w'):TArg w' A c ts:=⟨h.row.at hb,h.cap,h.none,h.n,h.m⟩
theorem targ_nil(w:World):TArg w none 0 []:=⟨TRow.nil _ _,Nat.le_refl _,fun _=>rfl,by simp,fun t h=>by cases h⟩
theorem t4_len(S:ByteArray):(t4 S).1.length≤21:=by unfold t4;rw [rrows_len];omega
theorem t4_wid(S:ByteArray):∀ t∈(t4 S).1,t.length≤13:=fun t h=>by
 have:=rrows_wid _ _ _ _ t h
 omega
noncomputable def gts(S:ByteArray):List (List Int):=open Classical in if sfits S then(t4 S).1 else []
noncomputable def gf(S:ByteArray):Int:=open Classical in if sfits S then(t1 S).2 else 0
noncomputable def ge(S:ByteArray):Int:=open Classical in if sfits S then 0 else 12
theorem SEnds.one{S:ByteArray}{w w':World}{e:Ending}(h:SEnds S w e w'):Below w.heap.size w w'∧∃ A c,e=.returned (.tuple #[.slice A (gts S).length c,.int .i64 (gf S),.int .i64 (ge S)])∧TRow w' A (gts S):=by
 obtain⟨hb,⟨hf,A,c,h1,h2,h3,h4⟩ | ⟨hf,A,c,h1⟩⟩:=h
 ·refine⟨hb,A,c,?_,?_⟩
  ·unfold gts gf ge;rw [if_pos hf,if_pos hf,if_pos hf];exact h1
  ·unfold gts;rw [if_pos hf];exact h4
 ·refine⟨hb,A,c,?_,?_⟩
  ·unfold gts gf ge;rw [if_neg hf,if_neg hf,if_neg hf];exact h1
  ·unfold gts;rw [if_neg hf];exact TRow.nil _ _
theorem gts_len(S:ByteArray):(gts S).length≤21:=by
 unfold gts
 split
 ·exact t4_len S
 ·simp
theorem gts_wid(S:ByteArray):∀ t∈(gts S),t.length≤13:=by
 unfold gts
 split
 ·exact t4_wid S
 ·intro t h;cases h
theorem SEnds.yes{S:ByteArray}{w w':World}{e:Ending}(h:SEnds S w e w')(hf:sfits S):Below w.heap.size w w'∧∃ A c,e=.returned (.tuple #[.slice A (t4 S).1.length c,.int .i64 (t1 S).2,.int .i64 0])∧TArg w' A c (t4 S).1:=by
 obtain⟨hb,⟨-,A,c,h1,h2,h3,h4⟩ | ⟨hn,-⟩⟩:=h
 ·exact⟨hb,A,c,h1,h4,h2,h3,by have:=t4_len S;omega,fun t ht=>by have:=t4_wid S t ht;omega⟩
 ·exact absurd hf hn
theorem SEnds.no{S:ByteArray}{w w':World}{e:Ending}(h:SEnds S w e w')(hf:¬ sfits S):Below w.heap.size w w'∧∃ A c,e=.returned (.tuple #[.slice A 0 c,.int .i64 0,.int .i64 12]):=by
 obtain⟨hb,⟨hy,-⟩ | ⟨-,h⟩⟩:=h
 ·exact absurd hy hf
 ·exact⟨hb,h⟩
theorem targ_of{w:World}{A:Option Addr}{c:Nat}{ts:List (List Int)}(h:TRow w A ts)(hc:ts.length≤c)(hA:A=none→c=0)(hf:fewT ts=true):TArg w A c ts:=by
 obtain⟨h1,h2⟩:=fewT_len hf
 exact⟨h,hc,hA,by omega,fun t ht=>by have:=h2 t ht;omega⟩
end Go.Proofs.YtekogckmgkodfaaGreatDoor.Suite
