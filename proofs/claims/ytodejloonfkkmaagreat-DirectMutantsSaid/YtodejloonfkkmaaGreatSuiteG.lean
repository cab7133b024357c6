/-
  Plain facts on tests as bytes: which may be, which may be put; what is put is read back, whatever stands behind it; tests have one form. No program is met here.
  Tests, in memory: a row of rows of numbers; and as a row that a call owns.
-/
import Derived.Test.YtodejloonfkkmaaGreatDeltaG
import Derived.Test.YtodejloonfkkmaaGreatArenaH
import Derived.Test.YtodejloonfkkmaaGreatCatG
set_option linter.unusedVariables false
namespace Go.Proofs.YtodejloonfkkmaaGreat.Suite
open Go.RowKit Leb Mem Wire Zig Arena Kinds _root_.Go.Proofs.YtodejloonfkkmaaGreat.Code Delta
def rrows(g:Int×Int→(Int×Int)×Int)(m:Nat)(s:Int×Int):Nat→List (List Int)×(Int×Int)
 | 0=>([],s)
 | i+1=>((rrows g m s i).1++[(rp g (rrows g m s i).2 m).1],(rp g (rrows g m s i).2 m).2)
def t1(S:ByteArray):(Int×Int)×Int:=Code.ask S (0,0) 2
def t2(S:ByteArray):(Int×Int)×Int:=Code.ask S (t1 S).1 2
def t3(S:ByteArray):(Int×Int)×Int:=Code.ask S (t2 S).1 2
def t4(S:ByteArray):List (List Int)×(Int×Int):=rrows (fun s=>Code.ask S s 3) (min (t3 S).2.toNat 13) (t3 S).1 (min (t2 S).2.toNat 21)
end Go.Proofs.YtodejloonfkkmaaGreat.Suite
namespace Go.Proofs.YtodejloonfkkmaaGreat.Suite
open Go.RowKit Mem Arena Delta Path Cat
structure TOk (w:World) (P:Option Addr) (c:Nat) (t:List Int):Prop where
 row:IRow w w.heap.size P t
 cap:t.length≤c
 none:P=none→c=0
theorem TOk.at{w w':World}{P:Option Addr}{c:Nat}{t:List Int}(h:TOk w P c t)(hb:Below w.heap.size w w'):TOk w' P c t:=⟨h.row.at hb,h.cap,h.none⟩
def TRow(w:World)(A:Option Addr)(ts:List (List Int)):Prop :=
 ∀ (i:Nat) (t:List Int),ts[i]? = some t→∃ ad P c,A=some ad∧ad.block<w.heap.size∧TOk w P c t∧w.cell? (ad.add i)=some (.slice P t.length c)
theorem TRow.nil(w:World)(A:Option Addr):TRow w A []:=fun i t h=>by simp at h
theorem TRow.at{w w':World}{A:Option Addr}{ts:List (List Int)}(h:TRow w A ts)(hb:Below w.heap.size w w'):TRow w' A ts:=by
 intro i t hi
 obtain⟨ad,P,c,e,h1,h2,h3⟩:=h i t hi
 refine⟨ad,P,c,e,Nat.lt_of_lt_of_le h1 hb.size,h2.at hb,?_⟩
 rw [← h3]
 exact World.cell?_of_block (by rw [add_blockN];exact hb.block _ h1)
theorem TRow.get{w:World}{A:Option Addr}{ts:List (List Int)}(h:TRow w A ts){i:Nat}{t:List Int}(hi:ts[i]? = some t) :
  ∃ ad P c,A=some ad∧∀ W,Below w.heap.size w W→TOk W P c t∧W.cell? (ad.add i)=some (.slice P t.length c):=by
 obtain⟨ad,P,c,e,h1,h2,h3⟩:=h i t hi
 refine⟨ad,P,c,e,fun W hb=>⟨h2.at hb,?_⟩⟩
 rw [← h3]
 exact World.cell?_of_block (by rw [add_blockN];exact hb.block _ h1)
def tcells(Y:List ((Option Addr×Nat)×List Int)):List Value:=Y.map fun y=>.slice y.1.1 y.2.length y.1.2
theorem tcells_len(Y:List ((Option Addr×Nat)×List Int)):(tcells Y).length=Y.length:=List.length_map ..
def TOwn(w:World)(base:Nat)(v:Value)(ts:List (List Int)):Prop :=
 ∃ Y:List ((Option Addr×Nat)×List Int),Y.map (·.2)=ts∧w.ownsRow base 22 1 v ts.length (tcells Y)∧∀ y∈Y,TOk w y.1.1 y.1.2 y.2∧(y.2≠[]→∀ ad,y.1.1=some ad→base≤ad.block∧v.ownBlock≠some ad.block)
theorem TOwn.nil(w:World)(base:Nat):TOwn w base (.slice none 0 0) []:=⟨[],rfl,World.ownsRow_nil _ _ _ _,fun y h=>by cases h⟩
theorem TOwn.lt{w:World}{base:Nat}{v:Value}{ts:List (List Int)}(h:TOwn w base v ts):∀ k,v.ownBlock=some k→base≤k∧k<w.heap.size:=by
 obtain⟨Y,-,h2,-⟩:=h
 exact fun k e=>h2.lt k e
theorem TOwn.below{w w':World}{base:Nat}{v:Value}{ts:List (List Int)}(h:TOwn w base v ts)(hb:Below w.heap.size w w'):TOwn w' base v ts:=by
 obtain⟨Y,h1,h2,h3⟩:=h
 exact⟨Y,h1,own_kept h2 hb,fun y hy=>⟨(h3 y hy).1.at hb,(h3 y hy).2⟩⟩
theorem TOwn.kept{S:Nat→Prop}{w w':World}{base:Nat}{v:Value}{ts:List (List Int)}(h:TOwn w base v ts)(k:Kept S w w')(hS:∀ i,i<w.heap.size→base≤i→¬ S i):TOwn w' base v ts:=by
 obtain⟨Y,h1,h2,h3⟩:=h
 refine⟨Y,h1,own_of_block h2 (fun i hi=>k.block i (h2.lt i hi).2 (hS i (h2.lt i hi).2 (h2.lt i hi).1)),fun y hy=>⟨?_,(h3 y hy).2⟩⟩
 obtain⟨k1,k2⟩:=h3 y hy
 refine⟨fun i x hx=>?_,k1.cap,k1.none⟩
 obtain⟨ad,e,hb,hc⟩:=k1.row i x hx
 have hne:y.2≠[]:=fun e=>by rw [e] at hx;simp at hx
 refine⟨ad,e,Nat.lt_of_lt_of_le hb k.size,?_⟩
 rw [← hc]
 exact World.cell?_of_block (by rw [add_blockN];exact k.block _ hb (hS _ hb (k2 hne ad e).1))
end Go.Proofs.YtodejloonfkkmaaGreat.Suite
