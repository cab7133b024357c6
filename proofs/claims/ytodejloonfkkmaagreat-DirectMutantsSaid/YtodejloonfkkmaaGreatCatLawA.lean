/-
  The laws of layer 13, walked on what the package's functions come to: what the document says, told.
-/
import Derived.Test.YtodejloonfkkmaaGreatCatWorks
import Derived.Test.YtodejloonfkkmaaGreatDeltaR
import Derived.Deep.RegionHeld3
import Derived.Deep.DrawnRows
set_option linter.unusedVariables false
namespace Go.Proofs.YtodejloonfkkmaaGreat.Cat
open Go.RowKit Mem Arena Delta Path
attribute [local go_sem ↓] Go.wp_at_zero Go.wp_at_succ
theorem cell_keep{w w':World}{B:Nat}{a:Addr}{v:Value}(hb:Below B w w')(ha:a.block<B)(h:w.cell? a=some v):w'.cell? a=some v:=by
 have hk:=hb.block a.block ha
 rw [← h];unfold World.cell?;rw [hk]
def Cel(w:World)(ad:Addr)(j:Nat)(P:Option Addr)(c:Nat)(op n:Int):Prop :=
 w.cell? (ad.add (j*3))=some (.slice P 0 c)∧w.cell? ⟨(ad.add (j*3)).block,(ad.add (j*3)).off+1,none⟩=some (.int .i64 op)∧w.cell? ⟨(ad.add (j*3)).block,(ad.add (j*3)).off+2,none⟩=some (.int .i64 n)
theorem Cel.keep{w w':World}{ad:Addr}{j:Nat}{P:Option Addr}{c:Nat}{op n:Int}(h:Cel w ad j P c op n)(ha:ad.block<w.heap.size)(hb:Below w.heap.size w w'):Cel w' ad j P c op n:=by
 obtain⟨h1,h2,h3⟩:=h
 exact⟨cell_keep hb (by rw [add_blockN];exact ha) h1,cell_keep hb (by show(ad.add (j*3)).block<_;rw [add_blockN];exact ha) h2,cell_keep hb (by show(ad.add (j*3)).block<_;rw [add_blockN];exact ha) h3⟩
theorem DRow.get{w:World}{A:Option Addr}{l:List (Int×Int)}(h:DRow w w.heap.size A l){i:Nat}{b:Int×Int}(hi:l[i]? = some b):∃ ad P c,A=some ad∧ad.block<w.heap.size∧Dlt.Ok ⟨P,c,[],b.1,b.2⟩ w ∧
  Cel w ad i P c b.1 b.2:=by
 obtain⟨ad,P,c,e,h1,h2,h3,h4,h5⟩:=h i b hi
 exact⟨ad,P,c,e,h1,⟨fun i x h=>by simp at h,by simp,by simp,h2⟩,h3,h4,h5⟩
end Go.Proofs.YtodejloonfkkmaaGreat.Cat
