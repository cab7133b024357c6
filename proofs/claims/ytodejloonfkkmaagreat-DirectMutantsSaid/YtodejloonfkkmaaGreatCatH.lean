/-
  The laws of layer 13, walked: just the choices, each once, in order.
  The laws of layer 13, walked: what may be put in at a node hangs on it, and on what is below it, alone.
  Each choice, put in at the part's first node. No program is met here.
  A changed program in a box of its own: its nodes lie elsewhere.
  How many nodes there may be in a slice that came in.
-/
import Derived.Test.YtodejloonfkkmaaGreatCatLawA
import Derived.Deep.QuietTactic
import Derived.BigQuiet
import Derived.Test.YtodejloonfkkmaaGreatArenaH
set_option linter.unusedVariables false
set_option maxRecDepth 100000
namespace Go.Proofs.YtodejloonfkkmaaGreat.Cat
open Go.RowKit Mem Arena Delta Path
attribute [local go_sem ↓] Go.wp_at_zero Go.wp_at_succ
end Go.Proofs.YtodejloonfkkmaaGreat.Cat
namespace Go.Proofs.YtodejloonfkkmaaGreat.Cat
open Go.RowKit Mem Arena Delta Path
theorem ne_blk{b i:Nat}{X:Addr}(h:X.block≠b):(⟨b,i,none⟩:Addr)≠X:=fun e=>h (by rw [← e])
theorem far_nodes{w:World}{B:Nat}{R:Option Addr}{l:List Nd}{g:Nat}{T:TypeId}{u:Int}{a1 a2:Option Addr}{n1 c1 n2 c2:Nat}(h:Nodes w B R l)(hz:Blk w g T #[.int .i64 u,.slice a1 n1 c1,.slice a2 n2 c2])(i:Nat)(v:Value) :
  Nodes (w.setCell ⟨g,i,none⟩ v) B R l:=by
 intro j x hx
 obtain⟨ad,e,hlt,q0,q1⟩:=h j x hx
 have hb:=add_blockN ad (j*2)
 have hne:ad.block≠g:=by
  intro hg
  rw [hb,hg,hz.cell] at q1
  match ho:(ad.add (j*2)).off,q1 with
  | 0,q1=>simp at q1
  | 1,q1=>simp at q1
  | o+2,q1=>simp at q1
 refine⟨ad,e,hlt,(World.cell?_of_block ?_).trans q0,(World.cell?_of_block ?_).trans q1⟩
 ·rw [hb];exact Below.heap_setCell _ _ _ _ hne
 ·show(w.setCell ⟨g,i,none⟩ v).heap[(ad.add (j*2)).block]? = w.heap[(ad.add (j*2)).block]?
  rw [hb];exact Below.heap_setCell _ _ _ _ hne
end Go.Proofs.YtodejloonfkkmaaGreat.Cat
namespace Go.Proofs.YtodejloonfkkmaaGreat.Cat
open Go.RowKit Mem Go.ChangeShapes Go.WideShapes Go.Deep Go.Joins
section
variable {H:Type} {enc:TypeId×Value→H} {W:World} {spare:Nat→Bool} {held:Bool}
end
end Go.Proofs.YtodejloonfkkmaaGreat.Cat
