/-
  The laws of layer 14, walked: each mutant is another program, and typed, unless it is too deep. (Written by tools/gen_sitestyped.py.)
-/
import Derived.Test.YtodejloonfkkmaaGreatSitesLawB
import Derived.Test.YtodejloonfkkmaaGreatSitesG
import Derived.Test.YtodejloonfkkmaaGreatKindsP
import Derived.Deep.RegionHeld3
import Derived.Deep.DrawnRows
import Derived.Deep.CutBlock
set_option linter.unusedVariables false
namespace Go.Proofs.YtodejloonfkkmaaGreat.Sites
open Go.RowKit Mem Arena Delta Path Cat Kinds
attribute [local go_sem ↓] Go.wp_at_zero Go.wp_at_succ
theorem merr_in{ps:Int}{vs:List Int}{l:List Nd}(hc:pcheck ps vs l=0){q:List Int}{op n:Int}(h:(q,op,n)∈msites l):merr ps vs l q op n=0:=by
 obtain⟨h0,h1⟩:=(sites_mem (pcheck_whole hc).1).1 h
 unfold merr
 rw [if_neg (fun z=>z hc),if_pos (by unfold mlet;rw [decide_eq_true h0,h1];rfl)]
theorem typed_in{ps:Int}{vs:List Int}{l:List Nd}(hc:pcheck ps vs l=0)(hl:l.length≤199){q:List Int}{op n:Int}(h:(q,op,n)∈msites l) :
  okind vs (anew l q op n) 0=2∧(pcheck ps vs (anew l q op n)=0∨pcheck ps vs (anew l q op n)=13)∧anew l q op n≠l∧(anew l q op n).length≤l.length+1:=by
 obtain⟨a,m,h1,hs,-,-,ha,hn,hm,hd⟩:=sites_apply (pcheck_whole hc).1 h
 obtain⟨t1,-,t2⟩:=dch_typed hc hl (nodeAt_some hs) hm
 have hln:=anew_len ha
 rw [hn] at hln ⊢
 exact⟨t1,t2.imp_right (fun z=>z.1),hd,hln⟩
theorem vars_lt{p:Prg}{W:World}(h:p.Ok W)(hv:p.vs≠[])(ad:Addr)(e:p.A=some ad):ad.block<W.heap.size:=by
 obtain⟨x,r,hx⟩:=ne_cons hv
 obtain⟨ad',e',hb,-⟩:=h.vars 0 x (by rw [hx];rfl)
 rw [e] at e'
 cases e'
 exact hb
end Go.Proofs.YtodejloonfkkmaaGreat.Sites
