/-
  A mutant of a checked program may be run just when the program may (plain).
-/
import Derived.Test.YtodejloonfkkmaaGreatMachG
import Derived.Test.YtodejloonfkkmaaGreatSitesLawE
set_option linter.unusedVariables false
namespace Go.Proofs.YtodejloonfkkmaaGreat.Dir
open Arena Delta Path Cat Kinds Sites Mach
theorem mcheck_of{ps:Int}{vs:List Int}{xs:List Nd}(h1:avars ps vs=0)(h2:scan 1 xs=some xs.length)(h3:otag xs 0=20)(h4:okind vs xs 0=2)(al:Nat)(f:Int):mcheck ps vs xs al f=if(al:Int)≠ps then 18 else if f<0∨10000<f then 19 else 0:=by
 unfold mcheck
 rw [whole_iff.2 h2,h1,h3,h4,if_neg (by simp),if_neg (by simp)]
theorem acheck_13{xs:List Nd}(h:acheck xs=13):scan 1 xs=some xs.length:=by
 unfold acheck at h
 by_cases h1:xs.length=0
 ·rw [if_pos h1] at h;cases h
 by_cases h2:200<xs.length
 ·rw [if_neg h1,if_pos h2] at h;cases h
 by_cases h3:bads xs=true
 ·rw [if_neg h1,if_neg h2,if_pos h3] at h;cases h
 by_cases h4:aend xs 0≠xs.length
 ·rw [if_neg h1,if_neg h2,if_neg h3,if_pos h4] at h;cases h
 ·exact whole_iff.1 (Decidable.not_not.1 h4)
theorem mutant_check{ps:Int}{vs:List Int}{l:List Nd}(hc:pcheck ps vs l=0)(hl:l.length≤199){q:List Int}{op n:Int}(h:(q,op,n)∈msites l)(al:Nat)(f:Int):mcheck ps vs (anew l q op n) al f=mcheck ps vs l al f:=by
 obtain⟨a,m,h1,hs,-,-,ha,hn,hm,hd⟩:=sites_apply (pcheck_whole hc).1 h
 obtain⟨t1,-,t2⟩:=dch_typed hc hl (nodeAt_some hs) hm
 obtain⟨c1,c2,c3,c4⟩:=pcheck_zero hc
 rw [hn]
 have hx:=nodeAt_some hs
 have ht:otag (dch l a op n) 0=20:=by
  obtain⟨p,t,y,e,e1,e2,e3,e4,e5⟩:=dch_swap hs hx hm
  have h0:a≠0:=fun z=>by
   subst z
   have:(nodeAt l 0).1=20:=by
    unfold otag at c3
    rw [show(0:Int).toNat=0 from rfl,List.getD_eq_getElem?_getD,hx] at c3
    exact c3
   have hm:dmay (nodeAt l 0).1 op n=true:=hm
   rw [this] at hm
   unfold dmay at hm
   repeat' split at hm
   all_goals (first | (simp at hm;done) | (simp at hm;omega))
  unfold otag at c3 ⊢
  rw [show(0:Int).toNat=0 from rfl,List.getD_eq_getElem?_getD] at c3 ⊢
  rw [e,swap_lo (by omega) (by omega)]
  exact c3
 have hw:scan 1 (dch l a op n)=some (dch l a op n).length:=by
  rcases t2 with z | ⟨z,-⟩
  ·exact(acheck_zero (pcheck_zero z).1).2
  ·refine acheck_13 ?_
   unfold pcheck at z
   by_cases h9:acheck (dch l a op n)≠0
   ·rw [if_pos h9] at z;exact z
   ·rw [if_neg h9,if_neg (by rw [c2];simp),if_neg (by rw [ht,t1];simp)] at z
    cases z
 rw [mcheck_of c2 hw ht t1,mcheck_of c2 (acheck_zero c1).2 c3 c4]
end Go.Proofs.YtodejloonfkkmaaGreat.Dir
