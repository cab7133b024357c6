/-
  Package kinds, walked: its small functions.
  Package kinds, walked: the ways that nodes are made, in a map by their tags.
  Package kinds, walked: whether kids fit a way, a way at a time.
  Package kinds, walked: the kind of a node of a way.
  Package kinds: a node's kind by its way is its kind by the rule.
  Package kinds: rows of parts, the first one last: plain facts, and rows in memory.
  Package kinds, walked: a node's kind.
  Package kinds, walked: variables, two programs, a program: what its functions come to.
  Package kinds, walked: two programs, a program: what its functions come to.
-/
import Derived.Test.YtekogckmgkodfaaGreatDoorKindsG
import Derived.Test.YtekogckmgkodfaaGreatDoorArenaH
import Derived.Maps.OwnOps
import Derived.Deep.QuietTactic
import Derived.Deep.RegionHeld3
import Derived.Deep.DrawnRows
set_option maxRecDepth 100000
set_option maxHeartbeats 8000000
set_option linter.unusedVariables false
set_option linter.unusedSimpArgs false
namespace Go.Proofs.YtekogckmgkodfaaGreatDoor
theorem zKindsP0{P:Prop}(h:P:=by
  obtain⟨a,b,rfl⟩:=len2 hl
  obtain⟨a1,a2⟩:=a
  obtain⟨b1,b2⟩:=b
  simp [rule,cls,Way.fits,Way.gives,ifso,sw,isblk,blks]<;>exact if_same (by omega) _ _):P:=h
theorem zKindsP1{P:Prop}(h:P:=by
  all_goals have hB6:Below wz.heap.size wz w6:=((hB5.drew).alloc hB5.size _).grown hgrow (by have:=hB5.size;simp;omega) (fun k e=>(hO5.lt k e).1)
  all_goals have hown5:=HF.out _ _ hown4
  all_goals clear hgrow hat hown4
  all_goals go_wp2_with fail
  all_goals go_roundw
  all_goals first
   | exact⟨t,by omega,by go_num,hown5,hB6⟩
   | (simp [intOf];omega)):P:=h
theorem zKindsP2{P:Prop}(h:P:=by
  have hk9:k=xs.length:=by omega
  subst hk9
  rw [List.take_length] at hb0
  have HB0:=Lib.hid hb0
  have j1:¬ (xs.length:Int)<(xs.length:Int):=by omega
  clear hb0
  go_wp2
  go_ret
  exact⟨⟨_,rfl,by rw [HB0.out];rfl⟩,hB⟩):P:=h
theorem zKindsP3{P:Prop}(h:P:=by
  simp [rule,cls,Way.fits,Way.gives,ifso,sw,isblk,blks]<;>exact if_same (by omega) _ _):P:=h
theorem zKindsP4{P:Prop}(h:P:=by
  go_enter Tryz.func86,Tryz.ntmps86
  go_wp2_with (go_at_call 103;refine HF.out.mono ?_;rintro e w1 ⟨rfl,hb1⟩)
  go_ret
  exact⟨rfl,hb1⟩):P:=h
theorem zKindsP5{P:Prop}(h:P:=by
  go_enter Tryz.func46,Tryz.ntmps46
  go_wp2_with (go_at_call 81;first
   | ((with_reducible refine HO.out.mono ?_);rintro e1 w1 ⟨rfl,hb1⟩;obtain⟨b0,b1,b2⟩:=HBX.out _ hb1)
   | ((with_reducible refine(HN.out _ (HX.out.at hb1)).mono ?_);rintro e2 w2 ⟨rfl,hb2⟩;have hb3:=hb1.trans (hb2.mono hb1.size);obtain⟨b0,b1,b2⟩:=HBX.out _ hb3))
  go_ret
  exact⟨by rw [HF.out];rfl,hB0.trans (hb3.mono hB0.size)⟩):P:=h
theorem zKindsP6{P:Prop}(h:P:=by
  rcases (show t=1∨t=2∨t=3∨t=4∨t=5∨t=6∨t=7∨t=8∨t=9∨t=10∨t=11∨t=12∨t=13∨t=14∨t=15∨t=16∨t=17∨t=18∨t=19∨t=20∨t=21∨t=22∨t=23∨t=24∨t=25∨t=26 by omega) with rfl | rfl | rfl | rfl | rfl | rfl | rfl | rfl | rfl | rfl | rfl | rfl | rfl | rfl | rfl | rfl | rfl | rfl | rfl | rfl | rfl | rfl | rfl | rfl | rfl | rfl
  all_goals kernel_rfl):P:=h
theorem zKindsP7{P:Prop}(h:P:=by
  go_roundw
  case rel=>exact⟨k+1,by omega,by go_num,HSN.out,hB.trans (hb2.mono hB.size)⟩
  case measure=>simp [intOf];omega):P:=h
theorem zKindsP8{P:Prop}(h:P:=by
  obtain⟨a,rfl⟩:=len1 hl
  obtain⟨a1,a2⟩:=a
  exact zKindsP3):P:=h
theorem zKindsP9{P:Prop}(h:P:=by
  go_ret
  exact⟨⟨_,rfl,by rw [HT.out];simp⟩,hB.trans (hb2.mono hB.size)⟩):P:=h
theorem zKindsP10{P:Prop}(h:P:=by
  clear hx
  go_enter Tryz.func109,Tryz.ntmps109
  go_wp2_with (go_at_call 113;refine HI.out.mono ?_;rintro e w1 ⟨⟨r,rfl,hr⟩,hb1⟩)
  go_ret
  exact⟨by rw [← hr];rfl,hb1⟩):P:=h
theorem zKindsP11{P:Prop}(h:P:=by
  go_enter Tryz.func46,Tryz.ntmps46
  go_wp2
  go_ret
  exact⟨by rw [HF.out];rfl,hB0⟩):P:=h
theorem zKindsP12{P:Prop}(h:P:=by
  clear hx
  go_enter Tryz.func81,Tryz.ntmps81
  go_wp2_with (go_at_call 100;refine HI.out.mono ?_;rintro e w1 ⟨⟨r,rfl,hr⟩,hb1⟩)
  go_ret
  exact⟨by rw [← hr];rfl,hb1⟩):P:=h
theorem zKindsP13{P:Prop}(h:P:=by
  go_ret
  exact⟨by rw [hE.out];rfl,hB0.trans (hb1.mono hB0.size)⟩):P:=h
end Go.Proofs.YtekogckmgkodfaaGreatDoor
namespace Go.Proofs.YtekogckmgkodfaaGreatDoor.Kinds
open Go.RowKit Mem Arena
theorem Size_any(t:Int)(w:World):Calls Tryz.prog 28 #[.int .i64 t] w fun e w'=>e=.returned (.int .i64 (asz t))∧w'=w:=by
 by_cases h1:t<2
 ·have hE:=Lib.hid (show asz t=0 by unfold asz;rw [if_pos (.inl h1)])
  go_enter Tryz.func28,Tryz.ntmps28
  go_wp2
  go_ret
  exact⟨by rw [hE.out];rfl,rfl⟩
 by_cases h2:9<t
 ·have hE:=Lib.hid (show asz t=0 by unfold asz;rw [if_pos (.inr h2)])
  go_enter Tryz.func28,Tryz.ntmps28
  go_wp2
  go_ret
  exact⟨by rw [hE.out];rfl,rfl⟩
 have hE:=Lib.hid (show asz t=t-1 by unfold asz;rw [if_neg (by omega)])
 have v1:IntKind.i64.wrap (t-1)=t-1:=IntWalk.i64_in _ (by omega)
 go_enter Tryz.func28,Tryz.ntmps28
 go_wp2
 go_ret
 exact⟨by rw [hE.out];rfl,rfl⟩
theorem typeOf_any(A:Option Addr)(c:Nat)(vs:List Int)(v:Int)(w:World)(hx:IRow w w.heap.size A vs)(hl:vs.length≤1000000) :
  Calls Tryz.prog 87 #[.slice A vs.length c,.int .i64 v] w fun e w'=>e=.returned (.int .i64 (vtyp vs v))∧w'=w:=by
 have HX:=Lib.hid hx
 clear hx
 by_cases h1:v<0
 ·have hE:=Lib.hid (show vtyp vs v = -1 by unfold vtyp;rw [if_pos h1])
  go_enter Tryz.func87,Tryz.ntmps87
  go_wp2
  go_ret
  exact⟨by rw [hE.out];rfl,rfl⟩
 obtain⟨k,rfl⟩:=Int.eq_ofNat_of_zero_le (show 0≤v by omega)
 by_cases h2:vs.length≤k
 ·have hE:=Lib.hid (show vtyp vs k = -1 by unfold vtyp;rw [if_neg h1,Int.toNat_natCast,List.getD_eq_getElem?_getD,List.getElem?_eq_none h2];rfl)
  have i1:(vs.length:Int)≤(k:Int):=by omega
  go_enter Tryz.func87,Tryz.ntmps87
  go_wp2
  go_ret
  exact⟨by rw [hE.out];rfl,rfl⟩
 obtain⟨x,hx⟩:∃ x,vs[k]? = some x:=⟨_,List.getElem?_eq_getElem (by omega)⟩
 have hE:=Lib.hid (show vtyp vs k=x by unfold vtyp;rw [if_neg h1,Int.toNat_natCast,List.getD_eq_getElem?_getD,hx];rfl)
 obtain⟨ad,rfl,hb,g0⟩:=HX.out k x hx
 have i1:(k:Int)<(vs.length:Int):=by omega
 have i2:(0:Int)≤(k:Int):=by omega
 clear hx
 go_enter Tryz.func87,Tryz.ntmps87
 go_wp2
 go_ret
 exact⟨by rw [hE.out];rfl,rfl⟩
def odd(t:Int):Bool:=decide (t<0∨9<t)
theorem odd_any(t:Int)(w:World):Calls Tryz.prog 82 #[.int .i64 t] w fun e w'=>e=.returned (.bool (odd t))∧w'=w:=by
 by_cases h1:t<0
 ·have hE:=Lib.hid (show odd t=true by unfold odd;rw [decide_eq_true_eq];omega)
  go_enter Tryz.func82,Tryz.ntmps82
  go_wp2
  go_ret
  exact⟨by rw [hE.out];rfl,rfl⟩
 ·have hE:=Lib.hid (show odd t=decide (9<t) by unfold odd;rw [decide_eq_decide];omega)
  go_enter Tryz.func82,Tryz.ntmps82
  go_wp2
  go_ret
  exact⟨by rw [hE.out];simp,rfl⟩
def nonum(t:Int):Bool:=t != 0
theorem nonum_any(t:Int)(w:World):Calls Tryz.prog 83 #[.int .i64 t] w fun e w'=>e=.returned (.bool (nonum t))∧w'=w:=by
 have hE:=Lib.hid (show nonum t=(t != 0) from rfl)
 go_enter Tryz.func83,Tryz.ntmps83
 go_wp2
 go_ret
 exact⟨by rw [hE.out];rfl,rfl⟩
theorem single_any(t:Int)(w:World):Calls Tryz.prog 107 #[.int .i64 t] w fun e w'=>e=.returned (.bool (decide (t=0∨t=1)))∧w'=w:=by
 obtain⟨b,hb⟩:∃ b,decide (t=0∨t=1)=b:=⟨_,rfl⟩
 rw [hb]
 by_cases h1:t=0
 ·have hE:=Lib.hid (show b=true by rw [← hb,decide_eq_true_eq];omega)
  subst h1
  clear hb
  go_enter Tryz.func107,Tryz.ntmps107
  go_wp2
  go_ret
  exact⟨by rw [hE.out];rfl,rfl⟩
 ·have hE:=Lib.hid (show b=(t==1) by rw [← hb,Bool.eq_iff_iff,decide_eq_true_eq,beq_iff_eq];omega)
  have e1:(t==0)=false:=by simpa using h1
  clear hb
  go_enter Tryz.func107,Tryz.ntmps107
  go_wp2
  go_ret
  exact⟨by rw [hE.out];rfl,rfl⟩
def isblk(x:Nd):Bool:=decide (x.1=20∧x.2=2)
theorem isBlock_any(x:Nd)(w:World):Calls Tryz.prog 112 #[.agg #[.int .i64 x.1,.int .i64 x.2]] w fun e w'=>e=.returned (.bool (isblk x))∧Below w.heap.size w w':=by
 obtain⟨t,k⟩:=x
 simp only
 have hB0:Below w.heap.size w (w.alloc (.cells #[.int .i64 t,.int .i64 k] 162)):=(Below.refl _ _).alloc (Nat.le_refl _) _
 obtain⟨b0,b1⟩:=(Blk.new w 162 #[.int .i64 t,.int .i64 k]).two
 obtain⟨b,hb⟩:∃ b,isblk (t,k)=b:=⟨_,rfl⟩
 rw [hb]
 by_cases h1:t=20
 ·have hE:=Lib.hid (show b=(k==2) by rw [← hb];unfold isblk;rw [Bool.eq_iff_iff,decide_eq_true_eq,beq_iff_eq];omega)
  subst h1
  clear hb
  go_enter Tryz.func112,Tryz.ntmps112
  go_wp2
  go_ret
  exact⟨by rw [hE.out];rfl,hB0⟩
 ·have hE:=Lib.hid (show b=false by rw [← hb];unfold isblk;rw [decide_eq_false_iff_not];omega)
  have e1:(t==20)=false:=by simpa using h1
  clear hb
  go_enter Tryz.func112,Tryz.ntmps112
  go_wp2
  go_ret
  exact⟨by rw [hE.out];rfl,hB0⟩
def other(q:Int)(x:Nd):Bool:=x.2 != q
theorem all1_any(x:Nd)(q:Int)(g:Addr)(w:World)(hg:g.block<w.heap.size)(hc:w.cell? g=some (.int .i64 q)):Calls Tryz.prog 110 #[.agg #[.int .i64 x.1,.int .i64 x.2],.pointer (some g)] w fun e w'=>e=.returned (.bool (other q x))∧Below w.heap.size w w':=by
 obtain⟨t,k⟩:=x
 simp only
 have hB0:Below w.heap.size w (w.alloc (.cells #[.int .i64 t,.int .i64 k] 162)):=(Below.refl _ _).alloc (Nat.le_refl _) _
 obtain⟨b0,b1⟩:=(Blk.new w 162 #[.int .i64 t,.int .i64 k]).two
 have hc1:=(hB0.cell hg).trans hc
 have hE:=Lib.hid (show other q (t,k)=(k != q) from rfl)
 go_enter Tryz.func110,Tryz.ntmps110
 go_wp2
 go_ret
 exact⟨by rw [hE.out];rfl,hB0⟩
def noblk(x:Nd):Bool:=!(isblk x)
theorem blocks1_any(x:Nd)(w:World):Calls Tryz.prog 111 #[.agg #[.int .i64 x.1,.int .i64 x.2]] w fun e w'=>e=.returned (.bool (noblk x))∧Below w.heap.size w w':=by
 obtain⟨t,k⟩:=x
 simp only
 have hB0:Below w.heap.size w (w.alloc (.cells #[.int .i64 t,.int .i64 k] 162)):=(Below.refl _ _).alloc (Nat.le_refl _) _
 obtain⟨b0,b1⟩:=(Blk.new w 162 #[.int .i64 t,.int .i64 k]).two
 have HI:=Lib.hid (fun W=>show Calls Tryz.prog 112 #[.agg #[.int .i64 t,.int .i64 k]] W (fun e w'=>e=.returned (.bool (isblk (t,k)))∧Below W.heap.size W w') from isBlock_any (t,k) W)
 have hE:=Lib.hid (show noblk (t,k)=!(isblk (t,k)) from rfl)
 generalize isblk (t,k)=b at *
 go_enter Tryz.func111,Tryz.ntmps111
 go_wp2_with (go_at_call 112;refine(HI.out _).mono ?_;rintro e w1 ⟨rfl,hb1⟩)
 exact zKindsP13
theorem any_snoc{α:Type}(P:α→Bool)(xs:List α)(k:Nat)(x:α)(h:xs[k]? = some x):(xs.take (k+1)).any P=((xs.take k).any P || P x):=by
 rw [List.take_add_one,h];simp
theorem any_at{α:Type}{P:α→Bool}{xs:List α}{k:Nat}{x:α}(h:xs[k]? = some x)(hx:P x=true):xs.any P=true :=
 List.any_eq_true.2 ⟨x,List.mem_of_getElem? h,hx⟩
theorem index_odd(A:Option Addr)(cap:Nat)(xs:List Int)(w:World)(hx:IRow w w.heap.size A xs)(hl:xs.length≤1000000) :
  Calls Tryz.prog 100 #[.slice A xs.length cap,.func (.func 82) #[] #[]] w fun e w'=>(∃ r:Int,e=.returned (.int .i64 r)∧decide (0≤r)=xs.any (odd))∧Below w.heap.size w w':=by
 have HX:=Lib.hid hx
 have HS:=Lib.hid (fun x W=>(odd_any x W).mono (fun e w' h=>show e=.returned (.bool (odd x))∧Below W.heap.size W w' from⟨h.1,h.2▸Below.refl _ _⟩))
 clear hx
 go_enter Tryz.func100,Tryz.ntmps100
 go_wp2
 go_loopw [8] (fun i wr=>∃ k:Nat,k≤xs.length∧i=.int .i64 k∧(xs.take k).any (odd)=false∧Below w.heap.size w wr) (fun i _=>xs.length-(intOf i).toNat)
 case atStart=>exact⟨0,by omega,rfl,rfl,Below.refl _ _⟩
 case round =>
  obtain⟨k,hk,rfl,hb0,hB⟩:=hrel
  by_cases hlt:k<xs.length
  ·obtain⟨x,hxk⟩:∃ x,xs[k]? = some x:=⟨_,List.getElem?_eq_getElem hlt⟩
   obtain⟨ad,rfl,hbk,h0'⟩:=(HX.out.below hB) k x hxk
   have hsn:=any_snoc (odd) xs k x hxk
   have j1:(k:Int)<(xs.length:Int):=by omega
   have j2:(0:Int)≤(k:Int):=by omega
   have HB0:=Lib.hid hb0
   cases hbad:(odd) x with
   | true =>
    have HT:=Lib.hid (any_at (P:=odd) hxk hbad)
    have HH:=Lib.hid hbad
    clear hsn hb0 hxk hbad
    go_wp2_with (go_at_call 82;refine(HS.out x _).mono ?_;rintro e w2 ⟨rfl,hb2⟩;rw [HH.out])
    exact zKindsP9
   | false =>
    rw [hb0,hbad] at hsn
    have HSN:=Lib.hid hsn
    have HH:=Lib.hid hbad
    clear hsn hb0 hxk hbad
    go_wp2_with (go_at_call 82;refine(HS.out x _).mono ?_;rintro e w2 ⟨rfl,hb2⟩;rw [HH.out])
    exact zKindsP7
  ·exact zKindsP2
theorem contains_odd(A:Option Addr)(cap:Nat)(xs:List Int)(w:World)(hx:IRow w w.heap.size A xs)(hl:xs.length≤1000000) :
  Calls Tryz.prog 81 #[.slice A xs.length cap,.func (.func 82) #[] #[]] w fun e w'=>e=.returned (.bool (xs.any (odd)))∧Below w.heap.size w w':=by
 have HI:=Lib.hid (index_odd A cap xs w hx hl)
 exact zKindsP12
theorem index_nonum(A:Option Addr)(cap:Nat)(xs:List Int)(w:World)(hx:IRow w w.heap.size A xs)(hl:xs.length≤1000000) :
  Calls Tryz.prog 100 #[.slice A xs.length cap,.func (.func 83) #[] #[]] w fun e w'=>(∃ r:Int,e=.returned (.int .i64 r)∧decide (0≤r)=xs.any (nonum))∧Below w.heap.size w w':=by
 have HX:=Lib.hid hx
 have HS:=Lib.hid (fun x W=>(nonum_any x W).mono (fun e w' h=>show e=.returned (.bool (nonum x))∧Below W.heap.size W w' from⟨h.1,h.2▸Below.refl _ _⟩))
 clear hx
 go_enter Tryz.func100,Tryz.ntmps100
 go_wp2
 go_loopw [8] (fun i wr=>∃ k:Nat,k≤xs.length∧i=.int .i64 k∧(xs.take k).any (nonum)=false∧Below w.heap.size w wr) (fun i _=>xs.length-(intOf i).toNat)
 case atStart=>exact⟨0,by omega,rfl,rfl,Below.refl _ _⟩
 case round =>
  obtain⟨k,hk,rfl,hb0,hB⟩:=hrel
  by_cases hlt:k<xs.length
  ·obtain⟨x,hxk⟩:∃ x,xs[k]? = some x:=⟨_,List.getElem?_eq_getElem hlt⟩
   obtain⟨ad,rfl,hbk,h0'⟩:=(HX.out.below hB) k x hxk
   have hsn:=any_snoc (nonum) xs k x hxk
   have j1:(k:Int)<(xs.length:Int):=by omega
   have j2:(0:Int)≤(k:Int):=by omega
   have HB0:=Lib.hid hb0
   cases hbad:(nonum) x with
   | true =>
    have HT:=Lib.hid (any_at (P:=nonum) hxk hbad)
    have HH:=Lib.hid hbad
    clear hsn hb0 hxk hbad
    go_wp2_with (go_at_call 83;refine(HS.out x _).mono ?_;rintro e w2 ⟨rfl,hb2⟩;rw [HH.out])
    exact zKindsP9
   | false =>
    rw [hb0,hbad] at hsn
    have HSN:=Lib.hid hsn
    have HH:=Lib.hid hbad
    clear hsn hb0 hxk hbad
    go_wp2_with (go_at_call 83;refine(HS.out x _).mono ?_;rintro e w2 ⟨rfl,hb2⟩;rw [HH.out])
    exact zKindsP7
  ·exact zKindsP2
theorem contains_nonum(A:Option Addr)(cap:Nat)(xs:List Int)(w:World)(hx:IRow w w.heap.size A xs)(hl:xs.length≤1000000) :
  Calls Tryz.prog 81 #[.slice A xs.length cap,.func (.func 83) #[] #[]] w fun e w'=>e=.returned (.bool (xs.any (nonum)))∧Below w.heap.size w w':=by
 have HI:=Lib.hid (index_nonum A cap xs w hx hl)
 exact zKindsP12
theorem index_blocks(A:Option Addr)(cap:Nat)(xs:List Nd)(w:World)(hx:Nodes w w.heap.size A xs)(hl:xs.length≤1000000) :
  Calls Tryz.prog 113 #[.slice A xs.length cap,.func (.func 111) #[] #[]] w fun e w'=>(∃ r:Int,e=.returned (.int .i64 r)∧decide (0≤r)=xs.any (noblk))∧Below w.heap.size w w':=by
 have HX:=Lib.hid hx
 have HS:=Lib.hid (fun x W=>blocks1_any x W)
 clear hx
 go_enter Tryz.func113,Tryz.ntmps113
 go_wp2
 go_loopw [8] (fun i wr=>∃ k:Nat,k≤xs.length∧i=.int .i64 k∧(xs.take k).any (noblk)=false∧Below w.heap.size w wr) (fun i _=>xs.length-(intOf i).toNat)
 case atStart=>exact⟨0,by omega,rfl,rfl,Below.refl _ _⟩
 case round =>
  obtain⟨k,hk,rfl,hb0,hB⟩:=hrel
  by_cases hlt:k<xs.length
  ·obtain⟨x,hxk⟩:∃ x,xs[k]? = some x:=⟨_,List.getElem?_eq_getElem hlt⟩
   obtain⟨ad,rfl,hbk,h0',h1'⟩:=(HX.out.below hB) k x hxk
   have hsn:=any_snoc (noblk) xs k x hxk
   have j1:(k:Int)<(xs.length:Int):=by omega
   have j2:(0:Int)≤(k:Int):=by omega
   have HB0:=Lib.hid hb0
   cases hbad:(noblk) x with
   | true =>
    have HT:=Lib.hid (any_at (P:=noblk) hxk hbad)
    have HH:=Lib.hid hbad
    clear hsn hb0 hxk hbad
    go_wp2_with (go_at_call 111;refine(HS.out x _).mono ?_;rintro e w2 ⟨rfl,hb2⟩;rw [HH.out])
    exact zKindsP9
   | false =>
    rw [hb0,hbad] at hsn
    have HSN:=Lib.hid hsn
    have HH:=Lib.hid hbad
    clear hsn hb0 hxk hbad
    go_wp2_with (go_at_call 111;refine(HS.out x _).mono ?_;rintro e w2 ⟨rfl,hb2⟩;rw [HH.out])
    exact zKindsP7
  ·exact zKindsP2
theorem contains_blocks(A:Option Addr)(cap:Nat)(xs:List Nd)(w:World)(hx:Nodes w w.heap.size A xs)(hl:xs.length≤1000000) :
  Calls Tryz.prog 109 #[.slice A xs.length cap,.func (.func 111) #[] #[]] w fun e w'=>e=.returned (.bool (xs.any (noblk)))∧Below w.heap.size w w':=by
 have HI:=Lib.hid (index_blocks A cap xs w hx hl)
 exact zKindsP10
theorem index_all(A:Option Addr)(cap:Nat)(xs:List Nd)(q:Int)(g:Addr)(w:World)(hx:Nodes w w.heap.size A xs)(hg:g.block<w.heap.size)(hc:w.cell? g=some (.int .i64 q))(hl:xs.length≤1000000) :
  Calls Tryz.prog 113 #[.slice A xs.length cap,.func (.func 110) #[] #[.pointer (some g)]] w fun e w'=>(∃ r:Int,e=.returned (.int .i64 r)∧decide (0≤r)=xs.any (other q))∧Below w.heap.size w w':=by
 have HX:=Lib.hid hx
 have HS:=Lib.hid (fun x W (h1:g.block<W.heap.size) (h2:W.cell? g=some (.int .i64 q))=>all1_any x q g W h1 h2)
 clear hx
 go_enter Tryz.func113,Tryz.ntmps113
 go_wp2
 go_loopw [8] (fun i wr=>∃ k:Nat,k≤xs.length∧i=.int .i64 k∧(xs.take k).any (other q)=false∧Below w.heap.size w wr) (fun i _=>xs.length-(intOf i).toNat)
 case atStart=>exact⟨0,by omega,rfl,rfl,Below.refl _ _⟩
 case round =>
  obtain⟨k,hk,rfl,hb0,hB⟩:=hrel
  by_cases hlt:k<xs.length
  ·obtain⟨x,hxk⟩:∃ x,xs[k]? = some x:=⟨_,List.getElem?_eq_getElem hlt⟩
   obtain⟨ad,rfl,hbk,h0',h1'⟩:=(HX.out.below hB) k x hxk
   have hsn:=any_snoc (other q) xs k x hxk
   have j1:(k:Int)<(xs.length:Int):=by omega
   have j2:(0:Int)≤(k:Int):=by omega
   have HB0:=Lib.hid hb0
   cases hbad:(other q) x with
   | true =>
    have HT:=Lib.hid (any_at (P:=other q) hxk hbad)
    have HH:=Lib.hid hbad
    clear hsn hb0 hxk hbad
    go_wp2_with (go_at_call 110;refine(HS.out x _ (Nat.lt_of_lt_of_le hg hB.size) ((hB.cell hg).trans hc)).mono ?_;rintro e w2 ⟨rfl,hb2⟩;rw [HH.out])
    exact zKindsP9
   | false =>
    rw [hb0,hbad] at hsn
    have HSN:=Lib.hid hsn
    have HH:=Lib.hid hbad
    clear hsn hb0 hxk hbad
    go_wp2_with (go_at_call 110;refine(HS.out x _ (Nat.lt_of_lt_of_le hg hB.size) ((hB.cell hg).trans hc)).mono ?_;rintro e w2 ⟨rfl,hb2⟩;rw [HH.out])
    exact zKindsP7
  ·exact zKindsP2
theorem contains_all(A:Option Addr)(cap:Nat)(xs:List Nd)(q:Int)(g:Addr)(w:World)(hx:Nodes w w.heap.size A xs)(hg:g.block<w.heap.size)(hc:w.cell? g=some (.int .i64 q))(hl:xs.length≤1000000) :
  Calls Tryz.prog 109 #[.slice A xs.length cap,.func (.func 110) #[] #[.pointer (some g)]] w fun e w'=>e=.returned (.bool (xs.any (other q)))∧Below w.heap.size w w':=by
 have HI:=Lib.hid (index_all A cap xs q g w hx hg hc hl)
 exact zKindsP10
theorem all_any(A:Option Addr)(cap:Nat)(xs:List Nd)(q:Int)(w:World)(hx:Nodes w w.heap.size A xs)(hl:xs.length≤1000000) :
  Calls Tryz.prog 106 #[.slice A xs.length cap,.int .i64 q] w fun e w'=>e=.returned (.bool (xs.all fun x=>x.2==q))∧Below w.heap.size w w':=by
 have hB0:Below w.heap.size w (w.alloc (.cells #[.int .i64 q] 3)):=(Below.refl _ _).alloc (Nat.le_refl _) _
 have b:=Blk.new w 3 #[.int .i64 q]
 have hg:=b.lt
 have hc:(w.alloc (.cells #[.int .i64 q] 3)).cell? ⟨w.heap.size,0,none⟩=some (.int .i64 q):=b.cell 0
 have HI:=Lib.hid (contains_all A cap xs q ⟨w.heap.size,0,none⟩ (w.alloc (.cells #[.int .i64 q] 3)) (hx.at hB0) hg hc hl)
 have hE:=Lib.hid (show(xs.all fun x=>x.2==q)=!(xs.any (other q)) by rw [List.not_any_eq_all_not];congr 1;funext x;simp [other,bne])
 generalize xs.any (other q)=y at *
 clear hx b
 go_enter Tryz.func106,Tryz.ntmps106
 go_wp2_with (go_at_call 109;refine HI.out.mono ?_;rintro e w1 ⟨rfl,hb1⟩)
 exact zKindsP13
theorem blocks_any(A:Option Addr)(cap:Nat)(xs:List Nd)(w:World)(hx:Nodes w w.heap.size A xs)(hl:xs.length≤1000000) :
  Calls Tryz.prog 108 #[.slice A xs.length cap] w fun e w'=>e=.returned (.bool (xs.all isblk))∧Below w.heap.size w w':=by
 have HI:=Lib.hid (contains_blocks A cap xs w hx hl)
 have hE:=Lib.hid (show xs.all isblk=!(xs.any noblk) by rw [List.not_any_eq_all_not];congr 1;funext x;simp [noblk])
 generalize xs.any noblk=y at *
 clear hx
 go_enter Tryz.func108,Tryz.ntmps108
 go_wp2_with (go_at_call 109;refine HI.out.mono ?_;rintro e w1 ⟨rfl,hb1⟩)
 go_ret
 exact⟨by rw [hE.out];rfl,hb1⟩
theorem wpList_insert_own{H:Type}{P:Program}(w:World){ops:Array Oper}{rest:List Oper}{o:Oper}{a:Act}{Q:Exit→Act→World→Prop}
  (hg:o.guard=none) (m x v:Operand) (t:TypeId) (hop:o.op=Op.insert t m x v)
  (k e:TypeId) (K:Go.Maps.Keyed P k) (ht:P.underlying t=some (.map k e)) (R:Value→Option (DataW H×List MemPlace)) (b n:Nat) (D:DataW H)
  (hm:a.eval m=.map (some b)) (hown:w.ownsMap P k R b n D) (hn:n<maxLen) (key val:Value) (kl:Lit) (hx:a.eval x=key) (hv:a.eval v=val) (hkey:keyOf P k key=some kl)
  (d:DataW H) (ps:List MemPlace) (hval:R val=some (d,ps))
  (hK:∀ w',w'.ownsMap P k R b (n+1) (D.put kl d)→w.grownBy w' (some b)→wpList P ops Q rest (a.put o.dst undef) w') :
  wpList P ops Q (o::rest) a w:=by
 refine wpList_plain hg fun K' hK'=>?_
 obtain⟨w',hrun,r1,r2⟩:=hown.update K ht hn hkey hval
 unfold Oper.wp
 simp [execOp,hop,hm,hx,hv,hrun,Result.andThen]
 exact hK' _ _ (hK w' r1 r2)
theorem wpList_map_own{H:Type}{P:Program}(w:World){ops:Array Oper}{rest:List Oper}{o:Oper}{a:Act}{Q:Exit→Act→World→Prop}
  (hg:o.guard=none) (t:TypeId) (hop:o.op=Op.makeMap t none) (k:TypeId) (R:Value→Option (DataW H×List MemPlace))
  (hK:∀ b w',b=w.heap.size→w'.ownsMap P k R b 0 (.map [])→Below w.heap.size w w'→wpList P ops Q rest (a.put o.dst (.map (some b))) w') :
  wpList P ops Q (o::rest) a w:=by
 refine wpList_plain hg fun K' hK'=>?_
 have hrun:=@run_makeMap P t w
 unfold Oper.wp
 simp [execOp,hop,hrun,Result.andThen]
 exact hK' _ _ (hK _ _ rfl (World.ownsMap_made w P k R) ((Below.refl _ _).alloc (Nat.le_refl _) _))
def itself(v:Value):Option (DataW Value×List MemPlace):=some (.held v,[])
def wayOf(t:Int):Value:=if t=1 then .iface 174 (.agg #[.int .i64 0,.int .i64 0]) else if t=2 then .iface 174 (.agg #[.int .i64 0,.int .i64 1]) else if t=3 then .iface 175 (.agg #[]) else if t=4 then .iface 177 (.agg #[.int .i64 0]) else if t=5 then .iface 174 (.agg #[.int .i64 0,.int .i64 0]) else if t=6 then .iface 174 (.agg #[.int .i64 1,.int .i64 1]) else if t=7 then .iface 174 (.agg #[.int .i64 0,.int .i64 0]) else if t=8 then .iface 174 (.agg #[.int .i64 0,.int .i64 0]) else if t=9 then .iface 174 (.agg #[.int .i64 0,.int .i64 0]) else if t=10 then .iface 174 (.agg #[.int .i64 0,.int .i64 0]) else if t=11 then .iface 174 (.agg #[.int .i64 0,.int .i64 0]) else if t=12 then .iface 174 (.agg #[.int .i64 0,.int .i64 1]) else if t=13 then .iface 174 (.agg #[.int .i64 0,.int .i64 1]) else if t=14 then .iface 174 (.agg #[.int .i64 0,.int .i64 1]) else if t=15 then .iface 174 (.agg #[.int .i64 0,.int .i64 1]) else if t=16 then .iface 174 (.agg #[.int .i64 0,.int .i64 1]) else if t=17 then .iface 174 (.agg #[.int .i64 0,.int .i64 1]) else if t=18 then .iface 174 (.agg #[.int .i64 1,.int .i64 1]) else if t=19 then .iface 174 (.agg #[.int .i64 1,.int .i64 1]) else if t=20 then .iface 174 (.agg #[.int .i64 2,.int .i64 2]) else if t=21 then .iface 178 (.agg #[]) else if t=22 then .iface 177 (.agg #[.int .i64 2]) else if t=23 then .iface 179 (.agg #[]) else if t=24 then .iface 179 (.agg #[]) else if t=25 then .iface 174 (.agg #[.int .i64 0,.int .i64 2]) else if t=26 then .iface 174 (.agg #[.int .i64 0,.int .i64 2]) else .nilIface
def table:DataW Value:=(((((((((((((((((((((((((((DataW.map []:DataW Value).put (.int .i64 1) (.held (.iface 174 (.agg #[.int .i64 0,.int .i64 0])))).put (.int .i64 2) (.held (.iface 174 (.agg #[.int .i64 0,.int .i64 1])))).put (.int .i64 3) (.held (.iface 175 (.agg #[])))).put (.int .i64 4) (.held (.iface 177 (.agg #[.int .i64 0])))).put (.int .i64 5) (.held (.iface 174 (.agg #[.int .i64 0,.int .i64 0])))).put (.int .i64 6) (.held (.iface 174 (.agg #[.int .i64 1,.int .i64 1])))).put (.int .i64 7) (.held (.iface 174 (.agg #[.int .i64 0,.int .i64 0])))).put (.int .i64 8) (.held (.iface 174 (.agg #[.int .i64 0,.int .i64 0])))).put (.int .i64 9) (.held (.iface 174 (.agg #[.int .i64 0,.int .i64 0])))).put (.int .i64 10) (.held (.iface 174 (.agg #[.int .i64 0,.int .i64 0])))).put (.int .i64 11) (.held (.iface 174 (.agg #[.int .i64 0,.int .i64 0])))).put (.int .i64 12) (.held (.iface 174 (.agg #[.int .i64 0,.int .i64 1])))).put (.int .i64 13) (.held (.iface 174 (.agg #[.int .i64 0,.int .i64 1])))).put (.int .i64 14) (.held (.iface 174 (.agg #[.int .i64 0,.int .i64 1])))).put (.int .i64 15) (.held (.iface 174 (.agg #[.int .i64 0,.int .i64 1])))).put (.int .i64 16) (.held (.iface 174 (.agg #[.int .i64 0,.int .i64 1])))).put (.int .i64 17) (.held (.iface 174 (.agg #[.int .i64 0,.int .i64 1])))).put (.int .i64 18) (.held (.iface 174 (.agg #[.int .i64 1,.int .i64 1])))).put (.int .i64 19) (.held (.iface 174 (.agg #[.int .i64 1,.int .i64 1])))).put (.int .i64 20) (.held (.iface 174 (.agg #[.int .i64 2,.int .i64 2])))).put (.int .i64 21) (.held (.iface 178 (.agg #[])))).put (.int .i64 22) (.held (.iface 177 (.agg #[.int .i64 2])))).put (.int .i64 23) (.held (.iface 179 (.agg #[])))).put (.int .i64 24) (.held (.iface 179 (.agg #[])))).put (.int .i64 25) (.held (.iface 174 (.agg #[.int .i64 0,.int .i64 2])))).put (.int .i64 26) (.held (.iface 174 (.agg #[.int .i64 0,.int .i64 2]))))
theorem key_int:Go.Maps.Keyed Tryz.prog 3:=Go.Maps.int_keyed Tryz.underlying3
theorem nil_way(w:World):(zeroValue 159).run Tryz.prog w=.ok .nilIface w:=by kernel_rfl
theorem look{w:World}{b:Nat}(h:w.ownsMap Tryz.prog 3 itself b 26 table)(t:Nat)(h1:1≤t)(h2:t≤26):(Instr.lookup 154 (.map (some b)) (.int .i64 t) false).run Tryz.prog w=.ok (wayOf t) w:=by
 have hw:(Lit.int .i64 (t:Int)).wf=true:=by
  have h0:(List.range 27).all (fun t=>(Lit.int .i64 (t:Int)).wf)=true:=by decide +kernel
  exact List.all_eq_true.1 h0 t (List.mem_range.2 (by omega))
 obtain⟨v,ps,hrun,hv⟩:=h.lookup (t:=154) key_int Tryz.underlying154 (nil_way w) (zd:=.held .nilIface) (zp:=[]) rfl (Go.Maps.keyOf_int_mk Tryz.underlying3 hw)
 have hat:table.atKey (.int .i64 t) (.held .nilIface)=.held (wayOf t):=by
  exact zKindsP6
 rw [hat] at hv
 cases hv
 exact hrun
theorem ways_any(w:World):Calls Tryz.prog 85 #[] w fun e w'=>∃ b,e=.returned (.map (some b))∧b<w'.heap.size∧w'.ownsMap Tryz.prog 3 itself b 26 table∧Below w.heap.size w w':=by
 have q1:Below w.heap.size w (w.alloc (.cells #[.int .i64 0,.int .i64 0] 174)):=(Below.refl _ _).alloc (Nat.le_refl _) _
 have q2:Below w.heap.size w ((w.alloc (.cells #[.int .i64 0,.int .i64 0] 174)).alloc (.cells #[.int .i64 0,.int .i64 1] 174)):=q1.alloc q1.size _
 have hB0:Below w.heap.size w (((w.alloc (.cells #[.int .i64 0,.int .i64 0] 174)).alloc (.cells #[.int .i64 0,.int .i64 1] 174)).alloc (.cells #[.int .i64 1,.int .i64 1] 174)):=q2.alloc q2.size _
 have s1:(w.alloc (.cells #[.int .i64 0,.int .i64 0] 174)).heap.size=w.heap.size+1:=World.size_alloc _ _
 have s2:((w.alloc (.cells #[.int .i64 0,.int .i64 0] 174)).alloc (.cells #[.int .i64 0,.int .i64 1] 174)).heap.size=w.heap.size+1+1:=by rw [World.size_alloc,World.size_alloc]
 have s3:(((w.alloc (.cells #[.int .i64 0,.int .i64 0] 174)).alloc (.cells #[.int .i64 0,.int .i64 1] 174)).alloc (.cells #[.int .i64 1,.int .i64 1] 174)).heap.size=w.heap.size+1+1+1:=by rw [World.size_alloc,World.size_alloc,World.size_alloc]
 have b1:=((Blk.new w 174 #[.int .i64 0,.int .i64 0]).alloc (.cells #[.int .i64 0,.int .i64 1] 174)).alloc (.cells #[.int .i64 1,.int .i64 1] 174)
 have b2:=(Blk.new (w.alloc (.cells #[.int .i64 0,.int .i64 0] 174)) 174 #[.int .i64 0,.int .i64 1]).alloc (.cells #[.int .i64 1,.int .i64 1] 174)
 have b3:=Blk.new ((w.alloc (.cells #[.int .i64 0,.int .i64 0] 174)).alloc (.cells #[.int .i64 0,.int .i64 1] 174)) 174 #[.int .i64 1,.int .i64 1]
 rw [s1] at b2
 rw [s2] at b3
 have l1:=b1.lt
 have l2:=b2.lt
 have l3:=b3.lt
 have HC:=Lib.hid (fun W (h:Below (((w.alloc (.cells #[.int .i64 0,.int .i64 0] 174)).alloc (.cells #[.int .i64 0,.int .i64 1] 174)).alloc (.cells #[.int .i64 1,.int .i64 1] 174)).heap.size (((w.alloc (.cells #[.int .i64 0,.int .i64 0] 174)).alloc (.cells #[.int .i64 0,.int .i64 1] 174)).alloc (.cells #[.int .i64 1,.int .i64 1] 174)) W)=>And.intro (b1.below h l1).two (And.intro (b2.below h l2).two (b3.below h l3).two))
 clear b1 b2 b3 l1 l2 l3 s1 s2 q1 q2
 go_enter Tryz.func85,Tryz.ntmps85
 iterate 53 (first | go_values | go_skip | go_guarded | go_step)
 rw [List.append_eq]
 simp only [List.cons_append,List.nil_append]
 go_wp2_with (first
  | (refine wpList_map_own _ rfl 154 rfl 3 itself ?_;intro b w4 hb0 hown hB;have hb:=Lib.hid hb0;clear hb0;obtain⟨⟨c1,c2⟩,⟨c3,c4⟩,⟨c5,c6⟩⟩:=HC.out _ hB)
  | (refine wpList_insert_own _ rfl _ _ _ 154 rfl 3 159 key_int Tryz.underlying154 itself _ _ _ rfl hown (by unfold maxLen;omega) _ _ _ rfl rfl (Go.Maps.keyOf_int_mk Tryz.underlying3 (by decide)) _ [] rfl ?_;intro w5 ho5 hg5;replace hown:=ho5;replace hB:=hB.grown hg5 hB.size (fun j hj=>by cases hj;exact Nat.le_of_eq hb.out.symm);clear ho5 hg5;obtain⟨⟨c1,c2⟩,⟨c3,c4⟩,⟨c5,c6⟩⟩:=HC.out _ hB))
 go_ret
 exact⟨b,rfl,hown.lt,hown,hB0.trans (hB.mono hB0.size)⟩
theorem fits_alike(k g:Int)(t:Int)(A:Option Addr)(cap:Nat)(xs:List Nd)(w:World)(hx:Nodes w w.heap.size A xs)(hl:xs.length≤1000000) :
  Calls Tryz.prog 103 #[(.iface 174 (.agg #[.int .i64 k,.int .i64 g])),.int .i64 t,.slice A xs.length cap] w fun e w'=>e=.returned (.bool (xs.all fun x=>x.2==k))∧Below w.heap.size w w':=by
 have hB0:Below w.heap.size w (w.alloc (.cells #[.int .i64 k,.int .i64 g] 174)):=(Below.refl _ _).alloc (Nat.le_refl _) _
 obtain⟨b0,b1⟩:=(Blk.new w 174 #[.int .i64 k,.int .i64 g]).two
 have HA:=Lib.hid (all_any A cap xs k _ (hx.at hB0) hl)
 clear hx
 generalize (xs.all fun x=>x.2==k)=y at *
 have ta0:∀ W,(Instr.typeAssert (.iface 174 (.agg #[.int .i64 k,.int .i64 g])) 159 174 true).run Tryz.prog W=.ok (.tuple #[.agg #[.int .i64 k,.int .i64 g],.bool true]) W:=fun W=>by kernel_rfl
 go_enter Tryz.func103,Tryz.ntmps103
 go_wp2_with (go_at_call 106;refine HA.out.mono ?_;rintro e w1 ⟨rfl,hb1⟩)
 go_ret
 exact⟨rfl,hB0.trans (hb1.mono hB0.size)⟩
theorem fits_element(g:Int)(t:Int)(A:Option Addr)(cap:Nat)(xs:List Nd)(w:World)(hx:Nodes w w.heap.size A xs)(hl:xs.length≤1000000) :
  Calls Tryz.prog 103 #[(.iface 177 (.agg #[.int .i64 g])),.int .i64 t,.slice A xs.length cap] w fun e w'=>e=.returned (.bool (decide (0<asz t) && (xs.all fun x=>x.2==0)))∧Below w.heap.size w w':=by
 have hB0:Below w.heap.size w (w.alloc (.cells #[.int .i64 g] 177)):=(Below.refl _ _).alloc (Nat.le_refl _) _
 have HA:=Lib.hid (all_any A cap xs 0 _ (hx.at hB0) hl)
 have HS:=Lib.hid (fun W=>Size_any t W)
 clear hx
 generalize (xs.all fun x=>x.2==0)=y at *
 have ta0:∀ W,(Instr.typeAssert (.iface 177 (.agg #[.int .i64 g])) 159 174 true).run Tryz.prog W=.ok (.tuple #[.agg #[.int .i64 0,.int .i64 0],.bool false]) W:=fun W=>by kernel_rfl
 have ta1:∀ W,(Instr.typeAssert (.iface 177 (.agg #[.int .i64 g])) 159 177 true).run Tryz.prog W=.ok (.tuple #[.agg #[.int .i64 g],.bool true]) W:=fun W=>by kernel_rfl
 by_cases h:0<asz t
 ·have hE:=Lib.hid (decide_eq_true h)
  generalize asz t=z at *
  go_enter Tryz.func103,Tryz.ntmps103
  go_wp2_with (first
   | (go_at_call 28;refine(HS.out _).mono ?_;rintro e w1 ⟨rfl,rfl⟩)
   | (go_at_call 106;refine HA.out.mono ?_;rintro e w2 ⟨rfl,hb1⟩))
  exact zKindsP13
 ·have hE:=Lib.hid (decide_eq_false h)
  generalize asz t=z at *
  go_enter Tryz.func103,Tryz.ntmps103
  go_wp2_with (first
   | (go_at_call 28;refine(HS.out _).mono ?_;rintro e w1 ⟨rfl,rfl⟩))
  go_ret
  exact⟨by rw [hE.out];rfl,hB0⟩
theorem fits_value(t:Int)(A:Option Addr)(cap:Nat)(xs:List Nd)(w:World)(hx:Nodes w w.heap.size A xs)(hl:xs.length≤1000000) :
  Calls Tryz.prog 103 #[(.iface 175 (.agg #[])),.int .i64 t,.slice A xs.length cap] w fun e w'=>e=.returned (.bool (decide (t=0∨t=1)))∧Below w.heap.size w w':=by
 have hB0:Below w.heap.size w (w.alloc (.cells #[] 175)):=(Below.refl _ _).alloc (Nat.le_refl _) _
 have HS:=Lib.hid (fun W=>single_any t W)
 generalize decide (t=0∨t=1)=y at *
 have ta0:∀ W,(Instr.typeAssert (.iface 175 (.agg #[])) 159 174 true).run Tryz.prog W=.ok (.tuple #[.agg #[.int .i64 0,.int .i64 0],.bool false]) W:=fun W=>by kernel_rfl
 have ta1:∀ W,(Instr.typeAssert (.iface 175 (.agg #[])) 159 177 true).run Tryz.prog W=.ok (.tuple #[.agg #[.int .i64 0],.bool false]) W:=fun W=>by kernel_rfl
 have ta2:∀ W,(Instr.typeAssert (.iface 175 (.agg #[])) 159 175 true).run Tryz.prog W=.ok (.tuple #[.agg #[],.bool true]) W:=fun W=>by kernel_rfl
 go_enter Tryz.func103,Tryz.ntmps103
 go_wp2_with (go_at_call 107;refine(HS.out _).mono ?_;rintro e w1 ⟨rfl,rfl⟩)
 go_ret
 exact⟨rfl,hB0⟩
theorem fits_setting(t:Int)(A:Option Addr)(cap:Nat)(xs:List Nd)(w:World)(hx:Nodes w w.heap.size A xs)(hl:xs.length≤1000000) :
  Calls Tryz.prog 103 #[(.iface 178 (.agg #[])),.int .i64 t,.slice A xs.length cap] w fun e w'=>e=.returned (.bool (decide (t=0∨t=1) && (xs.all fun x=>x.2==t)))∧Below w.heap.size w w':=by
 have hB0:Below w.heap.size w (w.alloc (.cells #[] 178)):=(Below.refl _ _).alloc (Nat.le_refl _) _
 have HS:=Lib.hid (fun W=>single_any t W)
 have HA:=Lib.hid (all_any A cap xs t _ (hx.at hB0) hl)
 clear hx
 generalize (xs.all fun x=>x.2==t)=y at *
 have ta0:∀ W,(Instr.typeAssert (.iface 178 (.agg #[])) 159 174 true).run Tryz.prog W=.ok (.tuple #[.agg #[.int .i64 0,.int .i64 0],.bool false]) W:=fun W=>by kernel_rfl
 have ta1:∀ W,(Instr.typeAssert (.iface 178 (.agg #[])) 159 177 true).run Tryz.prog W=.ok (.tuple #[.agg #[.int .i64 0],.bool false]) W:=fun W=>by kernel_rfl
 have ta2:∀ W,(Instr.typeAssert (.iface 178 (.agg #[])) 159 175 true).run Tryz.prog W=.ok (.tuple #[.agg #[],.bool false]) W:=fun W=>by kernel_rfl
 have ta3:∀ W,(Instr.typeAssert (.iface 178 (.agg #[])) 159 178 true).run Tryz.prog W=.ok (.tuple #[.agg #[],.bool true]) W:=fun W=>by kernel_rfl
 cases hd:decide (t=0∨t=1) with
 | true =>
  rw [hd] at HS
  go_enter Tryz.func103,Tryz.ntmps103
  go_wp2_with (first
   | (go_at_call 107;refine(HS.out _).mono ?_;rintro e w1 ⟨rfl,rfl⟩)
   | (go_at_call 106;refine HA.out.mono ?_;rintro e w2 ⟨rfl,hb1⟩))
  go_ret
  exact⟨rfl,hB0.trans (hb1.mono hB0.size)⟩
 | false =>
  rw [hd] at HS
  go_enter Tryz.func103,Tryz.ntmps103
  go_wp2_with (first
   | (go_at_call 107;refine(HS.out _).mono ?_;rintro e w1 ⟨rfl,rfl⟩))
  go_ret
  exact⟨rfl,hB0⟩
theorem fits_branching(t:Int)(A:Option Addr)(cap:Nat)(xs:List Nd)(w:World)(hx:Nodes w w.heap.size A xs)(hl:xs.length≤1000000)(hp:0<xs.length)(hc:xs.length≤cap) :
  Calls Tryz.prog 103 #[(.iface 179 (.agg #[])),.int .i64 t,.slice A xs.length cap] w fun e w'=>e=.returned (.bool ((xs.getD (xs.length-1) (0,0)).2==1 && (xs.take (xs.length-1)).all isblk))∧Below w.heap.size w w':=by
 have hB0:Below w.heap.size w (w.alloc (.cells #[] 179)):=(Below.refl _ _).alloc (Nat.le_refl _) _
 obtain⟨n,hn⟩:∃ n,xs.length=n+1:=⟨xs.length-1,by omega⟩
 obtain⟨⟨tg,kd⟩,hxn⟩:∃ x,xs[n]? = some x:=⟨_,List.getElem?_eq_getElem (by omega)⟩
 have hg:(xs.getD n (0,0)).2=kd:=by rw [List.getD_eq_getElem?_getD,hxn];rfl
 have hx1:=hx.at hB0
 obtain⟨ad,rfl,hbk,h0',h1'⟩:=hx1 n _ hxn
 have hlt:(xs.take n).length=n:=by rw [List.length_take];omega
 have HB:=Lib.hid (show Calls Tryz.prog 108 #[.slice (some ad) n cap] (w.alloc (.cells #[] 179)) (fun e w'=>e=.returned (.bool ((xs.take n).all isblk))∧Below (w.alloc (.cells #[] 179)).heap.size (w.alloc (.cells #[] 179)) w') from by
  have q:=blocks_any (some ad) cap (xs.take n) (w.alloc (.cells #[] 179)) (fun i x h=>hx1 i x (by rw [List.getElem?_take] at h;split at h;exact h;cases h)) (by omega)
  rw [hlt] at q
  exact q)
 rw [hn,show n+1-1=n from rfl,hg]
 generalize (xs.take n).all isblk=y at *
 have v1:IntKind.i64.wrap (((n+1:Nat):Int)-1)=(n:Int):=by rw [IntWalk.i64_in _ (by omega)];omega
 have i1:(n:Int)<((n+1:Nat):Int):=by omega
 have i2:(0:Int)≤(n:Int):=by omega
 have i3:(n:Int)≤(cap:Int):=by omega
 clear hx hx1 hg hxn hlt
 have ta0:∀ W,(Instr.typeAssert (.iface 179 (.agg #[])) 159 174 true).run Tryz.prog W=.ok (.tuple #[.agg #[.int .i64 0,.int .i64 0],.bool false]) W:=fun W=>by kernel_rfl
 have ta1:∀ W,(Instr.typeAssert (.iface 179 (.agg #[])) 159 177 true).run Tryz.prog W=.ok (.tuple #[.agg #[.int .i64 0],.bool false]) W:=fun W=>by kernel_rfl
 have ta2:∀ W,(Instr.typeAssert (.iface 179 (.agg #[])) 159 175 true).run Tryz.prog W=.ok (.tuple #[.agg #[],.bool false]) W:=fun W=>by kernel_rfl
 have ta3:∀ W,(Instr.typeAssert (.iface 179 (.agg #[])) 159 178 true).run Tryz.prog W=.ok (.tuple #[.agg #[],.bool false]) W:=fun W=>by kernel_rfl
 have ta4:∀ W,(Instr.typeAssert (.iface 179 (.agg #[])) 159 179 true).run Tryz.prog W=.ok (.tuple #[.agg #[],.bool true]) W:=fun W=>by kernel_rfl
 by_cases h:kd=1
 ·subst h
  go_enter Tryz.func103,Tryz.ntmps103
  go_wp2_with (go_at_call 108;refine HB.out.mono ?_;rintro e w2 ⟨rfl,hb1⟩)
  go_ret
  exact⟨rfl,hB0.trans (hb1.mono hB0.size)⟩
 ·have e1:(kd==1)=false:=by simpa using h
  have hE:=Lib.hid e1
  go_enter Tryz.func103,Tryz.ntmps103
  go_wp2_with fail
  go_ret
  exact⟨by first | rfl | (rw [hE.out];rfl),hB0⟩
inductive Way where
 | alike (k g:Int)
 | elem (g:Int)
 | value
 | setting
 | branching
def Way.val:Way→Value
 | .alike k g=>.iface 174 (.agg #[.int .i64 k,.int .i64 g])
 | .elem g=>.iface 177 (.agg #[.int .i64 g])
 | .value=>.iface 175 (.agg #[])
 | .setting=>.iface 178 (.agg #[])
 | .branching=>.iface 179 (.agg #[])
def Way.fits:Way→Int→List Nd→Bool
 | .alike k g,_,xs=>xs.all fun x=>x.2==k
 | .elem g,t,xs=>decide (0<asz t) && (xs.all fun x=>x.2==0)
 | .value,t,_=>decide (t=0∨t=1)
 | .setting,t,xs=>decide (t=0∨t=1) && (xs.all fun x=>x.2==t)
 | .branching,_,xs=>(xs.getD (xs.length-1) (0,0)).2==1 && (xs.take (xs.length-1)).all isblk
def Way.gives:Way→Int→Int
 | .alike k g,_=>g
 | .elem g,_=>g
 | .value,t=>t
 | .setting,_=>2
 | .branching,_=>2
def Way.branches:Way→Prop
 | .branching=>True
 | _=>False
theorem fits_any(W:Way)(t:Int)(A:Option Addr)(cap:Nat)(xs:List Nd)(w:World)(hx:Nodes w w.heap.size A xs)(hl:xs.length≤1000000)(hp:W.branches→0<xs.length)(hc:xs.length≤cap) :
  Calls Tryz.prog 103 #[W.val,.int .i64 t,.slice A xs.length cap] w fun e w'=>e=.returned (.bool (W.fits t xs))∧Below w.heap.size w w':=by
 cases W with
 | alike k g=>exact fits_alike k g t A cap xs w hx hl
 | elem g=>exact fits_element g t A cap xs w hx hl
 | value=>exact fits_value t A cap xs w hx hl
 | setting=>exact fits_setting t A cap xs w hx hl
 | branching=>exact fits_branching t A cap xs w hx hl (hp trivial) hc
theorem kind_alike(k g:Int)(t:Int)(w:World):Calls Tryz.prog 160 #[.agg #[.int .i64 k,.int .i64 g],.int .i64 t] w fun e w'=>e=.returned (.int .i64 (g))∧Below w.heap.size w w':=by
 have hB0:Below w.heap.size w (w.alloc (.cells #[.int .i64 k,.int .i64 g] 174)):=(Below.refl _ _).alloc (Nat.le_refl _) _
 obtain⟨b0,b1⟩:=(Blk.new w 174 #[.int .i64 k,.int .i64 g]).two
 go_enter Tryz.func160,Tryz.ntmps160
 go_wp2
 go_ret
 exact⟨rfl,hB0⟩
theorem made_alike(k g:Int)(t:Int)(A:Option Addr)(cap:Nat)(xs:List Nd)(w:World)(hx:Nodes w w.heap.size A xs)(hl:xs.length≤1000000)(hp:(Way.alike k g).branches→0<xs.length)(hc:xs.length≤cap) :
  Calls Tryz.prog 86 #[(Way.alike k g).val,.int .i64 t,.slice A xs.length cap] w fun e w'=>e=.returned (.int .i64 (if(Way.alike k g).fits t xs then(Way.alike k g).gives t else -1))∧Below w.heap.size w w':=by
 have HF:=Lib.hid (fits_any (.alike k g) t A cap xs w hx hl hp hc)
 have HK:=Lib.hid (fun W=>kind_alike k g t W)
 clear hx
 generalize (Way.alike k g).fits t xs=y at *
 unfold Way.val at *
 have hm : ∀ n W, (method (n + 1) 174 (.agg #[.int .i64 k, .int .i64 g]) "offshoot/kinds.kind").run Tryz.prog W = .ok (160, .agg #[.int .i64 k, .int .i64 g]) W := fun n W => by kernel_rfl
 cases y with
 | false =>
  exact zKindsP4
 | true =>
  go_enter Tryz.func86,Tryz.ntmps86
  go_wp2_with (first
   | (go_at_call 103;refine HF.out.mono ?_;rintro e w1 ⟨rfl,hb1⟩)
   | (go_at_call 160;refine(HK.out _).mono ?_;rintro e w2 ⟨rfl,hb2⟩))
  go_ret
  exact⟨rfl,hb1.trans (hb2.mono hb1.size)⟩
theorem kind_elem(g:Int)(t:Int)(w:World):Calls Tryz.prog 162 #[.agg #[.int .i64 g],.int .i64 t] w fun e w'=>e=.returned (.int .i64 (g))∧Below w.heap.size w w':=by
 have hB0:Below w.heap.size w (w.alloc (.cells #[.int .i64 g] 177)):=(Below.refl _ _).alloc (Nat.le_refl _) _
 have b0:(w.alloc (.cells #[.int .i64 g] 177)).cell? ⟨w.heap.size,0,none⟩=some (.int .i64 g):=(Blk.new w 177 #[.int .i64 g]).cell 0
 go_enter Tryz.func162,Tryz.ntmps162
 go_wp2
 go_ret
 exact⟨rfl,hB0⟩
theorem made_elem(g:Int)(t:Int)(A:Option Addr)(cap:Nat)(xs:List Nd)(w:World)(hx:Nodes w w.heap.size A xs)(hl:xs.length≤1000000)(hp:(Way.elem g).branches→0<xs.length)(hc:xs.length≤cap) :
  Calls Tryz.prog 86 #[(Way.elem g).val,.int .i64 t,.slice A xs.length cap] w fun e w'=>e=.returned (.int .i64 (if(Way.elem g).fits t xs then(Way.elem g).gives t else -1))∧Below w.heap.size w w':=by
 have HF:=Lib.hid (fits_any (.elem g) t A cap xs w hx hl hp hc)
 have HK:=Lib.hid (fun W=>kind_elem g t W)
 clear hx
 generalize (Way.elem g).fits t xs=y at *
 unfold Way.val at *
 have hm : ∀ n W, (method (n + 1) 177 (.agg #[.int .i64 g]) "offshoot/kinds.kind").run Tryz.prog W = .ok (162, .agg #[.int .i64 g]) W := fun n W => by kernel_rfl
 cases y with
 | false =>
  exact zKindsP4
 | true =>
  go_enter Tryz.func86,Tryz.ntmps86
  go_wp2_with (first
   | (go_at_call 103;refine HF.out.mono ?_;rintro e w1 ⟨rfl,hb1⟩)
   | (go_at_call 162;refine(HK.out _).mono ?_;rintro e w2 ⟨rfl,hb2⟩))
  go_ret
  exact⟨rfl,hb1.trans (hb2.mono hb1.size)⟩
theorem kind_value(t:Int)(w:World):Calls Tryz.prog 161 #[.agg #[],.int .i64 t] w fun e w'=>e=.returned (.int .i64 (t))∧Below w.heap.size w w':=by
 have hB0:Below w.heap.size w (w.alloc (.cells #[] 175)):=(Below.refl _ _).alloc (Nat.le_refl _) _
 go_enter Tryz.func161,Tryz.ntmps161
 go_wp2
 go_ret
 exact⟨rfl,hB0⟩
theorem made_value(t:Int)(A:Option Addr)(cap:Nat)(xs:List Nd)(w:World)(hx:Nodes w w.heap.size A xs)(hl:xs.length≤1000000)(hp:(Way.value).branches→0<xs.length)(hc:xs.length≤cap) :
  Calls Tryz.prog 86 #[(Way.value).val,.int .i64 t,.slice A xs.length cap] w fun e w'=>e=.returned (.int .i64 (if(Way.value).fits t xs then(Way.value).gives t else -1))∧Below w.heap.size w w':=by
 have HF:=Lib.hid (fits_any (.value) t A cap xs w hx hl hp hc)
 have HK:=Lib.hid (fun W=>kind_value t W)
 clear hx
 generalize (Way.value).fits t xs=y at *
 unfold Way.val at *
 have hm : ∀ n W, (method (n + 1) 175 (.agg #[]) "offshoot/kinds.kind").run Tryz.prog W = .ok (161, .agg #[]) W := fun n W => by kernel_rfl
 cases y with
 | false =>
  exact zKindsP4
 | true =>
  go_enter Tryz.func86,Tryz.ntmps86
  go_wp2_with (first
   | (go_at_call 103;refine HF.out.mono ?_;rintro e w1 ⟨rfl,hb1⟩)
   | (go_at_call 161;refine(HK.out _).mono ?_;rintro e w2 ⟨rfl,hb2⟩))
  go_ret
  exact⟨rfl,hb1.trans (hb2.mono hb1.size)⟩
theorem kind_setting(t:Int)(w:World):Calls Tryz.prog 163 #[.agg #[],.int .i64 t] w fun e w'=>e=.returned (.int .i64 (2))∧Below w.heap.size w w':=by
 have hB0:Below w.heap.size w (w.alloc (.cells #[] 178)):=(Below.refl _ _).alloc (Nat.le_refl _) _
 go_enter Tryz.func163,Tryz.ntmps163
 go_wp2
 go_ret
 exact⟨rfl,hB0⟩
theorem made_setting(t:Int)(A:Option Addr)(cap:Nat)(xs:List Nd)(w:World)(hx:Nodes w w.heap.size A xs)(hl:xs.length≤1000000)(hp:(Way.setting).branches→0<xs.length)(hc:xs.length≤cap) :
  Calls Tryz.prog 86 #[(Way.setting).val,.int .i64 t,.slice A xs.length cap] w fun e w'=>e=.returned (.int .i64 (if(Way.setting).fits t xs then(Way.setting).gives t else -1))∧Below w.heap.size w w':=by
 have HF:=Lib.hid (fits_any (.setting) t A cap xs w hx hl hp hc)
 have HK:=Lib.hid (fun W=>kind_setting t W)
 clear hx
 generalize (Way.setting).fits t xs=y at *
 unfold Way.val at *
 have hm : ∀ n W, (method (n + 1) 178 (.agg #[]) "offshoot/kinds.kind").run Tryz.prog W = .ok (163, .agg #[]) W := fun n W => by kernel_rfl
 cases y with
 | false =>
  exact zKindsP4
 | true =>
  go_enter Tryz.func86,Tryz.ntmps86
  go_wp2_with (first
   | (go_at_call 103;refine HF.out.mono ?_;rintro e w1 ⟨rfl,hb1⟩)
   | (go_at_call 163;refine(HK.out _).mono ?_;rintro e w2 ⟨rfl,hb2⟩))
  go_ret
  exact⟨rfl,hb1.trans (hb2.mono hb1.size)⟩
theorem kind_branching(t:Int)(w:World):Calls Tryz.prog 164 #[.agg #[],.int .i64 t] w fun e w'=>e=.returned (.int .i64 (2))∧Below w.heap.size w w':=by
 have hB0:Below w.heap.size w (w.alloc (.cells #[] 179)):=(Below.refl _ _).alloc (Nat.le_refl _) _
 go_enter Tryz.func164,Tryz.ntmps164
 go_wp2
 go_ret
 exact⟨rfl,hB0⟩
theorem made_branching(t:Int)(A:Option Addr)(cap:Nat)(xs:List Nd)(w:World)(hx:Nodes w w.heap.size A xs)(hl:xs.length≤1000000)(hp:(Way.branching).branches→0<xs.length)(hc:xs.length≤cap) :
  Calls Tryz.prog 86 #[(Way.branching).val,.int .i64 t,.slice A xs.length cap] w fun e w'=>e=.returned (.int .i64 (if(Way.branching).fits t xs then(Way.branching).gives t else -1))∧Below w.heap.size w w':=by
 have HF:=Lib.hid (fits_any (.branching) t A cap xs w hx hl hp hc)
 have HK:=Lib.hid (fun W=>kind_branching t W)
 clear hx
 generalize (Way.branching).fits t xs=y at *
 unfold Way.val at *
 have hm : ∀ n W, (method (n + 1) 179 (.agg #[]) "offshoot/kinds.kind").run Tryz.prog W = .ok (164, .agg #[]) W := fun n W => by kernel_rfl
 cases y with
 | false =>
  exact zKindsP4
 | true =>
  go_enter Tryz.func86,Tryz.ntmps86
  go_wp2_with (first
   | (go_at_call 103;refine HF.out.mono ?_;rintro e w1 ⟨rfl,hb1⟩)
   | (go_at_call 164;refine(HK.out _).mono ?_;rintro e w2 ⟨rfl,hb2⟩))
  go_ret
  exact⟨rfl,hb1.trans (hb2.mono hb1.size)⟩
theorem made_any(W:Way)(t:Int)(A:Option Addr)(cap:Nat)(xs:List Nd)(w:World)(hx:Nodes w w.heap.size A xs)(hl:xs.length≤1000000)(hp:W.branches→0<xs.length)(hc:xs.length≤cap) :
  Calls Tryz.prog 86 #[W.val,.int .i64 t,.slice A xs.length cap] w fun e w'=>e=.returned (.int .i64 (if W.fits t xs then W.gives t else -1))∧Below w.heap.size w w':=by
 cases W with
 | alike k g=>exact made_alike k g t A cap xs w hx hl hp hc
 | elem g=>exact made_elem g t A cap xs w hx hl hp hc
 | value=>exact made_value t A cap xs w hx hl hp hc
 | setting=>exact made_setting t A cap xs w hx hl hp hc
 | branching=>exact made_branching t A cap xs w hx hl hp hc
def cls(t:Int):Way :=
 if t=2 then .alike 0 1 else if t=3 then .value else if t=4 then .elem 0 else if t=6 then .alike 1 1
 else if 12≤t∧t≤17 then .alike 0 1 else if t=18∨t=19 then .alike 1 1 else if t=20 then .alike 2 2
 else if t=21 then .setting else if t=22 then .elem 2 else if t=23∨t=24 then .branching
 else if t=25∨t=26 then .alike 0 2 else .alike 0 0
theorem way_cls(t:Nat)(h1:1≤t)(h2:t≤26):wayOf t=(cls t).val:=by
 exact zKindsP6
def sw(y:Int×Int):Nd:=(y.2,y.1)
theorem ar_tag{x:Nd}(h:0≤ar x):1≤x.1∧x.1≤26:=by
 unfold ar asks at h
 by_cases h1:x.1=1
 ·omega
 rw [if_neg h1] at h
 split at h
 ·omega
 ·rename_i hq
  revert h hq
  repeat' split
  all_goals (intros;omega)
theorem ar_asks{x:Nd}(h:0≤ar x):ar x=if x.1=1 then 0 else(asks x.1 x.2).1:=by
 unfold ar at *
 by_cases h1:x.1=1
 ·rw [if_pos h1,if_pos h1]
 ·rw [if_neg h1] at h ⊢
  rw [if_neg h1]
  split at h
  ·omega
  ·rename_i hq;rw [if_neg hq]
theorem if_same{p q:Prop} [Decidable p] [Decidable q](h:p↔q)(a b:Int):(if p then a else b)=if q then a else b:=by
 by_cases hp:p
 ·rw [if_pos hp,if_pos (h.1 hp)]
 ·rw [if_neg hp,if_neg (fun hq=>hp (h.2 hq))]
theorem len0{ks:List (Int×Int)}(h:ks.length=0):ks=[]:=List.length_eq_zero_iff.1 h
theorem len1{ks:List (Int×Int)}(h:ks.length=1):∃ a,ks=[a]:=List.length_eq_one_iff.1 h
theorem len2{ks:List (Int×Int)}(h:ks.length=2):∃ a b,ks=[a,b]:=by
 match ks,h with
 | [a,b],_=>exact⟨a,b,rfl⟩
theorem len3{ks:List (Int×Int)}(h:ks.length=3):∃ a b c,ks=[a,b,c]:=by
 match ks,h with
 | [a,b,c],_=>exact⟨a,b,c,rfl⟩
theorem rule_1(vs:List Int)(n:Int)(ks:List (Int×Int))(hl:ks.length=0):rule vs (1,n) ks=if(cls 1).fits (vtyp vs n) (ks.map sw).reverse then(cls 1).gives (vtyp vs n) else -1:=by
 obtain rfl:=len0 hl
 exact zKindsP3
theorem rule_2(vs:List Int)(n:Int)(ks:List (Int×Int))(hl:ks.length=0):rule vs (2,n) ks=if(cls 2).fits (vtyp vs n) (ks.map sw).reverse then(cls 2).gives (vtyp vs n) else -1:=by
 obtain rfl:=len0 hl
 exact zKindsP3
theorem rule_3(vs:List Int)(n:Int)(ks:List (Int×Int))(hl:ks.length=0):rule vs (3,n) ks=if(cls 3).fits (vtyp vs n) (ks.map sw).reverse then(cls 3).gives (vtyp vs n) else -1:=by
 obtain rfl:=len0 hl
 exact zKindsP3
theorem rule_4(vs:List Int)(n:Int)(ks:List (Int×Int))(hl:ks.length=1):rule vs (4,n) ks=if(cls 4).fits (vtyp vs n) (ks.map sw).reverse then(cls 4).gives (vtyp vs n) else -1:=by
 exact zKindsP8
theorem rule_5(vs:List Int)(n:Int)(ks:List (Int×Int))(hl:ks.length=1):rule vs (5,n) ks=if(cls 5).fits (vtyp vs n) (ks.map sw).reverse then(cls 5).gives (vtyp vs n) else -1:=by
 exact zKindsP8
theorem rule_6(vs:List Int)(n:Int)(ks:List (Int×Int))(hl:ks.length=1):rule vs (6,n) ks=if(cls 6).fits (vtyp vs n) (ks.map sw).reverse then(cls 6).gives (vtyp vs n) else -1:=by
 exact zKindsP8
theorem rule_7(vs:List Int)(n:Int)(ks:List (Int×Int))(hl:ks.length=2):rule vs (7,n) ks=if(cls 7).fits (vtyp vs n) (ks.map sw).reverse then(cls 7).gives (vtyp vs n) else -1:=by
 exact zKindsP0
theorem rule_8(vs:List Int)(n:Int)(ks:List (Int×Int))(hl:ks.length=2):rule vs (8,n) ks=if(cls 8).fits (vtyp vs n) (ks.map sw).reverse then(cls 8).gives (vtyp vs n) else -1:=by
 exact zKindsP0
theorem rule_9(vs:List Int)(n:Int)(ks:List (Int×Int))(hl:ks.length=2):rule vs (9,n) ks=if(cls 9).fits (vtyp vs n) (ks.map sw).reverse then(cls 9).gives (vtyp vs n) else -1:=by
 exact zKindsP0
theorem rule_10(vs:List Int)(n:Int)(ks:List (Int×Int))(hl:ks.length=2):rule vs (10,n) ks=if(cls 10).fits (vtyp vs n) (ks.map sw).reverse then(cls 10).gives (vtyp vs n) else -1:=by
 exact zKindsP0
theorem rule_11(vs:List Int)(n:Int)(ks:List (Int×Int))(hl:ks.length=2):rule vs (11,n) ks=if(cls 11).fits (vtyp vs n) (ks.map sw).reverse then(cls 11).gives (vtyp vs n) else -1:=by
 exact zKindsP0
theorem rule_12(vs:List Int)(n:Int)(ks:List (Int×Int))(hl:ks.length=2):rule vs (12,n) ks=if(cls 12).fits (vtyp vs n) (ks.map sw).reverse then(cls 12).gives (vtyp vs n) else -1:=by
 exact zKindsP0
theorem rule_13(vs:List Int)(n:Int)(ks:List (Int×Int))(hl:ks.length=2):rule vs (13,n) ks=if(cls 13).fits (vtyp vs n) (ks.map sw).reverse then(cls 13).gives (vtyp vs n) else -1:=by
 exact zKindsP0
theorem rule_14(vs:List Int)(n:Int)(ks:List (Int×Int))(hl:ks.length=2):rule vs (14,n) ks=if(cls 14).fits (vtyp vs n) (ks.map sw).reverse then(cls 14).gives (vtyp vs n) else -1:=by
 exact zKindsP0
theorem rule_15(vs:List Int)(n:Int)(ks:List (Int×Int))(hl:ks.length=2):rule vs (15,n) ks=if(cls 15).fits (vtyp vs n) (ks.map sw).reverse then(cls 15).gives (vtyp vs n) else -1:=by
 exact zKindsP0
theorem rule_16(vs:List Int)(n:Int)(ks:List (Int×Int))(hl:ks.length=2):rule vs (16,n) ks=if(cls 16).fits (vtyp vs n) (ks.map sw).reverse then(cls 16).gives (vtyp vs n) else -1:=by
 exact zKindsP0
theorem rule_17(vs:List Int)(n:Int)(ks:List (Int×Int))(hl:ks.length=2):rule vs (17,n) ks=if(cls 17).fits (vtyp vs n) (ks.map sw).reverse then(cls 17).gives (vtyp vs n) else -1:=by
 exact zKindsP0
theorem rule_18(vs:List Int)(n:Int)(ks:List (Int×Int))(hl:ks.length=2):rule vs (18,n) ks=if(cls 18).fits (vtyp vs n) (ks.map sw).reverse then(cls 18).gives (vtyp vs n) else -1:=by
 exact zKindsP0
theorem rule_19(vs:List Int)(n:Int)(ks:List (Int×Int))(hl:ks.length=2):rule vs (19,n) ks=if(cls 19).fits (vtyp vs n) (ks.map sw).reverse then(cls 19).gives (vtyp vs n) else -1:=by
 exact zKindsP0
theorem rule_21(vs:List Int)(n:Int)(ks:List (Int×Int))(hl:ks.length=1):rule vs (21,n) ks=if(cls 21).fits (vtyp vs n) (ks.map sw).reverse then(cls 21).gives (vtyp vs n) else -1:=by
 exact zKindsP8
theorem rule_22(vs:List Int)(n:Int)(ks:List (Int×Int))(hl:ks.length=2):rule vs (22,n) ks=if(cls 22).fits (vtyp vs n) (ks.map sw).reverse then(cls 22).gives (vtyp vs n) else -1:=by
 exact zKindsP0
theorem rule_23(vs:List Int)(n:Int)(ks:List (Int×Int))(hl:ks.length=3):rule vs (23,n) ks=if(cls 23).fits (vtyp vs n) (ks.map sw).reverse then(cls 23).gives (vtyp vs n) else -1:=by
 obtain⟨a,b,c,rfl⟩:=len3 hl
 obtain⟨a1,a2⟩:=a
 obtain⟨b1,b2⟩:=b
 obtain⟨c1,c2⟩:=c
 exact zKindsP3
theorem rule_24(vs:List Int)(n:Int)(ks:List (Int×Int))(hl:ks.length=2):rule vs (24,n) ks=if(cls 24).fits (vtyp vs n) (ks.map sw).reverse then(cls 24).gives (vtyp vs n) else -1:=by
 exact zKindsP0
theorem rule_25(vs:List Int)(n:Int)(ks:List (Int×Int))(hl:ks.length=1):rule vs (25,n) ks=if(cls 25).fits (vtyp vs n) (ks.map sw).reverse then(cls 25).gives (vtyp vs n) else -1:=by
 exact zKindsP8
theorem rule_26(vs:List Int)(n:Int)(ks:List (Int×Int))(hl:ks.length=0):rule vs (26,n) ks=if(cls 26).fits (vtyp vs n) (ks.map sw).reverse then(cls 26).gives (vtyp vs n) else -1:=by
 obtain rfl:=len0 hl
 exact zKindsP3
theorem rule_20(vs:List Int)(n:Int)(ks:List (Int×Int)):rule vs (20,n) ks=if(cls 20).fits (vtyp vs n) (ks.map sw).reverse then(cls 20).gives (vtyp vs n) else -1:=by
 have e:((ks.map sw).reverse.all fun x=>x.2==2)=alltwo (ks.map Prod.fst):=by
  rw [List.all_reverse]
  unfold alltwo
  rw [List.all_map,List.all_map]
  rfl
 have c:cls 20=.alike 2 2:=by simp [cls]
 rw [c]
 unfold Way.fits Way.gives
 simp only [e]
 simp [rule,ifso]
theorem rule_cls(vs:List Int)(x:Nd)(ks:List (Int×Int))(hx:0≤ar x)(hl:ks.length=(ar x).toNat) :
  rule vs x ks=if(cls x.1).fits (vtyp vs x.2) (ks.map sw).reverse then(cls x.1).gives (vtyp vs x.2) else -1:=by
 obtain⟨h1,h2⟩:=ar_tag hx
 rw [ar_asks hx] at hl
 obtain⟨t,n⟩:=x
 simp only at h1 h2 hl ⊢
 rcases (show t=1∨t=2∨t=3∨t=4∨t=5∨t=6∨t=7∨t=8∨t=9∨t=10∨t=11∨t=12∨t=13∨t=14∨t=15∨t=16∨t=17∨t=18∨t=19∨t=20∨t=21∨t=22∨t=23∨t=24∨t=25∨t=26 by omega) with rfl | rfl | rfl | rfl | rfl | rfl | rfl | rfl | rfl | rfl | rfl | rfl | rfl | rfl | rfl | rfl | rfl | rfl | rfl | rfl | rfl | rfl | rfl | rfl | rfl | rfl
 ·exact rule_1 vs n ks (by rw [hl];simp [asks])
 ·exact rule_2 vs n ks (by rw [hl];simp [asks])
 ·exact rule_3 vs n ks (by rw [hl];simp [asks])
 ·exact rule_4 vs n ks (by rw [hl];simp [asks])
 ·exact rule_5 vs n ks (by rw [hl];simp [asks])
 ·exact rule_6 vs n ks (by rw [hl];simp [asks])
 ·exact rule_7 vs n ks (by rw [hl];simp [asks])
 ·exact rule_8 vs n ks (by rw [hl];simp [asks])
 ·exact rule_9 vs n ks (by rw [hl];simp [asks])
 ·exact rule_10 vs n ks (by rw [hl];simp [asks])
 ·exact rule_11 vs n ks (by rw [hl];simp [asks])
 ·exact rule_12 vs n ks (by rw [hl];simp [asks])
 ·exact rule_13 vs n ks (by rw [hl];simp [asks])
 ·exact rule_14 vs n ks (by rw [hl];simp [asks])
 ·exact rule_15 vs n ks (by rw [hl];simp [asks])
 ·exact rule_16 vs n ks (by rw [hl];simp [asks])
 ·exact rule_17 vs n ks (by rw [hl];simp [asks])
 ·exact rule_18 vs n ks (by rw [hl];simp [asks])
 ·exact rule_19 vs n ks (by rw [hl];simp [asks])
 ·exact rule_20 vs n ks
 ·exact rule_21 vs n ks (by rw [hl];simp [asks])
 ·exact rule_22 vs n ks (by rw [hl];simp [asks])
 ·exact rule_23 vs n ks (by rw [hl];simp [asks])
 ·exact rule_24 vs n ks (by rw [hl];simp [asks])
 ·exact rule_25 vs n ks (by rw [hl];simp [asks])
 ·exact rule_26 vs n ks (by rw [hl];simp [asks])
theorem fold_stk{β:Type}(f:Nd→List β→β):∀ X:List Nd,(fold f X).length=(stk X).length
 | []=>rfl
 | x::X=>by rw [fold_cons,stk,List.length_cons,List.length_cons,List.length_drop,List.length_drop,fold_stk f X]
def prow(vs:List Int)(X:List Nd):List Nd:=((fold (kd vs) X).map sw).reverse
theorem prow_len(vs:List Int)(X:List Nd):(prow vs X).length=(fold (kd vs) X).length:=by unfold prow;rw [List.length_reverse,List.length_map]
theorem prow_le(vs:List Int)(X:List Nd):(prow vs X).length≤X.length:=by rw [prow_len,fold_stk];exact stk_len X
theorem prow_cons(vs:List Int)(x:Nd)(X:List Nd)(o m:Nat)(h0:0≤ar x)(hm:(ar x).toNat=m)(ho:(prow vs X).length=o+m) :
  prow vs (x::X)=(prow vs X).take o++[(x.1,if(cls x.1).fits (vtyp vs x.2) ((prow vs X).drop o) then(cls x.1).gives (vtyp vs x.2) else -1)]:=by
 rw [prow_len] at ho
 have hd:(prow vs X).drop o=(((fold (kd vs) X).take m).map sw).reverse:=by
  unfold prow
  rw [List.drop_reverse,List.length_map,ho,Nat.add_sub_cancel_left,List.map_take]
 have ht:(prow vs X).take o=(((fold (kd vs) X).drop m).map sw).reverse:=by
  unfold prow
  rw [List.take_reverse,List.length_map,ho,Nat.add_sub_cancel_left,List.map_drop]
 have hr:=rule_cls vs x ((fold (kd vs) X).take m) h0 (by rw [List.length_take];omega)
 rw [hd,ht,← hr]
 unfold prow
 rw [fold_cons,hm,List.map_cons,List.reverse_cons]
 rfl
theorem prow_whole{vs:List Int}{l:List Nd}{k n:Nat}(h:scan 1 (l.drop k)=some n):prow vs ((l.drop k).take n)=[(otag l k,okind vs l k)]:=by
 have hp:=fold_part (kd vs) (-1,0) h
 have e:apart l (k:Int)=(l.drop k).take n:=by
  unfold apart
  rw [if_neg (by rw [aend_some h];omega),aend_some h,Int.toNat_natCast,show((k:Int)+n).toNat-k=n by omega]
 unfold prow
 rw [← e,hp,val_tag h]
 rfl
theorem prow_enough{vs:List Int}{l:List Nd}{k n:Nat}(h:scan 1 (l.drop k)=some n)(t:Nat)(ht:t<n):∃ x,l[k+t]? = some x∧0≤ar x∧((l.drop k).take n).drop t=x::((l.drop k).take n).drop (t+1)∧(ar x).toNat≤(prow vs (((l.drop k).take n).drop (t+1))).length:=by
 obtain⟨x,h1,h2,h3,h4⟩:=stk_enough h t ht
 exact⟨x,h1,h2,h3,by rw [prow_len,fold_stk];exact h4⟩
theorem cls_branches{x:Nd}(h:0≤ar x):(cls x.1).branches→0<(ar x).toNat:=by
 intro hb
 have h23:x.1=23∨x.1=24:=by
  obtain⟨h1,h2⟩:=ar_tag h
  obtain⟨t,n⟩:=x
  simp only at *
  revert hb
  unfold cls
  repeat' split
  all_goals first
   | (intro hb;omega)
   | (intro hb;exact hb.elim)
 rw [ar_asks h]
 rcases h23 with q | q<;>rw [q]<;>simp [asks]
theorem info_part:(Tryz.prog.info? 162).map (fun i=>(i.zero,i.size,i.bytes))=some (some (.agg #[.int .i64 0,.int .i64 0]),2,16):=by kernel_rfl
theorem own_take2{w:World}{base:Nat}{e:TypeId}{g n cap:Nat}{D:List Nd}(h:w.ownsRow base e 2 (.slice (some ⟨g,0,none⟩) n cap) n (ncells D))(k:Nat)(hk:k≤n):w.ownsRow base e 2 (.slice (some ⟨g,0,none⟩) k cap) k (ncells (D.take k)):=by
 obtain⟨hl,h⟩:=h
 rw [ncells_len] at hl
 have hnt:∀ (D:List Nd) k,ncells (D.take k)=(ncells D).take (k*2):=by
  intro D
  induction D with
  | nil=>intro k;simp [ncells]
  | cons x D ih =>
   intro k
   cases k with
   | zero=>simp [ncells]
   | succ k =>
    rw [List.take_succ_cons,show ncells (x::D.take k)=.int .i64 x.1::.int .i64 x.2::ncells (D.take k) from rfl,show ncells (x::D)=.int .i64 x.1::.int .i64 x.2::ncells D from rfl,ih,show(k+1)*2=k*2+1+1 by omega,List.take_succ_cons,List.take_succ_cons]
 rcases h with⟨h,-⟩ | ⟨g',cap',cur,h',hb,hg,hnc,hcm,hcs,htake⟩
 ·cases h
 ·simp only [Value.slice.injEq,Option.some.injEq,Addr.mk.injEq,and_true,true_and] at h'
  obtain⟨rfl,rfl⟩:=h'
  refine⟨by rw [ncells_len,List.length_take];omega,.inr ⟨g,cap,cur,rfl,hb,hg,by omega,hcm,hcs,?_⟩⟩
  rw [hnt,← htake,List.take_take]
  congr 1
  omega
theorem own_cap2{w:World}{base:Nat}{e:TypeId}{s g n cap:Nat}{cs:List Value}(h:w.ownsRow base e s (.slice (some ⟨g,0,none⟩) n cap) n cs):n≤cap:=by
 rcases h.2 with⟨h,-⟩ | ⟨g',cap',cur,h',hb,hg,hnc,-⟩
 ·cases h
 ·simp only [Value.slice.injEq,Option.some.injEq,Addr.mk.injEq,and_true,true_and] at h'
  obtain⟨rfl,rfl⟩:=h'
  exact hnc
theorem own_tail2{w:World}{base:Nat}{e:TypeId}{g n cap:Nat}{D:List Nd}(h:w.ownsRow base e 2 (.slice (some ⟨g,0,none⟩) n cap) n (ncells D))(o:Nat):Nodes w w.heap.size (some ⟨g,o*2,none⟩) (D.drop o):=by
 have hg:g<w.heap.size:=(h.lt g rfl).2
 have hc:=h.cells (g:=g) rfl
 have key:∀ j u,(ncells D)[j]? = some u→w.cell? ⟨g,j,none⟩=some u:=by
  intro j u hu
  have q:=hc j u hu
  by_cases hj:j=0
  ·subst hj;simpa [Addr.add] using q
  ·rw [add_off _ _ (by omega)] at q;simpa using q
 intro i x hx
 rw [List.getElem?_drop] at hx
 obtain⟨q1,q2⟩:=ncells_get D (o+i) x hx
 refine⟨_,rfl,hg,?_,?_⟩
 ·rw [show((⟨g,o*2,none⟩:Addr).add (i*2))=⟨g,(o+i)*2,none⟩ from by
   by_cases hi:i=0
   ·subst hi;simp [Addr.add]
   ·rw [add_off _ _ (by omega)];simp;omega]
  exact key _ _ q1
 ·rw [show((⟨g,o*2,none⟩:Addr).add (i*2))=⟨g,(o+i)*2,none⟩ from by
   by_cases hi:i=0
   ·subst hi;simp [Addr.add]
   ·rw [add_off _ _ (by omega)];simp;omega]
  exact key _ _ q2
theorem ncells_snoc(D:List Nd)(x:Nd):ncells D++[.int .i64 x.1,.int .i64 x.2]=ncells (D++[x]):=by rw [ncells_append];rfl
end Go.Proofs.YtekogckmgkodfaaGreatDoor.Kinds
namespace Go.Proofs.YtekogckmgkodfaaGreatDoor.Kinds
open Go.RowKit Mem Arena
attribute [local go_sem ↓] Go.wp_at_zero Go.wp_at_succ
theorem Of_bad(p:Prg)(a:Int)(w:World)(hp:p.Ok w)(he:aend p.xs a = -1) :
  Calls Tryz.prog 48 #[.agg #[.int .i64 p.ps,.slice p.A p.vs.length p.c,.slice p.B p.xs.length p.e],.int .i64 a] w fun e w'=>e=.returned (.int .i64 (okind p.vs p.xs a))∧Below w.heap.size w w':=by
 have hB0:Below w.heap.size w (w.alloc (.cells #[.int .i64 p.ps,.slice p.A p.vs.length p.c,.slice p.B p.xs.length p.e] 25)):=(Below.refl _ _).alloc (Nat.le_refl _) _
 obtain⟨b0,b1,b2⟩:=(Blk.new w 25 #[.int .i64 p.ps,.slice p.A p.vs.length p.c,.slice p.B p.xs.length p.e]).three
 have HE:=Lib.hid (End_any p.B p.e p.xs a _ (hp.at hB0).body hp.lx)
 rw [okind_bad (by omega)]
 rw [he] at HE
 clear he hp
 go_enter Tryz.func48,Tryz.ntmps48
 go_wp2_with (go_at_call 47;refine HE.out.mono ?_;rintro e w1 ⟨rfl,hb1⟩)
 go_ret
 exact⟨rfl,hB0.trans (hb1.mono hB0.size)⟩
theorem Of_good(ps:Int)(A:Option Addr)(c:Nat)(vs:List Int)(ad:Addr)(ce:Nat)(xs:List Nd)(k n:Nat)(w:World)(hp:Prg.Ok ⟨ps,A,c,vs,some ad,ce,xs⟩ w)(hs:scan 1 (xs.drop k)=some n) :
  Calls Tryz.prog 48 #[.agg #[.int .i64 ps,.slice A vs.length c,.slice (some ad) xs.length ce],.int .i64 (k:Int)] w fun e w'=>e=.returned (.int .i64 (okind vs xs k))∧Below w.heap.size w w':=by
 have hB0:Below w.heap.size w (w.alloc (.cells #[.int .i64 ps,.slice A vs.length c,.slice (some ad) xs.length ce] 25)):=(Below.refl _ _).alloc (Nat.le_refl _) _
 have bX:=Blk.new w 25 #[.int .i64 ps,.slice A vs.length c,.slice (some ad) xs.length ce]
 have hgl:=bX.lt
 have hX:=hp.at hB0
 have hlx:xs.length≤1000000:=hp.lx
 have hlv:vs.length≤1000000:=hp.lv
 have HBX:=Lib.hid (fun W (h:Below (w.alloc (.cells #[.int .i64 ps,.slice A vs.length c,.slice (some ad) xs.length ce] 25)).heap.size (w.alloc (.cells #[.int .i64 ps,.slice A vs.length c,.slice (some ad) xs.length ce] 25)) W)=>(bX.below h hgl).three)
 have HNB:=Lib.hid (fun W (h:Below (w.alloc (.cells #[.int .i64 ps,.slice A vs.length c,.slice (some ad) xs.length ce] 25)).heap.size (w.alloc (.cells #[.int .i64 ps,.slice A vs.length c,.slice (some ad) xs.length ce] 25)) W)=>(hX.at h).body)
 have HNV:=Lib.hid (fun W (h:Below (w.alloc (.cells #[.int .i64 ps,.slice A vs.length c,.slice (some ad) xs.length ce] 25)).heap.size (w.alloc (.cells #[.int .i64 ps,.slice A vs.length c,.slice (some ad) xs.length ce] 25)) W)=>(hX.at h).vars)
 have he:=aend_some hs
 have HE:=Lib.hid (show Calls Tryz.prog 47 #[.slice (some ad) xs.length ce,.int .i64 (k:Int)] (w.alloc (.cells #[.int .i64 ps,.slice A vs.length c,.slice (some ad) xs.length ce] 25)) (fun e w'=>e=.returned (.int .i64 ((k:Int)+n))∧Below (w.alloc (.cells #[.int .i64 ps,.slice A vs.length c,.slice (some ad) xs.length ce] 25)).heap.size (w.alloc (.cells #[.int .i64 ps,.slice A vs.length c,.slice (some ad) xs.length ce] 25)) w') from by
  have q:=End_any (some ad) ce xs k (w.alloc (.cells #[.int .i64 ps,.slice A vs.length c,.slice (some ad) xs.length ce] 25)) hX.body hlx
  rw [he] at q
  exact q)
 have hle:=scan_le _ _ _ hs
 rw [List.length_drop] at hle
 have hne:((k:Int)+(n:Int) == -1)=false:=by rw [beq_eq_false_iff_ne];omega
 have hlX:((xs.drop k).take n).length=n:=by rw [List.length_take,List.length_drop];omega
 have HW:=Lib.hid (prow_whole (vs:=vs) hs)
 have HEN:=Lib.hid (fun t ht=>prow_enough (vs:=vs) hs t ht)
 obtain⟨X,hX'⟩:∃ X,(xs.drop k).take n=X:=⟨_,rfl⟩
 rw [hX'] at HW HEN hlX
 have v0:IntKind.i64.wrap ((k:Int)+(n:Int)-1)=(k:Int)+(n:Int)-1:=IntWalk.i64_in _ (by omega)
 obtain⟨ig,hig,hz0,hz1,hz2⟩:=info_parts info_part
 have HWY:=Lib.hid (fun W=>ways_any W)
 obtain⟨b0,b1,b2⟩:=HBX.out _ (Below.refl _ _)
 clear he hs hX' hp hX bX
 go_enter Tryz.func48,Tryz.ntmps48
 go_wp2_with (first
  | (go_at_call 47;refine HE.out.mono ?_;rintro e w1 ⟨rfl,hb1⟩)
  | (go_at_call 85;refine(HWY.out _).mono ?_;rintro e wz ⟨b,rfl,hblt,hmap,hb2⟩;have hB2:=hb1.trans (hb2.mono hb1.size);obtain⟨b0,b1,b2⟩:=HBX.out _ hB2))
 have HMAP:=Lib.hid (show ∀ W,Below wz.heap.size wz W→W.ownsMap Tryz.prog 3 itself b 26 table from fun W h=>by
  obtain⟨es,clock,q1,q2,q3,q4⟩:=hmap
  exact⟨es,clock,(h.block b hblt).trans q1,q2,q3,q4⟩)
 clear hmap hb1 hb2
 go_loopw [7,8] (fun v i wr=>∃ r:Nat,r≤n∧i=.int .i64 ((k:Int)+(r:Int)-1)∧wr.ownsRow wz.heap.size 162 2 v (prow vs (X.drop r)).length (ncells (prow vs (X.drop r)))∧Below wz.heap.size wz wr) (fun _ i _=>(intOf i+1-k).toNat)
 case atStart=>exact⟨n,by omega,rfl,by rw [List.drop_eq_nil_of_le (by omega)];exact World.ownsRow_nil _ _ _ _,Below.refl _ _⟩
 case round =>
  obtain⟨r,hr,rfl,hO,hB⟩:=hrel
  rcases r with _ | t
  ·have j1:(k:Int)+((0:Nat):Int)-1<(k:Int):=by omega
   rw [List.drop_zero,HW.out] at hO
   obtain⟨g,c',rfl,-⟩:=hO.form (by simp)
   have hc:=hO.cellAt 1 (by simp)
   rw [show(ncells [(otag xs k,okind vs xs k)])[1]? = some (.int .i64 (okind vs xs k)) from rfl] at hc
   obtain⟨d,hd⟩:∃ d,okind vs xs k=d:=⟨_,rfl⟩
   rw [hd] at hc
   have HD:=Lib.hid hd
   clear hd
   have j2:(k:Int)+(0:Int)-1<(k:Int):=by omega
   rw [show([(otag xs k,okind vs xs k)]:List Nd).length=1 from rfl]
   rw [show(k:Int)+((0:Nat):Int)-1=(k:Int)+(0:Int)-1 by omega]
   go_wp2
   go_ret
   exact⟨by rw [HD.out];rfl,hB0.trans ((hB2.trans (hB.mono hB2.size)).mono hB0.size)⟩
  ·obtain⟨⟨tt,nn⟩,hxk,hx0,hd,hen⟩:=HEN.out t (by omega)
   obtain⟨tq1,tq2⟩:=ar_tag hx0
   simp only at tq1 tq2
   obtain⟨tn,rfl⟩:=Int.eq_ofNat_of_zero_le (show 0≤tt by omega)
   have ht1:1≤tn:=by omega
   have ht2:tn≤26:=by omega
   obtain⟨m,hm⟩:=Int.eq_ofNat_of_zero_le hx0
   have hBr:=hB2.trans (hB.mono hB2.size)
   obtain⟨ad',hq,hbk,h0',h1'⟩:=HNB.out _ hBr (k+t) _ hxk
   cases hq
   obtain⟨b0,b1,b2⟩:=HBX.out _ hBr
   have hi:(k:Int)+((t+1:Nat):Int)-1=((k+t:Nat):Int):=by omega
   rw [hi]
   have hnext:((k+t:Nat):Int)-1=(k:Int)+(t:Int)-1:=by omega
   have v5:IntKind.i64.wrap (((k+t:Nat):Int)-1)=(k:Int)+(t:Int)-1:=by rw [hnext];exact IntWalk.i64_in _ (by omega)
   have j1:(k:Int)≤((k+t:Nat):Int):=by omega
   have j2:(0:Int)≤((k+t:Nat):Int):=by omega
   have j3:((k+t:Nat):Int)<(xs.length:Int):=by omega
   have hlS:=prow_le vs (X.drop (t+1))
   rw [List.length_drop,hlX] at hlS
   rw [hm,Int.toNat_natCast] at hen
   obtain⟨o,ho⟩:∃ o,(prow vs (X.drop (t+1))).length=o+m:=⟨(prow vs (X.drop (t+1))).length-m,by omega⟩
   have hst:=prow_cons vs ((tn:Int),nn) (X.drop (t+1)) o m hx0 (by rw [hm,Int.toNat_natCast]) ho
   rw [← hd] at hst
   have hbr:=cls_branches hx0
   rw [hm,Int.toNat_natCast] at hbr
   simp only at hst hbr
   generalize hDD:prow vs (X.drop (t+1))=D at *
   have hND:D.length=o+m:=ho
   rw [hND] at hO
   have HA:=Lib.hid (show ∀ W,Calls Tryz.prog 49 #[.agg #[.int .i64 (tn:Int),.int .i64 nn]] W (fun e w'=>e=.returned (.int .i64 (m:Int))∧Below W.heap.size W w') from fun W=>by
    have q:=Arity_any tn nn W
    rw [hm] at q
    exact q)
   have HTY:=Lib.hid (show ∀ W,IRow W W.heap.size A vs→Calls Tryz.prog 87 #[.slice A vs.length c,.int .i64 nn] W (fun e w'=>e=.returned (.int .i64 (vtyp vs nn))∧Below W.heap.size W w') from fun W h=>(typeOf_any A c vs nn W h hlv).mono (fun e w' h=>⟨h.1,h.2▸Below.refl _ _⟩))
   have HM:=Lib.hid (show ∀ (W:World) A' c',Nodes W W.heap.size A' (D.drop o)→m≤c'→Calls Tryz.prog 86 #[wayOf tn,.int .i64 (vtyp vs nn),.slice A' m c'] W (fun e w'=>e=.returned (.int .i64 (if(cls tn).fits (vtyp vs nn) (D.drop o) then(cls tn).gives (vtyp vs nn) else -1))∧Below W.heap.size W w') from fun W A' c' h h'=>by
    have hl:(D.drop o).length=m:=by rw [List.length_drop,hND];omega
    have q:=made_any (cls tn) (vtyp vs nn) A' c' (D.drop o) W h (by omega) (fun hb=>by rw [hl];exact hbr hb) (by omega)
    rw [hl,← way_cls tn ht1 ht2] at q
    exact q)
   have v6:IntKind.i64.wrap (((o+m:Nat):Int)-(m:Int))=(o:Int):=by rw [IntWalk.i64_in _ (by omega)];omega
   generalize vtyp vs nn=ty at *
   generalize (if(cls tn).fits ty (D.drop o) then(cls tn).gives ty else -1)=M at *
   have HF:=Lib.hid (show ∀ (W:World) v,W.ownsRow wz.heap.size 162 2 v (o+1) (ncells (D.take o)++[.int .i64 (tn:Int),.int .i64 M])→W.ownsRow wz.heap.size 162 2 v (prow vs (X.drop t)).length (ncells (prow vs (X.drop t))) from fun W v h=>by
    have hlen:(prow vs (X.drop t)).length=o+1:=by rw [hst,List.length_append,List.length_take,hND];simp
    rw [hlen,hst,← ncells_snoc]
    exact h)
   have HT:=Lib.hid (show ∀ (W:World) g c,W.ownsRow wz.heap.size 162 2 (.slice (some ⟨g,0,none⟩) (o+m) c) (o+m) (ncells D)→W.ownsRow wz.heap.size 162 2 (.slice (some ⟨g,0,none⟩) o c) o (ncells (D.take o)) from fun W g c h=>own_take2 h o (by omega))
   have hOa:=hO.alloc (.cells #[.int .i64 (tn:Int),.int .i64 nn] 105)
   have hBa:=hB.alloc hB.size (.cells #[.int .i64 (tn:Int),.int .i64 nn] 105)
   have bY:=Blk.new wr 105 #[.int .i64 (tn:Int),.int .i64 nn]
   obtain⟨y0,y1⟩:=bY.two
   clear hst hDD hd hxk hx0 hm hen hnext hi hbr tq1 tq2
   have hO1:=hO
   rcases hO.2 with⟨hv,hz⟩ | ⟨g,c',cur,hv,-⟩
   ·obtain rfl:o=0:=by omega
    obtain rfl:m=0:=by omega
    subst hv
    have hD0:D=[]:=List.length_eq_zero_iff.1 (by omega)
    subst hD0
    have hI:∀ (W:World) A,Nodes W W.heap.size A (([]:List Nd).drop 0):=fun W A i x h=>by simp at h
    replace HT:=Lib.hid (show ∀ (W:World) (u:Nat),W.ownsRow wz.heap.size 162 2 (.slice none 0 0) 0 (ncells (([]:List Nd).take 0)) from fun W _=>World.ownsRow_nil _ _ _ _)
    go_wp2_with (go_at_call 49;refine(HA.out _).mono ?_;rintro e w3 ⟨rfl,hb3⟩;have hB3:=hBa.trans (hb3.mono hBa.size);have hO3:=own_of_block hOa (fun i hi=>hb3.block i (hOa.lt i hi).2);obtain⟨b0,b1,b2⟩:=HBX.out _ (hB2.trans (hB3.mono hB2.size));obtain⟨y0,y1⟩:=(bY.below hb3 bY.lt).two;have hlk:=look (HMAP.out _ (hB3.drew)) tn ht1 ht2;have hNV:=HNV.out _ ((hB2.trans (hB3.mono hB2.size)).drew);have hlt3:wr.heap.size<w3.heap.size:=by have q1:=bY.lt;have q2:=hb3.size;omega)
    have hC:=And.intro b0 (And.intro b1 (And.intro b2 (And.intro y0 (And.intro y1 hlk))))
    go_region_held3 (fun w'=>w'.cell? ⟨w.heap.size,0,none⟩=some (.int .i64 ps)∧w'.cell? ⟨w.heap.size,1,none⟩=some (.slice A vs.length c)∧w'.cell? ⟨w.heap.size,2,none⟩=some (.slice (some ad) xs.length ce)∧w'.cell? ⟨wr.heap.size,0,none⟩=some (.int .i64 tn)∧w'.cell? ⟨wr.heap.size,1,none⟩=some (.int .i64 nn)∧(Instr.lookup 154 (.map (some b)) (.int .i64 tn) false).run Tryz.prog w'=.ok (wayOf tn) w') (exact hC) (first
     | (go_at_call 87;refine(HTY.out _ hNV).mono ?_;rintro e w4 ⟨rfl,hb4⟩;have hB4:=(hB3.drew).trans (hb4.mono hB3.size);have hO4:=own_of_block (hO3.drew) (fun i hi=>hb4.block i (hO3.lt i hi).2);obtain⟨b0,b1,b2⟩:=HBX.out _ (hB2.trans (hB4.mono hB2.size));obtain⟨y0,y1⟩:=((bY.below hb3 bY.lt).drew.below hb4 hlt3).two;have hlk:=look (HMAP.out _ hB4) tn ht1 ht2;have hC:=And.intro b0 (And.intro b1 (And.intro b2 (And.intro y0 (And.intro y1 hlk)))))
     | (go_at_call 86;refine(HM.out _ _ _ (hI _ _) (by omega)).mono ?_;rintro e w5 ⟨rfl,hb5⟩;have hB5:=hB4.trans (hb5.mono hB4.size);have hO5:=own_of_block hO4 (fun i hi=>hb5.block i (hO4.lt i hi).2);obtain⟨b0,b1,b2⟩:=HBX.out _ (hB2.trans (hB5.mono hB2.size));have hlt4:wr.heap.size<w4.heap.size:=Nat.lt_of_lt_of_le hlt3 hb4.size;have bY5:=((bY.below hb3 bY.lt).drew.below hb4 hlt3).below hb5 hlt4;obtain⟨y0,y1⟩:=bY5.two;have hlk:=look (HMAP.out _ hB5) tn ht1 ht2;have hC:=And.intro b0 (And.intro b1 (And.intro b2 (And.intro y0 (And.intro y1 hlk)))))
     | fail)
    all_goals go_wp2_with fail
    all_goals have hC2:=bY5.two
    all_goals have hC3:=fun o=>(bY5.alloc o).two
    all_goals go_region_held3 (fun w'=>w'.cell? ⟨wr.heap.size,0,none⟩=some (.int .i64 tn)∧w'.cell? ⟨wr.heap.size,1,none⟩=some (.int .i64 nn)) (first | exact hC2 | exact hC3 _ | exact hC4) (first
     | (refine step_append_lies _ (by rfl) _ _ _ (by rfl) wz.heap.size 162 ig _ 2 16 Tryz.underlying156 hig hz0 hz1 hz2 rfl (by omega) _ 0 _ (by rfl) ((HT.out _ 0).alloc _) ⟨w5.heap.size,0,none⟩ 1 1 [.int .i64 tn,.int .i64 M] (by rfl) (by rfl) (World.news_of_block (cs:=#[.int .i64 tn,.int .i64 M]) (t:=162) (fr:=(0,0)) (heap_alloc_new w5.drew _)) (by simp [Value.oneCell']) (by omega) (by simp only [maxLen];omega) (by omega) (by have:=hB5.size;simp;omega) (w5.heap.size+1) (by simp) ?_;intro gg cap4 w6 hown4 hgrow hat hlt6;have hC4:w6.cell? ⟨wr.heap.size,0,none⟩=some (.int .i64 tn)∧w6.cell? ⟨wr.heap.size,1,none⟩=some (.int .i64 nn):=by (first | exact((bY5.alloc _).grown hgrow (fun hq=>by cases hq)).two | exact((bY5.drew.alloc _).grown hgrow (fun hq=>by cases hq)).two | exact(((bY5.alloc _).drew).grown hgrow (fun hq=>by cases hq)).two))
     | fail)
    all_goals exact zKindsP1
   ·subst hv
    have hcap:=own_cap2 hO
    have hgw:=(hO.lt _ rfl).2
    by_cases hco:c'=o
    ·obtain rfl:m=0:=by omega
     subst hco
     have hnil:D.drop c'=[]:=List.drop_eq_nil_of_le (by omega)
     have hI:∀ (W:World) A,Nodes W W.heap.size A (D.drop c'):=fun W A i x h=>by rw [hnil] at h;simp at h
     clear hnil
     have o1:(0:Int)≤(c':Int):=by omega
     have o2:(c':Int)≤(c':Int)+(0:Int):=by omega
     go_wp2_with (go_at_call 49;refine(HA.out _).mono ?_;rintro e w3 ⟨rfl,hb3⟩;have hB3:=hBa.trans (hb3.mono hBa.size);have hO3:=own_of_block hOa (fun i hi=>hb3.block i (hOa.lt i hi).2);obtain⟨b0,b1,b2⟩:=HBX.out _ (hB2.trans (hB3.mono hB2.size));obtain⟨y0,y1⟩:=(bY.below hb3 bY.lt).two;have hlk:=look (HMAP.out _ (hB3.drew)) tn ht1 ht2;have hNV:=HNV.out _ ((hB2.trans (hB3.mono hB2.size)).drew);have hlt3:wr.heap.size<w3.heap.size:=by have q1:=bY.lt;have q2:=hb3.size;omega)
     have hC:=And.intro b0 (And.intro b1 (And.intro b2 (And.intro y0 (And.intro y1 hlk))))
     go_region_held3 (fun w'=>w'.cell? ⟨w.heap.size,0,none⟩=some (.int .i64 ps)∧w'.cell? ⟨w.heap.size,1,none⟩=some (.slice A vs.length c)∧w'.cell? ⟨w.heap.size,2,none⟩=some (.slice (some ad) xs.length ce)∧w'.cell? ⟨wr.heap.size,0,none⟩=some (.int .i64 tn)∧w'.cell? ⟨wr.heap.size,1,none⟩=some (.int .i64 nn)∧(Instr.lookup 154 (.map (some b)) (.int .i64 tn) false).run Tryz.prog w'=.ok (wayOf tn) w') (exact hC) (first
      | (go_at_call 87;refine(HTY.out _ hNV).mono ?_;rintro e w4 ⟨rfl,hb4⟩;have hB4:=(hB3.drew).trans (hb4.mono hB3.size);have hO4:=own_of_block (hO3.drew) (fun i hi=>hb4.block i (hO3.lt i hi).2);obtain⟨b0,b1,b2⟩:=HBX.out _ (hB2.trans (hB4.mono hB2.size));obtain⟨y0,y1⟩:=((bY.below hb3 bY.lt).drew.below hb4 hlt3).two;have hlk:=look (HMAP.out _ hB4) tn ht1 ht2;have hC:=And.intro b0 (And.intro b1 (And.intro b2 (And.intro y0 (And.intro y1 hlk)))))
      | (go_at_call 86;refine(HM.out _ _ _ (hI _ _) (by omega)).mono ?_;rintro e w5 ⟨rfl,hb5⟩;have hB5:=hB4.trans (hb5.mono hB4.size);have hO5:=own_of_block hO4 (fun i hi=>hb5.block i (hO4.lt i hi).2);obtain⟨b0,b1,b2⟩:=HBX.out _ (hB2.trans (hB5.mono hB2.size));have hlt4:wr.heap.size<w4.heap.size:=Nat.lt_of_lt_of_le hlt3 hb4.size;have bY5:=((bY.below hb3 bY.lt).drew.below hb4 hlt3).below hb5 hlt4;obtain⟨y0,y1⟩:=bY5.two;have hlk:=look (HMAP.out _ hB5) tn ht1 ht2;have hC:=And.intro b0 (And.intro b1 (And.intro b2 (And.intro y0 (And.intro y1 hlk)))))
      | fail)
     all_goals go_wp2_with fail
     all_goals have hC2:=bY5.two
     all_goals have hC3:=fun o=>(bY5.alloc o).two
     all_goals go_region_held3 (fun w'=>w'.cell? ⟨wr.heap.size,0,none⟩=some (.int .i64 tn)∧w'.cell? ⟨wr.heap.size,1,none⟩=some (.int .i64 nn)) (first | exact hC2 | exact hC3 _ | exact hC4) (first
      | (refine step_append_lies _ (by rfl) _ _ _ (by rfl) wz.heap.size 162 ig _ 2 16 Tryz.underlying156 hig hz0 hz1 hz2 rfl (by omega) _ c' _ (by rfl) ((HT.out _ _ _ hO5).alloc _) ⟨w5.heap.size,0,none⟩ 1 1 [.int .i64 tn,.int .i64 M] (by rfl) (by rfl) (World.news_of_block (cs:=#[.int .i64 tn,.int .i64 M]) (t:=162) (fr:=(0,0)) (heap_alloc_new w5.drew _)) (by simp [Value.oneCell']) (by omega) (by simp only [maxLen];omega) (by omega) (by have:=hB5.size;simp;omega) (w5.heap.size+1) (by simp) ?_;intro gg cap4 w6 hown4 hgrow hat hlt6;have hC4:w6.cell? ⟨wr.heap.size,0,none⟩=some (.int .i64 tn)∧w6.cell? ⟨wr.heap.size,1,none⟩=some (.int .i64 nn):=by (first | exact((bY5.alloc _).grown hgrow (fun hq=>absurd (show wr.heap.size=g from Option.some.inj hq) (by omega))).two | exact((bY5.drew.alloc _).grown hgrow (fun hq=>absurd (show wr.heap.size=g from Option.some.inj hq) (by omega))).two | exact(((bY5.alloc _).drew).grown hgrow (fun hq=>absurd (show wr.heap.size=g from Option.some.inj hq) (by omega))).two))
      | fail)
     all_goals exact zKindsP1
    ·have o1:(0:Int)≤(o:Int):=by omega
     have o2:(o:Int)≤(o:Int)+(m:Int):=by omega
     have o3:(o:Int)≤(c':Int):=by omega
     go_wp2_with (go_at_call 49;refine(HA.out _).mono ?_;rintro e w3 ⟨rfl,hb3⟩;have hB3:=hBa.trans (hb3.mono hBa.size);have hO3:=own_of_block hOa (fun i hi=>hb3.block i (hOa.lt i hi).2);obtain⟨b0,b1,b2⟩:=HBX.out _ (hB2.trans (hB3.mono hB2.size));obtain⟨y0,y1⟩:=(bY.below hb3 bY.lt).two;have hlk:=look (HMAP.out _ (hB3.drew)) tn ht1 ht2;have hNV:=HNV.out _ ((hB2.trans (hB3.mono hB2.size)).drew);have hlt3:wr.heap.size<w3.heap.size:=by have q1:=bY.lt;have q2:=hb3.size;omega)
     have hC:=And.intro b0 (And.intro b1 (And.intro b2 (And.intro y0 (And.intro y1 hlk))))
     go_region_held3 (fun w'=>w'.cell? ⟨w.heap.size,0,none⟩=some (.int .i64 ps)∧w'.cell? ⟨w.heap.size,1,none⟩=some (.slice A vs.length c)∧w'.cell? ⟨w.heap.size,2,none⟩=some (.slice (some ad) xs.length ce)∧w'.cell? ⟨wr.heap.size,0,none⟩=some (.int .i64 tn)∧w'.cell? ⟨wr.heap.size,1,none⟩=some (.int .i64 nn)∧(Instr.lookup 154 (.map (some b)) (.int .i64 tn) false).run Tryz.prog w'=.ok (wayOf tn) w') (exact hC) (first
      | (go_at_call 87;refine(HTY.out _ hNV).mono ?_;rintro e w4 ⟨rfl,hb4⟩;have hB4:=(hB3.drew).trans (hb4.mono hB3.size);have hO4:=own_of_block (hO3.drew) (fun i hi=>hb4.block i (hO3.lt i hi).2);obtain⟨b0,b1,b2⟩:=HBX.out _ (hB2.trans (hB4.mono hB2.size));obtain⟨y0,y1⟩:=((bY.below hb3 bY.lt).drew.below hb4 hlt3).two;have hlk:=look (HMAP.out _ hB4) tn ht1 ht2;have hC:=And.intro b0 (And.intro b1 (And.intro b2 (And.intro y0 (And.intro y1 hlk)))))
      | (go_at_call 86;refine(HM.out _ _ _ (own_tail2 hO4 o) (by omega)).mono ?_;rintro e w5 ⟨rfl,hb5⟩;have hB5:=hB4.trans (hb5.mono hB4.size);have hO5:=own_of_block hO4 (fun i hi=>hb5.block i (hO4.lt i hi).2);obtain⟨b0,b1,b2⟩:=HBX.out _ (hB2.trans (hB5.mono hB2.size));have hlt4:wr.heap.size<w4.heap.size:=Nat.lt_of_lt_of_le hlt3 hb4.size;have bY5:=((bY.below hb3 bY.lt).drew.below hb4 hlt3).below hb5 hlt4;obtain⟨y0,y1⟩:=bY5.two;have hlk:=look (HMAP.out _ hB5) tn ht1 ht2;have hC:=And.intro b0 (And.intro b1 (And.intro b2 (And.intro y0 (And.intro y1 hlk)))))
      | fail)
     all_goals go_wp2_with fail
     all_goals have hC2:=bY5.two
     all_goals have hC3:=fun o=>(bY5.alloc o).two
     all_goals go_region_held3 (fun w'=>w'.cell? ⟨wr.heap.size,0,none⟩=some (.int .i64 tn)∧w'.cell? ⟨wr.heap.size,1,none⟩=some (.int .i64 nn)) (first | exact hC2 | exact hC3 _ | exact hC4) (first
      | (refine step_append_lies _ (by rfl) _ _ _ (by rfl) wz.heap.size 162 ig _ 2 16 Tryz.underlying156 hig hz0 hz1 hz2 rfl (by omega) _ o _ (by rfl) ((HT.out _ _ _ hO5).alloc _) ⟨w5.heap.size,0,none⟩ 1 1 [.int .i64 tn,.int .i64 M] (by rfl) (by rfl) (World.news_of_block (cs:=#[.int .i64 tn,.int .i64 M]) (t:=162) (fr:=(0,0)) (heap_alloc_new w5.drew _)) (by simp [Value.oneCell']) (by omega) (by simp only [maxLen];omega) (by omega) (by have:=hB5.size;simp;omega) (w5.heap.size+1) (by simp) ?_;intro gg cap4 w6 hown4 hgrow hat hlt6;have hC4:w6.cell? ⟨wr.heap.size,0,none⟩=some (.int .i64 tn)∧w6.cell? ⟨wr.heap.size,1,none⟩=some (.int .i64 nn):=by (first | exact((bY5.alloc _).grown hgrow (fun hq=>absurd (show wr.heap.size=g from Option.some.inj hq) (by omega))).two | exact((bY5.drew.alloc _).grown hgrow (fun hq=>absurd (show wr.heap.size=g from Option.some.inj hq) (by omega))).two | exact(((bY5.alloc _).drew).grown hgrow (fun hq=>absurd (show wr.heap.size=g from Option.some.inj hq) (by omega))).two))
      | fail)
     all_goals exact zKindsP1
theorem Of_any(p:Prg)(a:Int)(w:World)(hp:p.Ok w) :
  Calls Tryz.prog 48 #[.agg #[.int .i64 p.ps,.slice p.A p.vs.length p.c,.slice p.B p.xs.length p.e],.int .i64 a] w fun e w'=>e=.returned (.int .i64 (okind p.vs p.xs a))∧Below w.heap.size w w':=by
 rcases aend_cases p.xs a with he | ⟨k,n,rfl,hs,he,hn1,hn2⟩
 ·exact Of_bad p a w hp he
 ·obtain⟨ad,hB,-⟩:=hp.body k _ (List.getElem?_eq_getElem (show k<p.xs.length by omega))
  obtain⟨ps,A,c,vs,B,e,xs⟩:=p
  simp only at hB
  subst hB
  exact Of_good ps A c vs ad e xs k n w hp hs
theorem vsgood_all(ps:Int)(vs:List Int):∀ n,vsgood ps vs n=true↔∀ i,i<n→vgood ps i (vs.getD i 0)=true
 | 0=>⟨fun _ i h=>absurd h (Nat.not_lt_zero _),fun _=>rfl⟩
 | n+1=>by
  rw [vsgood,Bool.and_eq_true,vsgood_all ps vs n]
  constructor
  ·rintro⟨h1,h2⟩ i hi
   rcases Nat.lt_or_ge i n with q | q
   ·exact h1 i q
   ·obtain rfl:i=n:=by omega
    exact h2
  ·intro h
   exact⟨fun i hi=>h i (by omega),h n (by omega)⟩
theorem vsgood_tests(q:Nat)(vs:List Int)(hq:q≤vs.length):vsgood (q:Int) vs vs.length=(!(vs.any odd) && !((vs.take q).any nonum)):=by
 rw [Bool.eq_iff_iff,vsgood_all,Bool.and_eq_true,Bool.not_eq_true',Bool.not_eq_true',List.any_eq_false,List.any_eq_false]
 constructor
 ·intro h
  refine⟨fun x hx=>?_,fun x hx=>?_⟩
  ·obtain⟨i,hi,rfl⟩:=List.getElem_of_mem hx
   have:=h i hi
   rw [List.getD_eq_getElem?_getD,List.getElem?_eq_getElem hi] at this
   unfold vgood at this
   rw [decide_eq_true_eq] at this
   simp only [Option.getD_some] at this
   unfold odd
   rw [decide_eq_true_eq];omega
  ·obtain⟨i,hi,rfl⟩:=List.getElem_of_mem hx
   rw [List.length_take] at hi
   have:=h i (by omega)
   rw [List.getD_eq_getElem?_getD,List.getElem?_eq_getElem (by omega)] at this
   unfold vgood at this
   rw [decide_eq_true_eq] at this
   simp only [Option.getD_some] at this
   rw [List.getElem_take]
   unfold nonum
   have:=this.2.2 (by omega)
   simp [this]
 ·rintro⟨h1,h2⟩ i hi
  rw [List.getD_eq_getElem?_getD,List.getElem?_eq_getElem hi,Option.getD_some]
  have a1:=h1 vs[i] (List.getElem_mem hi)
  unfold odd at a1
  rw [decide_eq_true_eq] at a1
  unfold vgood
  rw [decide_eq_true_eq]
  refine⟨by omega,by omega,fun hlt=>?_⟩
  have hm:vs[i]∈vs.take q:=by
   rw [List.mem_take_iff_getElem]
   exact⟨i,by omega,rfl⟩
  have a2:=h2 _ hm
  unfold nonum at a2
  simpa using a2
theorem Vars_any(p:Prg)(w:World)(hp:p.Ok w) :
  Calls Tryz.prog 46 #[.agg #[.int .i64 p.ps,.slice p.A p.vs.length p.c,.slice p.B p.xs.length p.e]] w fun e w'=>e=.returned (.int .i64 (avars p.ps p.vs))∧Below w.heap.size w w':=by
 obtain⟨ps,A,c,vs,B,e,xs⟩:=p
 simp only
 have hB0:Below w.heap.size w (w.alloc (.cells #[.int .i64 ps,.slice A vs.length c,.slice B xs.length e] 25)):=(Below.refl _ _).alloc (Nat.le_refl _) _
 have bX:=Blk.new w 25 #[.int .i64 ps,.slice A vs.length c,.slice B xs.length e]
 have hgl:=bX.lt
 have HBX:=Lib.hid (fun W (h:Below (w.alloc (.cells #[.int .i64 ps,.slice A vs.length c,.slice B xs.length e] 25)).heap.size (w.alloc (.cells #[.int .i64 ps,.slice A vs.length c,.slice B xs.length e] 25)) W)=>(bX.below h hgl).three)
 have hX:=(hp.at hB0).vars
 have hlv:vs.length≤1000000:=hp.lv
 have hcv:vs.length≤c:=hp.cv
 have hnv:A=none→c=0:=hp.nv
 simp only at hX
 obtain⟨b0,b1,b2⟩:=HBX.out _ (Below.refl _ _)
 obtain⟨E,hE⟩:∃ E,avars ps vs=E:=⟨_,rfl⟩
 rw [hE]
 clear hp bX
 by_cases h1:ps<0
 ·have HF:=Lib.hid (show E=14 by rw [← hE];unfold avars;rw [if_pos (.inl h1)])
  clear hE
  exact zKindsP11
 by_cases h2:(vs.length:Int)<ps
 ·have HF:=Lib.hid (show E=14 by rw [← hE];unfold avars;rw [if_pos (.inr (.inl h2))])
  clear hE
  exact zKindsP11
 by_cases h3:12<vs.length
 ·have HF:=Lib.hid (show E=14 by rw [← hE];unfold avars;rw [if_pos (.inr (.inr h3))])
  have h3':(12:Int)<(vs.length:Int):=by omega
  clear hE
  exact zKindsP11
 have h3':¬ (12:Int)<(vs.length:Int):=by omega
 cases A with
 | none =>
  obtain rfl:c=0:=hnv rfl
  obtain rfl:vs=[]:=List.length_eq_zero_iff.1 (by omega)
  obtain rfl:ps=0:=by simp at h2;omega
  have HF:=Lib.hid (show E=0 by rw [← hE];rfl)
  have HO:=Lib.hid (show Calls Tryz.prog 81 #[.slice none 0 0,.func (.func 82) #[] #[]] (w.alloc (.cells #[.int .i64 0,.slice none 0 0,.slice B xs.length e] 25)) (fun e1 w'=>e1=.returned (.bool false)∧Below (w.alloc (.cells #[.int .i64 0,.slice none 0 0,.slice B xs.length e] 25)).heap.size (w.alloc (.cells #[.int .i64 0,.slice none 0 0,.slice B xs.length e] 25)) w') from contains_odd none 0 [] _ hX hlv)
  have HN:=Lib.hid (show ∀ W,Calls Tryz.prog 81 #[.slice none 0 0,.func (.func 83) #[] #[]] W (fun e1 w'=>e1=.returned (.bool false)∧Below W.heap.size W w') from fun W=>contains_nonum none 0 [] W (fun i x h=>by simp at h) (by simp))
  clear hE hX h1 h2 h3 h3' hnv
  simp only [List.length_nil] at *
  go_enter Tryz.func46,Tryz.ntmps46
  go_wp2_with (go_at_call 81;first
   | ((with_reducible refine HO.out.mono ?_);rintro e1 w1 ⟨rfl,hb1⟩;obtain⟨b0,b1,b2⟩:=HBX.out _ hb1)
   | ((with_reducible refine(HN.out _).mono ?_);rintro e2 w2 ⟨rfl,hb2⟩;have hb3:=hb1.trans (hb2.mono hb1.size);obtain⟨b0,b1,b2⟩:=HBX.out _ hb3))
  go_ret
  exact⟨by rw [HF.out];rfl,hB0.trans (hb3.mono hB0.size)⟩
 | some ad =>
  obtain⟨q,rfl⟩:=Int.eq_ofNat_of_zero_le (show 0≤ps by omega)
  have hqv:q≤vs.length:=by omega
  have hE2:E=if(!(vs.any odd) && !((vs.take q).any nonum))=true then 0 else 14:=by
   rw [← hE];unfold avars;rw [if_neg (by omega),vsgood_tests q vs hqv]
  have hlt:(vs.take q).length=q:=by rw [List.length_take];omega
  have HO:=Lib.hid (contains_odd (some ad) c vs _ hX hlv)
  have HN:=Lib.hid (show ∀ W,IRow W W.heap.size (some ad) vs→Calls Tryz.prog 81 #[.slice (some ad) q c,.func (.func 83) #[] #[]] W (fun e w'=>e=.returned (.bool ((vs.take q).any nonum))∧Below W.heap.size W w') from fun W h=>by
   have:=contains_nonum (some ad) c (vs.take q) W (fun i x hx=>h i x (by rw [List.getElem?_take] at hx;split at hx;exact hx;cases hx)) (by omega)
   rw [hlt] at this
   exact this)
  have HX:=Lib.hid hX
  have i1:(0:Int)≤(q:Int):=by omega
  have i2:(q:Int)≤(c:Int):=by omega
  generalize vs.any odd=o1 at *
  generalize (vs.take q).any nonum=o2 at *
  have HE:=Lib.hid hE2
  clear hE hE2 hX hlt h1
  cases o1 with
  | true =>
   have HF:=Lib.hid (show E=14 by rw [HE.out];rfl)
   go_enter Tryz.func46,Tryz.ntmps46
   go_wp2_with (go_at_call 81;refine HO.out.mono ?_;rintro e1 w1 ⟨rfl,hb1⟩;obtain⟨b0,b1,b2⟩:=HBX.out _ hb1)
   go_ret
   exact⟨by rw [HF.out];rfl,hB0.trans (hb1.mono hB0.size)⟩
  | false =>
   cases o2 with
   | true =>
    have HF:=Lib.hid (show E=14 by rw [HE.out];rfl)
    exact zKindsP5
   | false =>
    have HF:=Lib.hid (show E=0 by rw [HE.out];rfl)
    exact zKindsP5
end Go.Proofs.YtekogckmgkodfaaGreatDoor.Kinds
