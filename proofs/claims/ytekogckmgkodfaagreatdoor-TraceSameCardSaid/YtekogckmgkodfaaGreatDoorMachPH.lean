/-
  Package machine, walked: what nodes do once the kids that they are owed have ended.
  Package machine, walked: what nodes do once the kids that they are owed have ended (the others).
  Package machine, walked: what nodes do once the kids that they are owed have ended (loop).
-/
import Derived.Test.YtekogckmgkodfaaGreatDoorMachPG
import Derived.Laws.EntriesVeiled
import Derived.Deep.RegionLaw
import Derived.Deep.AppendLies
set_option maxRecDepth 100000
set_option maxHeartbeats 2000000
set_option linter.unusedVariables false
namespace Go.Proofs.YtekogckmgkodfaaGreatDoor
theorem zMachPH0{P:Prop}(h:P:=by
  go_wp2_with (first | (go_at_call 89;(with_reducible refine HT.out.mono ?_);rintro e w2 hT;obtain⟨hTT,v,rfl⟩:=hT.ends HW.out;have HTT:=Lib.hid hTT;clear hTT hT) | fail)
  go_ret
  exact HTT.out):P:=h
theorem zMachPH1{P:Prop}(h:P:=by
  have HT:=Lib.hid (tell_any h1 ho (F x y) hl)
  have HW:=Lib.hid hw1
  clear hF hq hbx
  clear h h1 hw1 hb1 bX hL ho hl
  go_enter Tryz.func91,Tryz.ntmps91
  go_wp2_with (first | (go_at_call 89;(with_reducible refine HT.out.mono ?_);rintro e w2 hT;obtain⟨hTT,v,rfl⟩:=hT.ends HW.out;have HTT:=Lib.hid hTT;clear hTT hT) | ((with_reducible refine HQ.out.mono ?_);rintro e w1 ⟨rfl,rfl⟩) | fail)
  go_ret
  exact HTT.out):P:=h
theorem zMachPH2{P:Prop}(h:P:=by
  go_wp2_with (first | (go_at_call 29;(with_reducible refine HT.out.mono ?_);rintro e w2 hT;obtain⟨hTT,v,rfl⟩:=hT.ends HW.out;have HTT:=Lib.hid hTT;clear hTT hT) | fail)
  go_ret
  exact HTT.out):P:=h
theorem zMachPH3{P:Prop}(h:P:=by
  go_wp2_with fail
  go_region
  go_wp2_with (first | (go_at_call 90;(with_reducible refine(HO.out _ _ _ _ _).mono ?_);rintro e w1 ⟨rfl,rfl⟩) | fail)
  go_ret
  exact HT.out):P:=h
theorem zMachPH4{P:Prop}(h:P:=by
  go_simp
  refine OrdU.bk hK (h:=?_)
  clear hK K'
  refine OrdU.wpAnyU_done (by kernel_rfl) ?_ _
  go_wp2_with fail
  go_ret
  exact HTT.out):P:=h
end Go.Proofs.YtekogckmgkodfaaGreatDoor
namespace Go.Proofs.YtekogckmgkodfaaGreatDoor.Mach
open Go.RowKit Mem Arena Kinds Path Cat Suite
attribute [local go_sem ↓] Go.wp_at_zero Go.wp_at_succ
section
variable {K:PK} {κ:Nat→Nat} {evv sv:Value} {Y:List ((Option Addr×Nat)×List Int)} {s:St} {S:List Fr} {W W':World}
structure Live (K:PK) (s:St) (S:List Fr):Prop where
 on:s.over=false
 sum:s.steps+s.fuel=K.F
 top:K.F≤10000
 few:s.ev.length+S.length≤s.steps
theorem Live.hl(h:Live K s S):S.length<1000000:=by have:=h.sum;have:=h.top;have:=h.few;omega
theorem Live.he(h:Live K s S):s.ev.length<1000000:=by have:=h.sum;have:=h.top;have:=h.few;omega
theorem enter_any16(h:PM K κ evv sv Y s S W)(hL:Live K s S){k:Nat}(hk:IsNode K.p.xs k):Calls Tryz.prog 29 #[.pointer (some ⟨K.g,0,none⟩),.int .i64 k] W (Turn K κ W (enterC K.p.xs k (s,S))):=by
 have h1:=hL.sum
 have h2:=hL.few
 have h3:=hL.top
 unfold enterC
 simp only
 split
 ·next h0=>exact p_enter_out h hL.on h0 hL.sum k
 ·next h0=>exact p_enter_on h hL.on h0 hL.sum hL.top (by omega) hk
theorem Turn.resulted{κ':Nat→Nat}{evv' sv':Value}{Y':List ((Option Addr×Nat)×List Int)}{s':St}{S':List Fr}(h:PM K κ' evv' sv' Y' s' S' W')(hw:Went κ κ' W W')(ho:s'.over=false)(v:Int):Turn K κ W (s'.stop 0 v,S') (.returned (.func (.func 97) #[.int .i64 v] #[])) W' :=
 ⟨κ',evv',sv',Y',_,h.stop 0 v,hw,rfl,.inr ⟨by rw [stop_no ho],.inr ⟨by rw [stop_no ho],by rw [stop_no ho]⟩⟩⟩
theorem Turn.ends{κ':Nat→Nat}{W1 W2:World}{c:Cfg}{e:Ending}(h:Turn K κ' W1 c e W2)(hw:Went κ κ' W W1):Turn K κ W c e W2∧∃ v,e=.returned v:=⟨h.then hw,by obtain⟨_,_,_,_,v,-,-,h,-⟩:=h;exact⟨v,h⟩⟩
theorem act_constant(h:PM K κ evv sv Y s S W)(hL:Live K s S)(t N:Int)(pos next owed:Nat)(x y:Int)(fa:FuncId)(ca:Array Value):Calls Tryz.prog 50 #[.pointer (some ⟨K.g,0,none⟩),.agg #[.int .i64 t,.int .i64 N,.int .i64 (pos:Nat),.int .i64 (next:Nat),.int .i64 (owed:Nat),.int .i64 x,.int .i64 y,.func (.func fa) #[] ca]] W (Turn K κ W (tellC N (s,S))):=by
 have hb1:=(Below.refl W.heap.size W).alloc (Nat.le_refl _) (.cells #[.int .i64 t,.int .i64 N,.int .i64 (pos:Nat),.int .i64 (next:Nat),.int .i64 (owed:Nat),.int .i64 x,.int .i64 y,.func (.func fa) #[] ca] 116)
 have bX:=Blk.new W 116 #[.int .i64 t,.int .i64 N,.int .i64 (pos:Nat),.int .i64 (next:Nat),.int .i64 (owed:Nat),.int .i64 x,.int .i64 y,.func (.func fa) #[] ca]
 obtain⟨x0,x1,x2,x3,x4,x5,x6,x7⟩:=bX.eight
 have h1:=h.below hb1
 have hw1:=(Went.refl κ W).below hb1
 have hl:=hL.hl
 have ho:=hL.on
 have HT:=Lib.hid (tell_any h1 ho N hl)
 have HW:=Lib.hid hw1
 clear h h1 hw1 hb1 bX hL ho hl
 go_enter Tryz.func50,Tryz.ntmps50
 exact zMachPH0
theorem act_nothing(h:PM K κ evv sv Y s S W)(hL:Live K s S)(t N:Int)(pos next owed:Nat)(x y:Int)(fa:FuncId)(ca:Array Value):Calls Tryz.prog 70 #[.pointer (some ⟨K.g,0,none⟩),.agg #[.int .i64 t,.int .i64 N,.int .i64 (pos:Nat),.int .i64 (next:Nat),.int .i64 (owed:Nat),.int .i64 x,.int .i64 y,.func (.func fa) #[] ca]] W (Turn K κ W (tellC 0 (s,S))):=by
 have hb1:=(Below.refl W.heap.size W).alloc (Nat.le_refl _) (.cells #[.int .i64 t,.int .i64 N,.int .i64 (pos:Nat),.int .i64 (next:Nat),.int .i64 (owed:Nat),.int .i64 x,.int .i64 y,.func (.func fa) #[] ca] 116)
 have bX:=Blk.new W 116 #[.int .i64 t,.int .i64 N,.int .i64 (pos:Nat),.int .i64 (next:Nat),.int .i64 (owed:Nat),.int .i64 x,.int .i64 y,.func (.func fa) #[] ca]
 obtain⟨x0,x1,x2,x3,x4,x5,x6,x7⟩:=bX.eight
 have h1:=h.below hb1
 have hw1:=(Went.refl κ W).below hb1
 have hl:=hL.hl
 have ho:=hL.on
 have HT:=Lib.hid (tell_any h1 ho 0 hl)
 have HW:=Lib.hid hw1
 clear h h1 hw1 hb1 bX hL ho hl
 go_enter Tryz.func70,Tryz.ntmps70
 exact zMachPH0
theorem act_giveBack(h:PM K κ evv sv Y s S W)(hL:Live K s S)(t N:Int)(pos next owed:Nat)(x y:Int)(fa:FuncId)(ca:Array Value):Calls Tryz.prog 75 #[.pointer (some ⟨K.g,0,none⟩),.agg #[.int .i64 t,.int .i64 N,.int .i64 (pos:Nat),.int .i64 (next:Nat),.int .i64 (owed:Nat),.int .i64 x,.int .i64 y,.func (.func fa) #[] ca]] W (Turn K κ W (s.stop 0 y,S)):=by
 have hb1:=(Below.refl W.heap.size W).alloc (Nat.le_refl _) (.cells #[.int .i64 t,.int .i64 N,.int .i64 (pos:Nat),.int .i64 (next:Nat),.int .i64 (owed:Nat),.int .i64 x,.int .i64 y,.func (.func fa) #[] ca] 116)
 have bX:=Blk.new W 116 #[.int .i64 t,.int .i64 N,.int .i64 (pos:Nat),.int .i64 (next:Nat),.int .i64 (owed:Nat),.int .i64 x,.int .i64 y,.func (.func fa) #[] ca]
 obtain⟨x0,x1,x2,x3,x4,x5,x6,x7⟩:=bX.eight
 have h1:=h.below hb1
 have hw1:=(Went.refl κ W).below hb1
 have hl:=hL.hl
 have ho:=hL.on
 have HT:=Lib.hid (Turn.resulted h1 hw1 ho y)
 clear h h1 hw1 hb1 bX hL ho hl
 go_enter Tryz.func75,Tryz.ntmps75
 go_wp2_with fail
 go_ret
 exact HT.out
theorem act_again(h:PM K κ evv sv Y s S W)(hL:Live K s S)(t N:Int)(pos next owed:Nat)(x y:Int)(fa:FuncId)(ca:Array Value)(hk:IsNode K.p.xs pos):Calls Tryz.prog 96 #[.pointer (some ⟨K.g,0,none⟩),.agg #[.int .i64 t,.int .i64 N,.int .i64 (pos:Nat),.int .i64 (next:Nat),.int .i64 (owed:Nat),.int .i64 x,.int .i64 y,.func (.func fa) #[] ca]] W (Turn K κ W (enterC K.p.xs pos (s,S))):=by
 have hb1:=(Below.refl W.heap.size W).alloc (Nat.le_refl _) (.cells #[.int .i64 t,.int .i64 N,.int .i64 (pos:Nat),.int .i64 (next:Nat),.int .i64 (owed:Nat),.int .i64 x,.int .i64 y,.func (.func fa) #[] ca] 116)
 have bX:=Blk.new W 116 #[.int .i64 t,.int .i64 N,.int .i64 (pos:Nat),.int .i64 (next:Nat),.int .i64 (owed:Nat),.int .i64 x,.int .i64 y,.func (.func fa) #[] ca]
 obtain⟨x0,x1,x2,x3,x4,x5,x6,x7⟩:=bX.eight
 have h1:=h.below hb1
 have hw1:=(Went.refl κ W).below hb1
 have hl:=hL.hl
 have ho:=hL.on
 have HT:=Lib.hid (enter_any16 h1 hL hk)
 have HW:=Lib.hid hw1
 clear hk
 clear h h1 hw1 hb1 bX hL ho hl
 go_enter Tryz.func96,Tryz.ntmps96
 exact zMachPH2
theorem act_joined(h:PM K κ evv sv Y s S W)(hL:Live K s S)(t N:Int)(pos next owed:Nat)(x y:Int)(fa:FuncId)(ca:Array Value)(b:Nat)(z:Int)(hbx:BoxIn W K.cst b 3 (.int .i64 z))(hk:IsNode K.p.xs next):Calls Tryz.prog 94 #[.pointer (some ⟨K.g,0,none⟩),.agg #[.int .i64 t,.int .i64 N,.int .i64 (pos:Nat),.int .i64 (next:Nat),.int .i64 (owed:Nat),.int .i64 x,.int .i64 y,.func (.func fa) #[] ca],.pointer (some ⟨b,0,none⟩)] W (Turn K κ W (if y=z then tellC z (s,S) else enterC K.p.xs next (s,S))):=by
 have hb1:=(Below.refl W.heap.size W).alloc (Nat.le_refl _) (.cells #[.int .i64 t,.int .i64 N,.int .i64 (pos:Nat),.int .i64 (next:Nat),.int .i64 (owed:Nat),.int .i64 x,.int .i64 y,.func (.func fa) #[] ca] 116)
 have bX:=Blk.new W 116 #[.int .i64 t,.int .i64 N,.int .i64 (pos:Nat),.int .i64 (next:Nat),.int .i64 (owed:Nat),.int .i64 x,.int .i64 y,.func (.func fa) #[] ca]
 obtain⟨x0,x1,x2,x3,x4,x5,x6,x7⟩:=bX.eight
 have h1:=h.below hb1
 have hw1:=(Went.refl κ W).below hb1
 have hl:=hL.hl
 have ho:=hL.on
 have y0:(W.alloc (.cells #[.int .i64 t,.int .i64 N,.int .i64 (pos:Nat),.int .i64 (next:Nat),.int .i64 (owed:Nat),.int .i64 x,.int .i64 y,.func (.func fa) #[] ca] 116)).cell? ⟨b,0,none⟩=some (.int .i64 z):=(hbx.1.below hb1 hbx.1.lt).cell 0
 have HT:=Lib.hid (tell_any h1 ho z hl)
 have HU:=Lib.hid (enter_any16 h1 hL hk)
 have HW:=Lib.hid hw1
 clear hk hbx
 clear h h1 hw1 hb1 bX hL ho hl
 go_enter Tryz.func94,Tryz.ntmps94
 by_cases hz:y=z
 ·rw [if_pos hz]
  subst hz
  exact zMachPH0
 ·rw [if_neg hz]
  have hz2:(y==z)=false:=by simp;exact hz
  clear hz
  go_wp2_with (first | (go_at_call 29;(with_reducible refine HU.out.mono ?_);rintro e w2 hT;obtain⟨hTT,v,rfl⟩:=hT.ends HW.out;have HTT:=Lib.hid hTT;clear hTT hT) | fail)
  go_ret
  exact HTT.out
theorem act_reckoned(h:PM K κ evv sv Y s S W)(hL:Live K s S)(t N:Int)(pos next owed:Nat)(x y:Int)(fa:FuncId)(ca:Array Value)(b:Nat)(q:FuncId)(F:Int→Int→Int)(hbx:BoxIn W K.cst b 111 (.func (.func q) #[] #[]))(hF:Calls Tryz.prog q #[.int .i64 x,.int .i64 y] (W.alloc (.cells #[.int .i64 t,.int .i64 N,.int .i64 (pos:Nat),.int .i64 (next:Nat),.int .i64 (owed:Nat),.int .i64 x,.int .i64 y,.func (.func fa) #[] ca] 116)) fun e w'=>e=.returned (.int .i64 (F x y))∧w'=(W.alloc (.cells #[.int .i64 t,.int .i64 N,.int .i64 (pos:Nat),.int .i64 (next:Nat),.int .i64 (owed:Nat),.int .i64 x,.int .i64 y,.func (.func fa) #[] ca] 116)))(hq:∀ w:World,(callFunc q #[.int .i64 x,.int .i64 y]).run Tryz.prog w=.ok (.enter q #[.int .i64 x,.int .i64 y]) w):Calls Tryz.prog 91 #[.pointer (some ⟨K.g,0,none⟩),.agg #[.int .i64 t,.int .i64 N,.int .i64 (pos:Nat),.int .i64 (next:Nat),.int .i64 (owed:Nat),.int .i64 x,.int .i64 y,.func (.func fa) #[] ca],.pointer (some ⟨b,0,none⟩)] W (Turn K κ W (tellC (F x y) (s,S))):=by
 have hb1:=(Below.refl W.heap.size W).alloc (Nat.le_refl _) (.cells #[.int .i64 t,.int .i64 N,.int .i64 (pos:Nat),.int .i64 (next:Nat),.int .i64 (owed:Nat),.int .i64 x,.int .i64 y,.func (.func fa) #[] ca] 116)
 have bX:=Blk.new W 116 #[.int .i64 t,.int .i64 N,.int .i64 (pos:Nat),.int .i64 (next:Nat),.int .i64 (owed:Nat),.int .i64 x,.int .i64 y,.func (.func fa) #[] ca]
 obtain⟨x0,x1,x2,x3,x4,x5,x6,x7⟩:=bX.eight
 have h1:=h.below hb1
 have hw1:=(Went.refl κ W).below hb1
 have hl:=hL.hl
 have ho:=hL.on
 have hq1:=hq (W.alloc (.cells #[.int .i64 t,.int .i64 N,.int .i64 (pos:Nat),.int .i64 (next:Nat),.int .i64 (owed:Nat),.int .i64 x,.int .i64 y,.func (.func fa) #[] ca] 116))
 have HQ:=Lib.hid hF
 have y0:(W.alloc (.cells #[.int .i64 t,.int .i64 N,.int .i64 (pos:Nat),.int .i64 (next:Nat),.int .i64 (owed:Nat),.int .i64 x,.int .i64 y,.func (.func fa) #[] ca] 116)).cell? ⟨b,0,none⟩=some (.func (.func q) #[] #[]):=(hbx.1.below hb1 hbx.1.lt).cell 0
 exact zMachPH1
theorem act_reckonedP(h:PM K κ evv sv Y s S W)(hL:Live K s S)(t N:Int)(pos next owed:Nat)(x y:Int)(fa:FuncId)(ca:Array Value)(b:Nat)(c:Nat)(q:FuncId)(F:Int→Int→Int)(hbx:BoxIn W K.cst b 111 (.func (.func q) #[] #[.pointer (some ⟨c,0,none⟩)]))(hF:Calls Tryz.prog q #[.int .i64 x,.int .i64 y,.pointer (some ⟨c,0,none⟩)] (W.alloc (.cells #[.int .i64 t,.int .i64 N,.int .i64 (pos:Nat),.int .i64 (next:Nat),.int .i64 (owed:Nat),.int .i64 x,.int .i64 y,.func (.func fa) #[] ca] 116)) fun e w'=>e=.returned (.int .i64 (F x y))∧w'=(W.alloc (.cells #[.int .i64 t,.int .i64 N,.int .i64 (pos:Nat),.int .i64 (next:Nat),.int .i64 (owed:Nat),.int .i64 x,.int .i64 y,.func (.func fa) #[] ca] 116)))(hq:∀ w:World,(callFunc q #[.int .i64 x,.int .i64 y,.pointer (some ⟨c,0,none⟩)]).run Tryz.prog w=.ok (.enter q #[.int .i64 x,.int .i64 y,.pointer (some ⟨c,0,none⟩)]) w):Calls Tryz.prog 91 #[.pointer (some ⟨K.g,0,none⟩),.agg #[.int .i64 t,.int .i64 N,.int .i64 (pos:Nat),.int .i64 (next:Nat),.int .i64 (owed:Nat),.int .i64 x,.int .i64 y,.func (.func fa) #[] ca],.pointer (some ⟨b,0,none⟩)] W (Turn K κ W (tellC (F x y) (s,S))):=by
 have hb1:=(Below.refl W.heap.size W).alloc (Nat.le_refl _) (.cells #[.int .i64 t,.int .i64 N,.int .i64 (pos:Nat),.int .i64 (next:Nat),.int .i64 (owed:Nat),.int .i64 x,.int .i64 y,.func (.func fa) #[] ca] 116)
 have bX:=Blk.new W 116 #[.int .i64 t,.int .i64 N,.int .i64 (pos:Nat),.int .i64 (next:Nat),.int .i64 (owed:Nat),.int .i64 x,.int .i64 y,.func (.func fa) #[] ca]
 obtain⟨x0,x1,x2,x3,x4,x5,x6,x7⟩:=bX.eight
 have h1:=h.below hb1
 have hw1:=(Went.refl κ W).below hb1
 have hl:=hL.hl
 have ho:=hL.on
 have hq1:=hq (W.alloc (.cells #[.int .i64 t,.int .i64 N,.int .i64 (pos:Nat),.int .i64 (next:Nat),.int .i64 (owed:Nat),.int .i64 x,.int .i64 y,.func (.func fa) #[] ca] 116))
 have HQ:=Lib.hid hF
 have y0:(W.alloc (.cells #[.int .i64 t,.int .i64 N,.int .i64 (pos:Nat),.int .i64 (next:Nat),.int .i64 (owed:Nat),.int .i64 x,.int .i64 y,.func (.func fa) #[] ca] 116)).cell? ⟨b,0,none⟩=some (.func (.func q) #[] #[.pointer (some ⟨c,0,none⟩)]):=(hbx.1.below hb1 hbx.1.lt).cell 0
 exact zMachPH1
end
section
variable {K:PK} {κ:Nat→Nat} {evv sv:Value} {Y:List ((Option Addr×Nat)×List Int)} {s:St} {S:List Fr} {W W':World}
theorem PM.var(h:PM K κ evv sv Y s S W){m:Nat}{z:Int}(hm:s.vals[m]? = some z):∃ b c,K.vv=.slice (some ⟨b,0,none⟩) s.vals.length c∧K.vv.ownBlock=some b∧W.cell? ⟨b,m,none⟩=some (.int .i64 z)∧(∀ j,W.frozen? ⟨b,j,none⟩=false):=by
 have hl:=(List.getElem?_eq_some_iff.1 hm).1
 obtain⟨b,c,hv,hb⟩:=own_block h.vr (by omega)
 have hr:=h.vr
 rw [hv] at hr
 refine⟨b,c,hv,hb,own_read hr hm,fun j=>?_⟩
 exact World.ownsRow.frozenAt hr j
theorem PM.arr(h:PM K κ evv sv Y s S W){m:Nat}(hm:m<s.arrs.length):∃ b c y,K.av=.slice (some ⟨b,0,none⟩) s.arrs.length c∧Y[m]? = some y∧y.2=arr s m∧W.cell? ⟨b,m,none⟩=some (.slice y.1.1 y.2.length y.1.2):=by
 obtain⟨b,c,hv,hb⟩:=own_block h.ar (by omega)
 have hr:=h.ar
 rw [hv] at hr
 have hY:=h.hY
 obtain⟨y,hy⟩:∃ y,Y[m]? = some y:=⟨_,List.getElem?_eq_getElem (by rw [← hY,List.length_map] at hm;exact hm)⟩
 refine⟨b,c,y,hv,hy,?_,?_⟩
 ·unfold Mach.arr
  rw [← hY,Int.toNat_natCast,List.getD_eq_getElem?_getD,List.getElem?_map,hy];rfl
 ·rw [World.ownsRow.cellAt hr m (by omega)]
  unfold tcells
  rw [List.getElem?_map,hy];rfl
theorem PM.elem(h:PM K κ evv sv Y s S W){m j:Nat}{y:(Option Addr×Nat)×List Int}{z:Int}(hy:Y[m]? = some y)(hj:y.2[j]? = some z):∃ b,y.1.1=some ⟨b,0,none⟩∧(Value.slice y.1.1 y.2.length y.1.2).ownBlock=some b∧W.cell? ⟨b,j,none⟩=some (.int .i64 z)∧(∀ j,W.frozen? ⟨b,j,none⟩=false):=by
 have hl:=(List.getElem?_eq_some_iff.1 hj).1
 have hr:=h.yr m y hy
 obtain⟨b,c,hv,hb⟩:=own_block hr (by omega)
 have e1:y.1.1=some ⟨b,0,none⟩:=(Value.slice.inj hv).1
 refine⟨b,e1,hb,?_,?_⟩
 ·rw [e1] at hr
  exact own_read hr hj
 ·rw [e1] at hr
  exact fun j=>World.ownsRow.frozenAt hr j
theorem act_divided_0(h:PM K κ evv sv Y s S W)(hL:Live K s S)(t N:Int)(pos next owed:Nat)(x y:Int)(fa:FuncId)(ca:Array Value)(c:Nat)(hy:y=0):Calls Tryz.prog 92 #[.pointer (some ⟨K.g,0,none⟩),.agg #[.int .i64 t,.int .i64 N,.int .i64 (pos:Nat),.int .i64 (next:Nat),.int .i64 (owed:Nat),.int .i64 x,.int .i64 y,.func (.func fa) #[] ca],.pointer (some ⟨c,0,none⟩)] W (Turn K κ W (s.stop 1 0,S)):=by
 have hb1:=(Below.refl W.heap.size W).alloc (Nat.le_refl _) (.cells #[.int .i64 t,.int .i64 N,.int .i64 (pos:Nat),.int .i64 (next:Nat),.int .i64 (owed:Nat),.int .i64 x,.int .i64 y,.func (.func fa) #[] ca] 116)
 have bX:=Blk.new W 116 #[.int .i64 t,.int .i64 N,.int .i64 (pos:Nat),.int .i64 (next:Nat),.int .i64 (owed:Nat),.int .i64 x,.int .i64 y,.func (.func fa) #[] ca]
 obtain⟨x0,x1,x2,x3,x4,x5,x6,x7⟩:=bX.eight
 have h1:=h.below hb1
 have hw1:=(Went.refl κ W).below hb1
 have hl:=hL.hl
 have ho:=hL.on
 have HT:=Lib.hid (Turn.stopped h1 hw1 ho 1)
 subst hy
 clear h h1 hw1 hb1 bX hL ho hl
 go_enter Tryz.func92,Tryz.ntmps92
 go_wp2_with fail
 go_ret
 exact HT.out
theorem act_divided(h:PM K κ evv sv Y s S W)(hL:Live K s S)(t N:Int)(pos next owed:Nat)(x y:Int)(fa:FuncId)(ca:Array Value)(b c:Nat)(q:FuncId)(F:Int→Int→Int)(hy:y≠0)(hbc:BoxIn W K.cst c 109 (.func (.func 91) #[] #[.pointer (some ⟨b,0,none⟩)]))(hbx:BoxIn W K.cst b 111 (.func (.func q) #[] #[]))(hF:∀ w:World,Calls Tryz.prog q #[.int .i64 x,.int .i64 y] w fun e w'=>e=.returned (.int .i64 (F x y))∧w'=w)(hq:∀ w:World,(callFunc q #[.int .i64 x,.int .i64 y]).run Tryz.prog w=.ok (.enter q #[.int .i64 x,.int .i64 y]) w):Calls Tryz.prog 92 #[.pointer (some ⟨K.g,0,none⟩),.agg #[.int .i64 t,.int .i64 N,.int .i64 (pos:Nat),.int .i64 (next:Nat),.int .i64 (owed:Nat),.int .i64 x,.int .i64 y,.func (.func fa) #[] ca],.pointer (some ⟨c,0,none⟩)] W (Turn K κ W (tellC (F x y) (s,S))):=by
 have hb1:=(Below.refl W.heap.size W).alloc (Nat.le_refl _) (.cells #[.int .i64 t,.int .i64 N,.int .i64 (pos:Nat),.int .i64 (next:Nat),.int .i64 (owed:Nat),.int .i64 x,.int .i64 y,.func (.func fa) #[] ca] 116)
 have bX:=Blk.new W 116 #[.int .i64 t,.int .i64 N,.int .i64 (pos:Nat),.int .i64 (next:Nat),.int .i64 (owed:Nat),.int .i64 x,.int .i64 y,.func (.func fa) #[] ca]
 obtain⟨x0,x1,x2,x3,x4,x5,x6,x7⟩:=bX.eight
 have h1:=h.below hb1
 have hw1:=(Went.refl κ W).below hb1
 have hl:=hL.hl
 have ho:=hL.on
 have e0:(y==0)=false:=by simp;exact hy
 have y0:(W.alloc (.cells #[.int .i64 t,.int .i64 N,.int .i64 (pos:Nat),.int .i64 (next:Nat),.int .i64 (owed:Nat),.int .i64 x,.int .i64 y,.func (.func fa) #[] ca] 116)).cell? ⟨c,0,none⟩=some (.func (.func 91) #[] #[.pointer (some ⟨b,0,none⟩)]):=(hbc.1.below hb1 hbc.1.lt).cell 0
 have HT:=Lib.hid (act_reckoned h1 hL t N pos next owed x y fa ca b q F ⟨hbx.1.below hb1 hbx.1.lt,hbx.2⟩ (hF _) hq)
 have HW:=Lib.hid hw1
 clear hbc hbx hF hq hy
 clear h h1 hw1 hb1 bX hL ho hl
 go_enter Tryz.func92,Tryz.ntmps92
 go_wp2_with (first | (go_at_call 91;(with_reducible refine HT.out.mono ?_);rintro e w2 hT;obtain⟨hTT,v,rfl⟩:=hT.ends HW.out;have HTT:=Lib.hid hTT;clear hTT hT) | fail)
 go_ret
 exact HTT.out
theorem act_variable(h:PM K κ evv sv Y s S W)(hL:Live K s S)(t:Int)(m:Nat)(pos next owed:Nat)(x y:Int)(fa:FuncId)(ca:Array Value)(z:Int)(hm:s.vals[m]? = some z):Calls Tryz.prog 51 #[.pointer (some ⟨K.g,0,none⟩),.agg #[.int .i64 t,.int .i64 (m:Nat),.int .i64 (pos:Nat),.int .i64 (next:Nat),.int .i64 (owed:Nat),.int .i64 x,.int .i64 y,.func (.func fa) #[] ca]] W (Turn K κ W (tellC z (s,S))):=by
 have hb1:=(Below.refl W.heap.size W).alloc (Nat.le_refl _) (.cells #[.int .i64 t,.int .i64 (m:Nat),.int .i64 (pos:Nat),.int .i64 (next:Nat),.int .i64 (owed:Nat),.int .i64 x,.int .i64 y,.func (.func fa) #[] ca] 116)
 have bX:=Blk.new W 116 #[.int .i64 t,.int .i64 (m:Nat),.int .i64 (pos:Nat),.int .i64 (next:Nat),.int .i64 (owed:Nat),.int .i64 x,.int .i64 y,.func (.func fa) #[] ca]
 obtain⟨x0,x1,x2,x3,x4,x5,x6,x7⟩:=bX.eight
 have h1:=h.below hb1
 have hw1:=(Went.refl κ W).below hb1
 have hl:=hL.hl
 have ho:=hL.on
 obtain⟨vb,vc,hvv,-,hz,-⟩:=h1.var hm
 have c7:(W.alloc (.cells #[.int .i64 t,.int .i64 (m:Nat),.int .i64 (pos:Nat),.int .i64 (next:Nat),.int .i64 (owed:Nat),.int .i64 x,.int .i64 y,.func (.func fa) #[] ca] 116)).cell? ⟨K.g,7,none⟩=some (.slice (some ⟨vb,0,none⟩) s.vals.length vc):=(h1.cell 7).trans (congrArg some hvv)
 have i2:(0:Int)≤(m:Int):=by omega
 have i1:(m:Int)<(s.vals.length:Int):=by have:=(List.getElem?_eq_some_iff.1 hm).1;omega
 have HT:=Lib.hid (tell_any h1.drew ho z hl)
 have HW:=Lib.hid hw1.drew
 generalize hvn:s.vals.length=vn at c7 i1
 have hC:(fun w'=>w'.cell? ⟨K.g,7,none⟩=some (.slice (some ⟨vb,0,none⟩) vn vc)∧w'.cell? ⟨W.heap.size,1,none⟩=some (.int .i64 (m:Nat))∧w'.cell? ⟨vb,m,none⟩=some (.int .i64 z)) (W.alloc (.cells #[.int .i64 t,.int .i64 (m:Nat),.int .i64 (pos:Nat),.int .i64 (next:Nat),.int .i64 (owed:Nat),.int .i64 x,.int .i64 y,.func (.func fa) #[] ca] 116)).drew:=⟨c7,x1,hz⟩
 clear hvn hm hvv
 clear h h1 hw1 hb1 bX hL ho hl
 go_enter Tryz.func51,Tryz.ntmps51
 go_wp2_with fail
 refine OrdU.wp_region_U 10 (fun w'=>w'.cell? ⟨K.g,7,none⟩=some (.slice (some ⟨vb,0,none⟩) vn vc)∧w'.cell? ⟨W.heap.size,1,none⟩=some (.int .i64 (m:Nat))∧w'.cell? ⟨vb,m,none⟩=some (.int .i64 z)) (by kernel_rfl) hC (fun hHeld=>?_)
 refine OrdU.tk 0 (h:=?_)
 refine OrdU.tk 1 (h:=?_)
 refine OrdU.tk 2 (h:=?_)
 refine OrdU.tk 3 (h:=?_)
 refine OrdU.tk 4 (h:=?_)
 refine OrdU.tk 5 (h:=?_)
 refine OrdU.tk 6 (h:=?_)
 refine OrdU.tk 7 (h:=?_)
 refine OrdU.tk 8 (h:=?_)
 refine OrdU.tk 9 (h:=?_)
 refine OrdU.one 10 (h:=fun K' hK=>?_)
 go_simp
 go_at_call 89
 with_reducible refine HT.out.mono ?_
 rintro e w2 hT
 obtain⟨hTT,v,rfl⟩:=hT.ends HW.out
 have HTT:=Lib.hid hTT
 clear hTT hT
 go_wp2_with fail
 refine OrdU.bk hK (h:=?_)
 clear hK K'
 refine OrdU.one 11 (h:=fun K' hK=>?_)
 exact zMachPH4
theorem act_element_out(h:PM K κ evv sv Y s S W)(hL:Live K s S)(t:Int)(m:Nat)(pos next owed:Nat)(x y:Int)(fa:FuncId)(ca:Array Value)(hm:m<s.arrs.length)(hq:y<0∨((arr s m).length:Int)≤y):Calls Tryz.prog 52 #[.pointer (some ⟨K.g,0,none⟩),.agg #[.int .i64 t,.int .i64 (m:Nat),.int .i64 (pos:Nat),.int .i64 (next:Nat),.int .i64 (owed:Nat),.int .i64 x,.int .i64 y,.func (.func fa) #[] ca]] W (Turn K κ W (s.stop 2 0,S)):=by
 have hb1:=(Below.refl W.heap.size W).alloc (Nat.le_refl _) (.cells #[.int .i64 t,.int .i64 (m:Nat),.int .i64 (pos:Nat),.int .i64 (next:Nat),.int .i64 (owed:Nat),.int .i64 x,.int .i64 y,.func (.func fa) #[] ca] 116)
 have bX:=Blk.new W 116 #[.int .i64 t,.int .i64 (m:Nat),.int .i64 (pos:Nat),.int .i64 (next:Nat),.int .i64 (owed:Nat),.int .i64 x,.int .i64 y,.func (.func fa) #[] ca]
 obtain⟨x0,x1,x2,x3,x4,x5,x6,x7⟩:=bX.eight
 have h1:=h.below hb1
 have hw1:=(Went.refl κ W).below hb1
 have hl:=hL.hl
 have ho:=hL.on
 obtain⟨ab,ac,yy,hav,hyy,hya,hz⟩:=h1.arr hm
 have c8:(W.alloc (.cells #[.int .i64 t,.int .i64 (m:Nat),.int .i64 (pos:Nat),.int .i64 (next:Nat),.int .i64 (owed:Nat),.int .i64 x,.int .i64 y,.func (.func fa) #[] ca] 116)).cell? ⟨K.g,8,none⟩=some (.slice (some ⟨ab,0,none⟩) s.arrs.length ac):=(h1.cell 8).trans (congrArg some hav)
 have i2:(0:Int)≤(m:Int):=by omega
 have i1:(m:Int)<(s.arrs.length:Int):=by omega
 have HO:=Lib.hid (fun A n c i w=>outside_any A n c i w)
 have HT:=Lib.hid (Turn.stopped h1.drew hw1.drew ho 2)
 rw [← hya] at hq
 have d1:decide (y<0∨(yy.2.length:Int)≤y)=true:=decide_eq_true hq
 generalize yy.2.length=yn at hz d1
 generalize yy.1.1=yA at hz
 generalize yy.1.2=yc at hz
 clear hq hya hyy hav hm
 generalize s.arrs.length=an at c8 i1
 clear h h1 hw1 hb1 bX hL ho hl
 go_enter Tryz.func52,Tryz.ntmps52
 exact zMachPH3
theorem act_element(h:PM K κ evv sv Y s S W)(hL:Live K s S)(t:Int)(m:Nat)(pos next owed:Nat)(x:Int)(j:Nat)(fa:FuncId)(ca:Array Value)(z:Int)(hm:m<s.arrs.length)(hj:(arr s m)[j]? = some z):Calls Tryz.prog 52 #[.pointer (some ⟨K.g,0,none⟩),.agg #[.int .i64 t,.int .i64 (m:Nat),.int .i64 (pos:Nat),.int .i64 (next:Nat),.int .i64 (owed:Nat),.int .i64 x,.int .i64 (j:Nat),.func (.func fa) #[] ca]] W (Turn K κ W (tellC z (s,S))):=by
 have hb1:=(Below.refl W.heap.size W).alloc (Nat.le_refl _) (.cells #[.int .i64 t,.int .i64 (m:Nat),.int .i64 (pos:Nat),.int .i64 (next:Nat),.int .i64 (owed:Nat),.int .i64 x,.int .i64 (j:Nat),.func (.func fa) #[] ca] 116)
 have bX:=Blk.new W 116 #[.int .i64 t,.int .i64 (m:Nat),.int .i64 (pos:Nat),.int .i64 (next:Nat),.int .i64 (owed:Nat),.int .i64 x,.int .i64 (j:Nat),.func (.func fa) #[] ca]
 obtain⟨x0,x1,x2,x3,x4,x5,x6,x7⟩:=bX.eight
 have h1:=h.below hb1
 have hw1:=(Went.refl κ W).below hb1
 have hl:=hL.hl
 have ho:=hL.on
 obtain⟨ab,ac,yy,hav,hyy,hya,hz⟩:=h1.arr hm
 have c8:(W.alloc (.cells #[.int .i64 t,.int .i64 (m:Nat),.int .i64 (pos:Nat),.int .i64 (next:Nat),.int .i64 (owed:Nat),.int .i64 x,.int .i64 (j:Nat),.func (.func fa) #[] ca] 116)).cell? ⟨K.g,8,none⟩=some (.slice (some ⟨ab,0,none⟩) s.arrs.length ac):=(h1.cell 8).trans (congrArg some hav)
 have i2:(0:Int)≤(m:Int):=by omega
 have i1:(m:Int)<(s.arrs.length:Int):=by omega
 have HO:=Lib.hid (fun A n c i w=>outside_any A n c i w)
 obtain⟨yb,hyA,hyb,he,hfz⟩:=h1.elem hyy (j:=j) (z:=z) (by rw [hya];exact hj)
 rw [hyA] at hz
 have hjl:j<yy.2.length:=by rw [hya];exact(List.getElem?_eq_some_iff.1 hj).1
 have i4:(0:Int)≤(j:Int):=by omega
 have i3:(j:Int)<(yy.2.length:Int):=by omega
 have d1:decide ((j:Int)<0∨(yy.2.length:Int)≤(j:Int))=false:=decide_eq_false (by omega)
 have HT:=Lib.hid (tell_any h1.drew ho z hl)
 have HW:=Lib.hid hw1.drew
 clear hjl hyb hyA hya hyy hav hm hj hfz
 generalize yy.2.length=yn at hz d1 i3
 generalize yy.1.2=yc at hz
 generalize s.arrs.length=an at c8 i1
 clear h h1 hw1 hb1 bX hL ho hl
 go_enter Tryz.func52,Tryz.ntmps52
 go_wp2_with fail
 go_region
 go_wp2_with (first | (go_at_call 90;(with_reducible refine(HO.out _ _ _ _ _).mono ?_);rintro e w1 ⟨rfl,rfl⟩) | (go_at_call 89;(with_reducible refine HT.out.mono ?_);rintro e w2 hT;obtain⟨hTT,v,rfl⟩:=hT.ends HW.out;have HTT:=Lib.hid hTT;clear hTT hT) | fail)
 go_ret
 exact HTT.out
theorem act_set(h:PM K κ evv sv Y s S W)(hL:Live K s S)(t:Int)(m:Nat)(pos next owed:Nat)(x y:Int)(fa:FuncId)(ca:Array Value)(hm:m<s.vals.length):Calls Tryz.prog 71 #[.pointer (some ⟨K.g,0,none⟩),.agg #[.int .i64 t,.int .i64 (m:Nat),.int .i64 (pos:Nat),.int .i64 (next:Nat),.int .i64 (owed:Nat),.int .i64 x,.int .i64 y,.func (.func fa) #[] ca]] W (Turn K κ W (tellC 0 ({ s with vals:=s.vals.set m y,ev:=s.ev++[((m:Int),-1,y)] },S))):=by
 have hb1:=(Below.refl W.heap.size W).alloc (Nat.le_refl _) (.cells #[.int .i64 t,.int .i64 (m:Nat),.int .i64 (pos:Nat),.int .i64 (next:Nat),.int .i64 (owed:Nat),.int .i64 x,.int .i64 y,.func (.func fa) #[] ca] 116)
 have bX:=Blk.new W 116 #[.int .i64 t,.int .i64 (m:Nat),.int .i64 (pos:Nat),.int .i64 (next:Nat),.int .i64 (owed:Nat),.int .i64 x,.int .i64 y,.func (.func fa) #[] ca]
 obtain⟨x0,x1,x2,x3,x4,x5,x6,x7⟩:=bX.eight
 have h1:=h.below hb1
 have hw1:=(Went.refl κ W).below hb1
 have hl:=hL.hl
 have ho:=hL.on
 obtain⟨z,hz0⟩:∃ z,s.vals[m]? = some z:=⟨_,List.getElem?_eq_getElem hm⟩
 obtain⟨vb,vc,hvv,hvb,hz,hfz⟩:=h1.var hz0
 have c7:(W.alloc (.cells #[.int .i64 t,.int .i64 (m:Nat),.int .i64 (pos:Nat),.int .i64 (next:Nat),.int .i64 (owed:Nat),.int .i64 x,.int .i64 y,.func (.func fa) #[] ca] 116)).cell? ⟨K.g,7,none⟩=some (.slice (some ⟨vb,0,none⟩) s.vals.length vc):=(h1.cell 7).trans (congrArg some hvv)
 have i2:(0:Int)≤(m:Int):=by omega
 have i1:(m:Int)<(s.vals.length:Int):=by omega
 have hbA:=(Below.refl (W.setCell ⟨vb,m,none⟩ (.int .i64 y)).heap.size (W.setCell ⟨vb,m,none⟩ (.int .i64 y))).alloc (Nat.le_refl _) (.cells #[.int .i64 t,.int .i64 (m:Nat),.int .i64 (pos:Nat),.int .i64 (next:Nat),.int .i64 (owed:Nat),.int .i64 x,.int .i64 y,.func (.func fa) #[] ca] 116)
 have h2:=((h.set_v hvb hm y).below hbA).drew
 have hw2:=(((Went.refl κ W).setCell (a:=⟨vb,m,none⟩) (.inl (by show κ vb≠0;rw [h1.lab.v vb hvb];decide)) (.int .i64 y)).below hbA).drew
 have HT:=Lib.hid (store_any h2 ho hl hL.he m (-1) y)
 have HW:=Lib.hid hw2
 have f1:=hfz m
 have hvlt:=(h.lab.lt vb (by rw [h.lab.v vb hvb];decide)).2
 have hlt:=(h1.lab.lt vb (by rw [h1.lab.v vb hvb];decide)).2
 have hlg:=h1.glt.2
 generalize hvn:s.vals.length=vn at c7 i1
 clear hvn hm hvv hvb hfz h2 hw2 hz0 hbA
 clear h h1 hw1 hb1 bX hL ho hl
 go_enter Tryz.func71,Tryz.ntmps71
 go_wp2_with fail
 go_region
 go_wp2_with (first | (go_at_call 95;(with_reducible refine HT.out.mono ?_);rintro e w2 hT;obtain⟨hTT,v,rfl⟩:=hT.ends HW.out;have HTT:=Lib.hid hTT;clear hTT hT) | fail)
 go_ret
 exact HTT.out
theorem act_put_out(h:PM K κ evv sv Y s S W)(hL:Live K s S)(t:Int)(m:Nat)(pos next owed:Nat)(x y:Int)(fa:FuncId)(ca:Array Value)(hm:m<s.arrs.length)(hq:x<0∨((arr s m).length:Int)≤x):Calls Tryz.prog 72 #[.pointer (some ⟨K.g,0,none⟩),.agg #[.int .i64 t,.int .i64 (m:Nat),.int .i64 (pos:Nat),.int .i64 (next:Nat),.int .i64 (owed:Nat),.int .i64 x,.int .i64 y,.func (.func fa) #[] ca]] W (Turn K κ W (s.stop 2 0,S)):=by
 have hb1:=(Below.refl W.heap.size W).alloc (Nat.le_refl _) (.cells #[.int .i64 t,.int .i64 (m:Nat),.int .i64 (pos:Nat),.int .i64 (next:Nat),.int .i64 (owed:Nat),.int .i64 x,.int .i64 y,.func (.func fa) #[] ca] 116)
 have bX:=Blk.new W 116 #[.int .i64 t,.int .i64 (m:Nat),.int .i64 (pos:Nat),.int .i64 (next:Nat),.int .i64 (owed:Nat),.int .i64 x,.int .i64 y,.func (.func fa) #[] ca]
 obtain⟨x0,x1,x2,x3,x4,x5,x6,x7⟩:=bX.eight
 have h1:=h.below hb1
 have hw1:=(Went.refl κ W).below hb1
 have hl:=hL.hl
 have ho:=hL.on
 obtain⟨ab,ac,yy,hav,hyy,hya,hz⟩:=h1.arr hm
 have c8:(W.alloc (.cells #[.int .i64 t,.int .i64 (m:Nat),.int .i64 (pos:Nat),.int .i64 (next:Nat),.int .i64 (owed:Nat),.int .i64 x,.int .i64 y,.func (.func fa) #[] ca] 116)).cell? ⟨K.g,8,none⟩=some (.slice (some ⟨ab,0,none⟩) s.arrs.length ac):=(h1.cell 8).trans (congrArg some hav)
 have i2:(0:Int)≤(m:Int):=by omega
 have i1:(m:Int)<(s.arrs.length:Int):=by omega
 have HO:=Lib.hid (fun A n c i w=>outside_any A n c i w)
 have HT:=Lib.hid (Turn.stopped h1.drew hw1.drew ho 2)
 rw [← hya] at hq
 have d1:decide (x<0∨(yy.2.length:Int)≤x)=true:=decide_eq_true hq
 generalize yy.2.length=yn at hz d1
 generalize yy.1.1=yA at hz
 generalize yy.1.2=yc at hz
 clear hq hya hyy hav hm
 generalize s.arrs.length=an at c8 i1
 clear h h1 hw1 hb1 bX hL ho hl
 go_enter Tryz.func72,Tryz.ntmps72
 exact zMachPH3
theorem act_put(h:PM K κ evv sv Y s S W)(hL:Live K s S)(t:Int)(m:Nat)(pos next owed:Nat)(j:Nat)(y:Int)(fa:FuncId)(ca:Array Value)(hm:m<s.arrs.length)(hj:j<(arr s m).length):Calls Tryz.prog 72 #[.pointer (some ⟨K.g,0,none⟩),.agg #[.int .i64 t,.int .i64 (m:Nat),.int .i64 (pos:Nat),.int .i64 (next:Nat),.int .i64 (owed:Nat),.int .i64 (j:Nat),.int .i64 y,.func (.func fa) #[] ca]] W (Turn K κ W (tellC 0 ({ s with arrs:=s.arrs.set m ((arr s m).set j y),ev:=s.ev++[((m:Int),(j:Int),y)] },S))):=by
 have hb1:=(Below.refl W.heap.size W).alloc (Nat.le_refl _) (.cells #[.int .i64 t,.int .i64 (m:Nat),.int .i64 (pos:Nat),.int .i64 (next:Nat),.int .i64 (owed:Nat),.int .i64 (j:Nat),.int .i64 y,.func (.func fa) #[] ca] 116)
 have bX:=Blk.new W 116 #[.int .i64 t,.int .i64 (m:Nat),.int .i64 (pos:Nat),.int .i64 (next:Nat),.int .i64 (owed:Nat),.int .i64 (j:Nat),.int .i64 y,.func (.func fa) #[] ca]
 obtain⟨x0,x1,x2,x3,x4,x5,x6,x7⟩:=bX.eight
 have h1:=h.below hb1
 have hw1:=(Went.refl κ W).below hb1
 have hl:=hL.hl
 have ho:=hL.on
 obtain⟨ab,ac,yy,hav,hyy,hya,hz⟩:=h1.arr hm
 have c8:(W.alloc (.cells #[.int .i64 t,.int .i64 (m:Nat),.int .i64 (pos:Nat),.int .i64 (next:Nat),.int .i64 (owed:Nat),.int .i64 (j:Nat),.int .i64 y,.func (.func fa) #[] ca] 116)).cell? ⟨K.g,8,none⟩=some (.slice (some ⟨ab,0,none⟩) s.arrs.length ac):=(h1.cell 8).trans (congrArg some hav)
 have i2:(0:Int)≤(m:Int):=by omega
 have i1:(m:Int)<(s.arrs.length:Int):=by omega
 have HO:=Lib.hid (fun A n c i w=>outside_any A n c i w)
 have hj0:=hj
 obtain⟨z,hz9⟩:∃ z,yy.2[j]? = some z:=⟨_,List.getElem?_eq_getElem (by rw [hya];exact hj)⟩
 obtain⟨yb,hyA,hyb,he,hfz⟩:=h1.elem hyy hz9
 rw [hyA] at hz
 have hjl:j<yy.2.length:=by rw [hya];exact hj
 have i4:(0:Int)≤(j:Int):=by omega
 have i3:(j:Int)<(yy.2.length:Int):=by omega
 have d1:decide ((j:Int)<0∨(yy.2.length:Int)≤(j:Int))=false:=decide_eq_false (by omega)
 have hbA:=(Below.refl (W.setCell ⟨yb,j,none⟩ (.int .i64 y)).heap.size (W.setCell ⟨yb,j,none⟩ (.int .i64 y))).alloc (Nat.le_refl _) (.cells #[.int .i64 t,.int .i64 (m:Nat),.int .i64 (pos:Nat),.int .i64 (next:Nat),.int .i64 (owed:Nat),.int .i64 (j:Nat),.int .i64 y,.func (.func fa) #[] ca] 116)
 have h2:=((h.set_a hyy hyb hjl y).below hbA).drew
 have hw2:=(((Went.refl κ W).setCell (a:=⟨yb,j,none⟩) (.inl (by show κ yb≠0;rw [h1.lab.y m yy yb hyy hyb];omega)) (.int .i64 y)).below hbA).drew
 rw [hya] at h2
 have HT:=Lib.hid (store_any h2 ho hl hL.he m j y)
 have HW:=Lib.hid hw2
 have f1:=hfz j
 have hvlt:=(h.lab.lt yb (by rw [h.lab.y m yy yb hyy hyb];omega)).2
 have hlt:=(h1.lab.lt yb (by rw [h1.lab.y m yy yb hyy hyb];omega)).2
 have hlg:=h1.glt.2
 clear hjl hyb hyA hya hyy hav hm hj hfz hj0 hz9 h2 hw2 hbA
 generalize yy.2.length=yn at hz d1 i3
 generalize yy.1.2=yc at hz
 generalize s.arrs.length=an at c8 i1
 clear h h1 hw1 hb1 bX hL ho hl
 go_enter Tryz.func72,Tryz.ntmps72
 go_wp2_with fail
 go_region
 go_wp2_with (first | (go_at_call 90;(with_reducible refine(HO.out _ _ _ _ _).mono ?_);rintro e w1 ⟨rfl,rfl⟩) | (go_at_call 95;(with_reducible refine HT.out.mono ?_);rintro e w2 hT;obtain⟨hTT,v,rfl⟩:=hT.ends HW.out;have HTT:=Lib.hid hTT;clear hTT hT) | fail)
 go_ret
 exact HTT.out
theorem act_branch(h:PM K κ evv sv Y s S W)(hL:Live K s S)(t N:Int)(pos next owed:Nat)(x y:Int)(fa:FuncId)(ca:Array Value)(hk:IsNode K.p.xs next)(hk2:IsNode K.p.xs (behind K.p.xs next)):Calls Tryz.prog 73 #[.pointer (some ⟨K.g,0,none⟩),.agg #[.int .i64 t,.int .i64 N,.int .i64 (pos:Nat),.int .i64 (next:Nat),.int .i64 (owed:Nat),.int .i64 x,.int .i64 y,.func (.func fa) #[] ca]] W (Turn K κ W (if y=1 then enterC K.p.xs next (s,S) else enterC K.p.xs (behind K.p.xs next) (s,S))):=by
 have hb1:=(Below.refl W.heap.size W).alloc (Nat.le_refl _) (.cells #[.int .i64 t,.int .i64 N,.int .i64 (pos:Nat),.int .i64 (next:Nat),.int .i64 (owed:Nat),.int .i64 x,.int .i64 y,.func (.func fa) #[] ca] 116)
 have bX:=Blk.new W 116 #[.int .i64 t,.int .i64 N,.int .i64 (pos:Nat),.int .i64 (next:Nat),.int .i64 (owed:Nat),.int .i64 x,.int .i64 y,.func (.func fa) #[] ca]
 obtain⟨x0,x1,x2,x3,x4,x5,x6,x7⟩:=bX.eight
 have h1:=h.below hb1
 have hw1:=(Went.refl κ W).below hb1
 have hl:=hL.hl
 have ho:=hL.on
 have c5:(W.alloc (.cells #[.int .i64 t,.int .i64 N,.int .i64 (pos:Nat),.int .i64 (next:Nat),.int .i64 (owed:Nat),.int .i64 x,.int .i64 y,.func (.func fa) #[] ca] 116)).cell? ⟨K.g,5,none⟩=some (.slice (some ⟨K.eb,0,none⟩) K.p.xs.length K.ec):=h1.cell 5
 have ce:=h1.cn.ends next hk
 have HT:=Lib.hid (enter_any16 h1 hL hk)
 have HU:=Lib.hid (enter_any16 h1.drew hL hk2)
 have HW:=Lib.hid hw1
 have HW2:=Lib.hid hw1.drew
 have hkl:=hk.get
 have i1:(next:Int)<(K.p.xs.length:Int):=by obtain⟨_,_,_,_,_,q,_⟩:=hkl;omega
 have i2:(0:Int)≤(next:Int):=by omega
 have hC:(fun w'=>w'.cell? ⟨K.g,5,none⟩=some (.slice (some ⟨K.eb,0,none⟩) K.p.xs.length K.ec)∧w'.cell? ⟨W.heap.size,3,none⟩=some (.int .i64 (next:Nat))∧w'.cell? ⟨K.eb,next,none⟩=some (.int .i64 (behind K.p.xs next:Nat))) (W.alloc (.cells #[.int .i64 t,.int .i64 N,.int .i64 (pos:Nat),.int .i64 (next:Nat),.int .i64 (owed:Nat),.int .i64 x,.int .i64 y,.func (.func fa) #[] ca] 116)).drew:=⟨c5,x3,ce⟩
 clear hk hk2 hkl
 clear h h1 hw1 hb1 bX hL ho hl
 go_enter Tryz.func73,Tryz.ntmps73
 by_cases hz:y=1
 ·rw [if_pos hz]
  subst hz
  exact zMachPH2
 ·rw [if_neg hz]
  have hz2:(y==1)=false:=by simp;exact hz
  clear hz
  go_wp2_with fail
  refine OrdU.wp_region_U 9 (fun w'=>w'.cell? ⟨K.g,5,none⟩=some (.slice (some ⟨K.eb,0,none⟩) K.p.xs.length K.ec)∧w'.cell? ⟨W.heap.size,3,none⟩=some (.int .i64 (next:Nat))∧w'.cell? ⟨K.eb,next,none⟩=some (.int .i64 (behind K.p.xs next:Nat))) (by kernel_rfl) hC (fun hHeld=>?_)
  refine OrdU.tk 0 (h:=?_)
  refine OrdU.tk 1 (h:=?_)
  refine OrdU.tk 2 (h:=?_)
  refine OrdU.tk 3 (h:=?_)
  refine OrdU.tk 4 (h:=?_)
  refine OrdU.tk 5 (h:=?_)
  refine OrdU.tk 6 (h:=?_)
  refine OrdU.tk 7 (h:=?_)
  refine OrdU.tk 8 (h:=?_)
  refine OrdU.one 9 (h:=fun K' hK=>?_)
  go_simp
  go_at_call 29
  with_reducible refine HU.out.mono ?_
  rintro e w2 hT
  obtain⟨hTT,v,rfl⟩:=hT.ends HW2.out
  have HTT:=Lib.hid hTT
  clear hTT hT
  go_wp2_with fail
  refine OrdU.bk hK (h:=?_)
  clear hK K'
  refine OrdU.one 10 (h:=fun K' hK=>?_)
  exact zMachPH4
end
section
variable {K:PK} {κ:Nat→Nat} {evv sv:Value} {Y:List ((Option Addr×Nat)×List Int)} {s:St} {S:List Fr} {W W':World}
theorem act_loop(h:PM K κ evv sv Y s S W)(hL:Live K s S)(t N:Int)(pos next owed:Nat)(x y:Int)(fa:FuncId)(ca:Array Value):Calls Tryz.prog 74 #[.pointer (some ⟨K.g,0,none⟩),.agg #[.int .i64 t,.int .i64 N,.int .i64 (pos:Nat),.int .i64 (next:Nat),.int .i64 (owed:Nat),.int .i64 x,.int .i64 y,.func (.func fa) #[] ca]] W (Turn K κ W (if y=0 then tellC 0 (s,S) else(s,⟨(t,N),pos,next,1,x,y,true⟩::S))):=by
 have hb1:=(Below.refl W.heap.size W).alloc (Nat.le_refl _) (.cells #[.int .i64 t,.int .i64 N,.int .i64 (pos:Nat),.int .i64 (next:Nat),.int .i64 (owed:Nat),.int .i64 x,.int .i64 y,.func (.func fa) #[] ca] 116)
 have bX:=Blk.new W 116 #[.int .i64 t,.int .i64 N,.int .i64 (pos:Nat),.int .i64 (next:Nat),.int .i64 (owed:Nat),.int .i64 x,.int .i64 y,.func (.func fa) #[] ca]
 obtain⟨x0,x1,x2,x3,x4,x5,x6,x7⟩:=bX.eight
 have h1:=h.below hb1
 have hw1:=(Went.refl κ W).below hb1
 have hl:=hL.hl
 have ho:=hL.on
 obtain⟨A,c,rfl⟩:=h.slice
 have HT:=Lib.hid (tell_any h1 ho 0 hl)
 have HW:=Lib.hid hw1
 have HO:=Lib.hid ho
 have HL:=Lib.hid h.lab
 have hb2:=(Below.refl W.heap.size W).alloc (Nat.le_refl _) (.cells #[.int .i64 t,.int .i64 N,.int .i64 (pos:Nat),.int .i64 (next:Nat),.int .i64 1,.int .i64 x,.int .i64 y,.func (.func 96) #[] #[]] 116)
 have h2:=h.below hb2
 have hw2:=(Went.refl κ W).below hb2
 have b2:=Blk.new W 116 #[.int .i64 t,.int .i64 N,.int .i64 (pos:Nat),.int .i64 (next:Nat),.int .i64 1,.int .i64 x,.int .i64 y,.func (.func 96) #[] #[]]
 obtain⟨ig,hig,hz0,hz1,hz2⟩:=info_parts info_frame
 have hsz:=h.cn.size
 have hlS:=hL.hl
 have c7:(W.alloc (.cells #[.int .i64 t,.int .i64 N,.int .i64 (pos:Nat),.int .i64 (next:Nat),.int .i64 1,.int .i64 x,.int .i64 y,.func (.func 96) #[] #[]] 116)).cell? ⟨K.g,10,none⟩=some (.slice A S.length c):=h2.cell 10
 clear hb2
 clear h h1 hw1 hb1 bX hL ho hl
 go_enter Tryz.func74,Tryz.ntmps74
 by_cases hz:y=0
 ·rw [if_pos hz]
  subst hz
  exact zMachPH0
 ·rw [if_neg hz]
  have hyz:(y==0)=false:=by simp;exact hz
  clear hz
  clear x0 x1 x2 x3 x4 x5 x7
  go_wp2_with fail
  obtain⟨k0,k1,k2,k3,k4,k5,k6,k7⟩:(W.alloc (.cells #[.int .i64 t,.int .i64 N,.int .i64 (pos:Nat),.int .i64 (next:Nat),.int .i64 1,.int .i64 x,.int .i64 y,.func (.func 96) #[] #[]] 116)).drew.cell? ⟨W.heap.size,0,none⟩=some (.int .i64 t)∧(W.alloc (.cells #[.int .i64 t,.int .i64 N,.int .i64 (pos:Nat),.int .i64 (next:Nat),.int .i64 1,.int .i64 x,.int .i64 y,.func (.func 96) #[] #[]] 116)).drew.cell? ⟨W.heap.size,1,none⟩=some (.int .i64 N)∧(W.alloc (.cells #[.int .i64 t,.int .i64 N,.int .i64 (pos:Nat),.int .i64 (next:Nat),.int .i64 1,.int .i64 x,.int .i64 y,.func (.func 96) #[] #[]] 116)).drew.cell? ⟨W.heap.size,2,none⟩=some (.int .i64 (pos:Nat))∧(W.alloc (.cells #[.int .i64 t,.int .i64 N,.int .i64 (pos:Nat),.int .i64 (next:Nat),.int .i64 1,.int .i64 x,.int .i64 y,.func (.func 96) #[] #[]] 116)).drew.cell? ⟨W.heap.size,3,none⟩=some (.int .i64 (next:Nat))∧(W.alloc (.cells #[.int .i64 t,.int .i64 N,.int .i64 (pos:Nat),.int .i64 (next:Nat),.int .i64 1,.int .i64 x,.int .i64 y,.func (.func 96) #[] #[]] 116)).drew.cell? ⟨W.heap.size,4,none⟩=some (.int .i64 1)∧(W.alloc (.cells #[.int .i64 t,.int .i64 N,.int .i64 (pos:Nat),.int .i64 (next:Nat),.int .i64 1,.int .i64 x,.int .i64 y,.func (.func 96) #[] #[]] 116)).drew.cell? ⟨W.heap.size,5,none⟩=some (.int .i64 x)∧(W.alloc (.cells #[.int .i64 t,.int .i64 N,.int .i64 (pos:Nat),.int .i64 (next:Nat),.int .i64 1,.int .i64 x,.int .i64 y,.func (.func 96) #[] #[]] 116)).drew.cell? ⟨W.heap.size,6,none⟩=some (.int .i64 y)∧(W.alloc (.cells #[.int .i64 t,.int .i64 N,.int .i64 (pos:Nat),.int .i64 (next:Nat),.int .i64 1,.int .i64 x,.int .i64 y,.func (.func 96) #[] #[]] 116)).drew.cell? ⟨W.heap.size,7,none⟩=some (.func (.func 96) #[] #[]):=⟨b2.cell 0,b2.cell 1,b2.cell 2,b2.cell 3,b2.cell 4,b2.cell 5,b2.cell 6,b2.cell 7⟩
  have hC0:(fun w'=>w'.cell? ⟨K.g,10,none⟩=some (.slice A S.length c)∧w'.cell? ⟨W.heap.size,0,none⟩=some (.int .i64 t)∧w'.cell? ⟨W.heap.size,1,none⟩=some (.int .i64 N)∧w'.cell? ⟨W.heap.size,2,none⟩=some (.int .i64 (pos:Nat))∧w'.cell? ⟨W.heap.size,3,none⟩=some (.int .i64 (next:Nat))∧w'.cell? ⟨W.heap.size,4,none⟩=some (.int .i64 1)∧w'.cell? ⟨W.heap.size,5,none⟩=some (.int .i64 x)∧w'.cell? ⟨W.heap.size,6,none⟩=some (.int .i64 y)∧w'.cell? ⟨W.heap.size,7,none⟩=some (.func (.func 96) #[] #[])) (W.alloc (.cells #[.int .i64 t,.int .i64 N,.int .i64 (pos:Nat),.int .i64 (next:Nat),.int .i64 1,.int .i64 x,.int .i64 y,.func (.func 96) #[] #[]] 116)).drew:=⟨h2.cell 10,k0,k1,k2,k3,k4,k5,k6,k7⟩
  have hO2:=h2.sr
  refine OrdU.wp_region_U 10 (fun w'=>w'.cell? ⟨K.g,10,none⟩=some (.slice A S.length c)∧w'.cell? ⟨W.heap.size,0,none⟩=some (.int .i64 t)∧w'.cell? ⟨W.heap.size,1,none⟩=some (.int .i64 N)∧w'.cell? ⟨W.heap.size,2,none⟩=some (.int .i64 (pos:Nat))∧w'.cell? ⟨W.heap.size,3,none⟩=some (.int .i64 (next:Nat))∧w'.cell? ⟨W.heap.size,4,none⟩=some (.int .i64 1)∧w'.cell? ⟨W.heap.size,5,none⟩=some (.int .i64 x)∧w'.cell? ⟨W.heap.size,6,none⟩=some (.int .i64 y)∧w'.cell? ⟨W.heap.size,7,none⟩=some (.func (.func 96) #[] #[])) (by kernel_rfl) hC0 (fun hHeld=>?_)
  refine OrdU.tk 0 (h:=?_)
  refine OrdU.tk 1 (h:=?_)
  refine OrdU.tk 2 (h:=?_)
  refine OrdU.tk 3 (h:=?_)
  refine OrdU.tk 4 (h:=?_)
  refine OrdU.tk 5 (h:=?_)
  have hb3:=(Below.refl (W.alloc (.cells #[.int .i64 t,.int .i64 N,.int .i64 (pos:Nat),.int .i64 (next:Nat),.int .i64 1,.int .i64 x,.int .i64 y,.func (.func 96) #[] #[]] 116)).drew.heap.size (W.alloc (.cells #[.int .i64 t,.int .i64 N,.int .i64 (pos:Nat),.int .i64 (next:Nat),.int .i64 1,.int .i64 x,.int .i64 y,.func (.func 96) #[] #[]] 116)).drew).alloc (Nat.le_refl _) (.cells #[.int .i64 t,.int .i64 N,.int .i64 (pos:Nat),.int .i64 (next:Nat),.int .i64 1,.int .i64 x,.int .i64 y,.func (.func 96) #[] #[]] 116)
  have h3:=h2.drew.below hb3
  have hw3:=hw2.drew.below hb3
  have b3:=b2.drew.below hb3 b2.lt
  have hO3:=h3.sr
  obtain⟨k0,k1,k2,k3,k4,k5,k6,k7⟩:((W.alloc (.cells #[.int .i64 t,.int .i64 N,.int .i64 (pos:Nat),.int .i64 (next:Nat),.int .i64 1,.int .i64 x,.int .i64 y,.func (.func 96) #[] #[]] 116)).alloc (.cells #[.int .i64 t,.int .i64 N,.int .i64 (pos:Nat),.int .i64 (next:Nat),.int .i64 1,.int .i64 x,.int .i64 y,.func (.func 96) #[] #[]] 116)).drew.cell? ⟨W.heap.size,0,none⟩=some (.int .i64 t)∧((W.alloc (.cells #[.int .i64 t,.int .i64 N,.int .i64 (pos:Nat),.int .i64 (next:Nat),.int .i64 1,.int .i64 x,.int .i64 y,.func (.func 96) #[] #[]] 116)).alloc (.cells #[.int .i64 t,.int .i64 N,.int .i64 (pos:Nat),.int .i64 (next:Nat),.int .i64 1,.int .i64 x,.int .i64 y,.func (.func 96) #[] #[]] 116)).drew.cell? ⟨W.heap.size,1,none⟩=some (.int .i64 N)∧((W.alloc (.cells #[.int .i64 t,.int .i64 N,.int .i64 (pos:Nat),.int .i64 (next:Nat),.int .i64 1,.int .i64 x,.int .i64 y,.func (.func 96) #[] #[]] 116)).alloc (.cells #[.int .i64 t,.int .i64 N,.int .i64 (pos:Nat),.int .i64 (next:Nat),.int .i64 1,.int .i64 x,.int .i64 y,.func (.func 96) #[] #[]] 116)).drew.cell? ⟨W.heap.size,2,none⟩=some (.int .i64 (pos:Nat))∧((W.alloc (.cells #[.int .i64 t,.int .i64 N,.int .i64 (pos:Nat),.int .i64 (next:Nat),.int .i64 1,.int .i64 x,.int .i64 y,.func (.func 96) #[] #[]] 116)).alloc (.cells #[.int .i64 t,.int .i64 N,.int .i64 (pos:Nat),.int .i64 (next:Nat),.int .i64 1,.int .i64 x,.int .i64 y,.func (.func 96) #[] #[]] 116)).drew.cell? ⟨W.heap.size,3,none⟩=some (.int .i64 (next:Nat))∧((W.alloc (.cells #[.int .i64 t,.int .i64 N,.int .i64 (pos:Nat),.int .i64 (next:Nat),.int .i64 1,.int .i64 x,.int .i64 y,.func (.func 96) #[] #[]] 116)).alloc (.cells #[.int .i64 t,.int .i64 N,.int .i64 (pos:Nat),.int .i64 (next:Nat),.int .i64 1,.int .i64 x,.int .i64 y,.func (.func 96) #[] #[]] 116)).drew.cell? ⟨W.heap.size,4,none⟩=some (.int .i64 1)∧((W.alloc (.cells #[.int .i64 t,.int .i64 N,.int .i64 (pos:Nat),.int .i64 (next:Nat),.int .i64 1,.int .i64 x,.int .i64 y,.func (.func 96) #[] #[]] 116)).alloc (.cells #[.int .i64 t,.int .i64 N,.int .i64 (pos:Nat),.int .i64 (next:Nat),.int .i64 1,.int .i64 x,.int .i64 y,.func (.func 96) #[] #[]] 116)).drew.cell? ⟨W.heap.size,5,none⟩=some (.int .i64 x)∧((W.alloc (.cells #[.int .i64 t,.int .i64 N,.int .i64 (pos:Nat),.int .i64 (next:Nat),.int .i64 1,.int .i64 x,.int .i64 y,.func (.func 96) #[] #[]] 116)).alloc (.cells #[.int .i64 t,.int .i64 N,.int .i64 (pos:Nat),.int .i64 (next:Nat),.int .i64 1,.int .i64 x,.int .i64 y,.func (.func 96) #[] #[]] 116)).drew.cell? ⟨W.heap.size,6,none⟩=some (.int .i64 y)∧((W.alloc (.cells #[.int .i64 t,.int .i64 N,.int .i64 (pos:Nat),.int .i64 (next:Nat),.int .i64 1,.int .i64 x,.int .i64 y,.func (.func 96) #[] #[]] 116)).alloc (.cells #[.int .i64 t,.int .i64 N,.int .i64 (pos:Nat),.int .i64 (next:Nat),.int .i64 1,.int .i64 x,.int .i64 y,.func (.func 96) #[] #[]] 116)).drew.cell? ⟨W.heap.size,7,none⟩=some (.func (.func 96) #[] #[]):=⟨b3.cell 0,b3.cell 1,b3.cell 2,b3.cell 3,b3.cell 4,b3.cell 5,b3.cell 6,b3.cell 7⟩
  have hC3:(fun w'=>w'.cell? ⟨K.g,10,none⟩=some (.slice A S.length c)∧w'.cell? ⟨W.heap.size,0,none⟩=some (.int .i64 t)∧w'.cell? ⟨W.heap.size,1,none⟩=some (.int .i64 N)∧w'.cell? ⟨W.heap.size,2,none⟩=some (.int .i64 (pos:Nat))∧w'.cell? ⟨W.heap.size,3,none⟩=some (.int .i64 (next:Nat))∧w'.cell? ⟨W.heap.size,4,none⟩=some (.int .i64 1)∧w'.cell? ⟨W.heap.size,5,none⟩=some (.int .i64 x)∧w'.cell? ⟨W.heap.size,6,none⟩=some (.int .i64 y)∧w'.cell? ⟨W.heap.size,7,none⟩=some (.func (.func 96) #[] #[])) ((W.alloc (.cells #[.int .i64 t,.int .i64 N,.int .i64 (pos:Nat),.int .i64 (next:Nat),.int .i64 1,.int .i64 x,.int .i64 y,.func (.func 96) #[] #[]] 116)).alloc (.cells #[.int .i64 t,.int .i64 N,.int .i64 (pos:Nat),.int .i64 (next:Nat),.int .i64 1,.int .i64 x,.int .i64 y,.func (.func 96) #[] #[]] 116)).drew:=⟨h3.cell 10,k0,k1,k2,k3,k4,k5,k6,k7⟩
  refine OrdU.one 6 (h:=fun K' hK=>?_)
  go_simp
  refine OrdU.bh hK (hC3) (h:=fun hHeld=>?_)
  clear hK K'
  refine OrdU.one 7 (h:=fun K' hK=>?_)
  refine step_append_lies _ (by rfl) _ _ _ (by rfl) K.base 116 ig _ 8 64 Tryz.underlying45 hig hz0 hz1 hz2 rfl (by omega) _ S.length _ (by rfl) hO3 ⟨W.heap.size+1,0,none⟩ 1 1 [.int .i64 t,.int .i64 N,.int .i64 (pos:Nat),.int .i64 (next:Nat),.int .i64 1,.int .i64 x,.int .i64 y,.func (.func 96) #[] #[]] (by rfl) (by rfl) (World.news_of_block (cs:=#[.int .i64 t,.int .i64 N,.int .i64 (pos:Nat),.int .i64 (next:Nat),.int .i64 1,.int .i64 x,.int .i64 y,.func (.func 96) #[] #[]]) (t:=116) (fr:=(0,0)) (by have:=heap_alloc_new (W.alloc (.cells #[.int .i64 t,.int .i64 N,.int .i64 (pos:Nat),.int .i64 (next:Nat),.int .i64 1,.int .i64 x,.int .i64 y,.func (.func 96) #[] #[]] 116)) (.cells #[.int .i64 t,.int .i64 N,.int .i64 (pos:Nat),.int .i64 (next:Nat),.int .i64 1,.int .i64 x,.int .i64 y,.func (.func 96) #[] #[]] 116);rwa [World.size_alloc] at this)) (by simp [Value.oneCell']) (by omega) (by simp only [maxLen];omega) (by omega) (by simp;omega) (W.heap.size+2) (by simp) ?_
  intro gg cap4 w5 hown hgr hat hlt5
  have hnb:∀ i,κ i≠5→some i≠(Value.slice A S.length c).ownBlock:=fun i hi z=>hi (HL.out.s i z.symm)
  have bG:=h3.blk.grown hgr (hnb _ (by rw [HL.out.g];decide))
  have y4:w5.cell? ⟨K.g,10,none⟩=some (.slice A S.length c):=bG.cell 10
  have yf:=bG.frozen 10
  have b5:=b3.grown hgr (fun z=>by have q1:=HL.out.s _ z.symm;have q2:=HL.out.lt W.heap.size (by omega);omega)
  obtain⟨k0,k1,k2,k3,k4,k5,k6,k7⟩:w5.cell? ⟨W.heap.size,0,none⟩=some (.int .i64 t)∧w5.cell? ⟨W.heap.size,1,none⟩=some (.int .i64 N)∧w5.cell? ⟨W.heap.size,2,none⟩=some (.int .i64 (pos:Nat))∧w5.cell? ⟨W.heap.size,3,none⟩=some (.int .i64 (next:Nat))∧w5.cell? ⟨W.heap.size,4,none⟩=some (.int .i64 1)∧w5.cell? ⟨W.heap.size,5,none⟩=some (.int .i64 x)∧w5.cell? ⟨W.heap.size,6,none⟩=some (.int .i64 y)∧w5.cell? ⟨W.heap.size,7,none⟩=some (.func (.func 96) #[] #[]):=⟨b5.cell 0,b5.cell 1,b5.cell 2,b5.cell 3,b5.cell 4,b5.cell 5,b5.cell 6,b5.cell 7⟩
  have hC5:(fun w'=>w'.cell? ⟨K.g,10,none⟩=some (.slice A S.length c)∧w'.cell? ⟨W.heap.size,0,none⟩=some (.int .i64 t)∧w'.cell? ⟨W.heap.size,1,none⟩=some (.int .i64 N)∧w'.cell? ⟨W.heap.size,2,none⟩=some (.int .i64 (pos:Nat))∧w'.cell? ⟨W.heap.size,3,none⟩=some (.int .i64 (next:Nat))∧w'.cell? ⟨W.heap.size,4,none⟩=some (.int .i64 1)∧w'.cell? ⟨W.heap.size,5,none⟩=some (.int .i64 x)∧w'.cell? ⟨W.heap.size,6,none⟩=some (.int .i64 y)∧w'.cell? ⟨W.heap.size,7,none⟩=some (.func (.func 96) #[] #[])) w5:=⟨y4,k0,k1,k2,k3,k4,k5,k6,k7⟩
  refine OrdU.bh hK (hC5) (h:=fun hHeld=>?_)
  clear hK K'
  refine OrdU.one 8 (h:=fun K' hK=>?_)
  go_simp
  refine OrdU.bh hK (hC5) (h:=fun hHeld=>?_)
  clear hK K'
  refine OrdU.one 9 (h:=fun K' hK=>?_)
  go_simp
  refine OrdU.bh hK (hC5) (h:=fun hHeld=>?_)
  clear hK K'
  refine OrdU.one 10 (h:=fun K' hK=>?_)
  go_simp
  refine OrdU.bk hK (h:=?_)
  clear hK K'
  refine OrdU.wpAnyU_done (by kernel_rfl) ?_ _
  have hfc:fcells K.actv S++[.int .i64 t,.int .i64 N,.int .i64 (pos:Nat),.int .i64 (next:Nat),.int .i64 1,.int .i64 x,.int .i64 y,.func (.func 96) #[] #[]]=fcells K.actv S++fcell K.actv ⟨(t,N),pos,next,1,x,y,true⟩:=by
   unfold fcell doesV againV
   simp
  obtain⟨e1,e2⟩:=h3.push (sv':=.slice (some ⟨gg,0,none⟩) (S.length+1) cap4) (f:=⟨(t,N),pos,next,1,x,y,true⟩) hgr (by rw [← hfc];exact hown) (hat.imp (fun z=>z.symm) (fun z=>(congrArg some z).trans (by simp)))
  have hk:=(hw3.grown hgr (fun i z=>by rw [HL.out.s i z];decide)).setCell (a:=⟨K.g,10,none⟩) (.inl (by rw [HL.out.g];decide)) (.slice (some ⟨gg,0,none⟩) (S.length+1) cap4)
  have hwt:Went κ _ W (w5.setCell ⟨K.g,10,none⟩ (.slice (some ⟨gg,0,none⟩) (S.length+1) cap4)):=⟨hk.kept,fun i z=>by
   rcases e2 i z with q1 | q1
   ·exact .inl q1
   ·exact .inr (by simp at q1;omega)⟩
  have HT:=Lib.hid (Turn.on (c:=(s,⟨(t,N),pos,next,1,x,y,true⟩::S)) e1 hwt HO.out)
  clear e1 e2 hk hwt
  go_wp2_with fail
  go_ret
  exact HT.out
end
end Go.Proofs.YtekogckmgkodfaaGreatDoor.Mach
