/-
  What a program does, as a function of a state, node by node (plain): more fuel, less fuel, later steps. No program is met here.
  What each node does, of what its kids do; a run (plain).
  A typed program keeps its variables typed; what it stores is stored as its type asks (plain).
  A Skip at the beginning takes one unit of fuel, and changes nothing else (plain).
  No more events than steps (plain).
  Kids one after another, as states; what a While tells (plain).
  What a typed node may be, and what it does then (plain).
  May a program be run (plain): what Check tells, and what it lets be supposed.
-/
import Derived.Test.YtekogckmgkodfaaGreatDoorArenaH
import Derived.Test.YtekogckmgkodfaaGreatDoorKindsG
set_option linter.unusedVariables false
namespace Go.Proofs.YtekogckmgkodfaaGreatDoor.Mach
open Arena
structure St where
 vals:List Int
 arrs:List (List Int)
 fuel:Nat
 steps:Nat
 ev:List (Int×Int×Int)
 kind:Int
 value:Int
 over:Bool
abbrev Sem:=St→St×Int
def St.stop(s:St)(k v:Int):St:=if s.over=true then s else { s with kind:=k,value:=v,over:=true }
def St.tick(s:St):St:={ s with fuel:=s.fuel-1,steps:=s.steps+1 }
def St.more(s:St)(d:Nat):St:={ s with fuel:=s.fuel+d }
def St.late(s:St)(d:Nat):St:={ s with steps:=s.steps+d }
def St.oof(s:St):Prop:=s.over=true∧s.kind=4
def pureM(v:Int):Sem:=fun s=>(s,v)
def stopM(k v:Int):Sem:=fun s=>(s.stop k v,0)
def bindM(m:Sem)(k:Int→Sem):Sem:=fun s=>if(m s).1.over=true then((m s).1,0) else k (m s).2 (m s).1
def enterM(b:Sem):Sem:=fun s=>if s.over=true then(s,0) else if s.fuel=0 then(s.stop 4 0,0) else b s.tick
def getV(i:Int):Sem:=fun s=>(s,s.vals.getD i.toNat 0)
def setV(i v:Int):Sem:=fun s=>({ s with vals:=s.vals.set i.toNat v,ev:=s.ev++[(i,-1,v)] },0)
def arr(s:St)(i:Int):List Int:=s.arrs.getD i.toNat []
def getA(i a:Int):Sem:=fun s=>if a<0∨((arr s i).length:Int)≤a then(s.stop 2 0,0) else(s,(arr s i).getD a.toNat 0)
def setA(i a b:Int):Sem:=fun s=>if a<0∨((arr s i).length:Int)≤a then(s.stop 2 0,0) else({ s with arrs:=s.arrs.set i.toNat ((arr s i).set a.toNat b),ev:=s.ev++[(i,a,b)] },0)
def seqM:List Sem→Sem
 | []=>pureM 0
 | m::l=>bindM m fun _=>seqM l
structure Nice (m:Sem):Prop where
 sum:∀ s,s.over=false→(m s).1.steps+(m s).1.fuel=s.steps+s.fuel
 grow:∀ s,s.over=false→s.steps≤(m s).1.steps
 ev:∀ s,s.over=false→s.ev <+: (m s).1.ev
 out:∀ s,s.over=false→(m s).1.over=true→(m s).2=0∧0≤(m s).1.kind∧(m s).1.kind≤4∧((m s).1.kind≠0→(m s).1.value=0)∧((m s).1.kind=4→(m s).1.fuel=0)
 same:∀ s d,s.over=false→¬ (m s).1.oof→m (s.more d)=((m s).1.more d,(m s).2)
 less:∀ s d,s.over=false→(m s).1.oof→(m s).1.ev <+: (m (s.more d)).1.ev∧(d=0∨(m s).1.steps<(m (s.more d)).1.steps)
 late:∀ s d,s.over=false→m (s.late d)=((m s).1.late d,(m s).2)
theorem more_over(s:St)(d:Nat):(s.more d).over=s.over:=rfl
theorem late_over(s:St)(d:Nat):(s.late d).over=s.over:=rfl
theorem more_0(s:St):s.more 0=s:=rfl
theorem stop_no{s:St}(h:s.over=false)(k v:Int):s.stop k v={ s with kind:=k,value:=v,over:=true }:=by unfold St.stop;rw [h];rfl
theorem stop_more{s:St}(h:s.over=false)(k v:Int)(d:Nat):(s.more d).stop k v=(s.stop k v).more d:=by rw [stop_no h,stop_no (s:=s.more d) h];rfl
theorem stop_late{s:St}(h:s.over=false)(k v:Int)(d:Nat):(s.late d).stop k v=(s.stop k v).late d:=by rw [stop_no h,stop_no (s:=s.late d) h];rfl
theorem nice_pure(v:Int):Nice (pureM v) where
 sum:=fun s h=>rfl
 grow:=fun s h=>Nat.le_refl _
 ev:=fun s h=>List.prefix_refl _
 out:=fun s h ho=>by unfold pureM at ho;simp only at ho;rw [h] at ho;cases ho
 same:=fun s d h hn=>rfl
 less:=fun s d h ho=>by have:=ho.1;unfold pureM at this;simp only at this;rw [h] at this;cases this
 late:=fun s d h=>rfl
theorem nice_stop{k v:Int}(h0:0≤k)(h4:k<4)(hv:k≠0→v=0):Nice (stopM k v) where
 sum:=fun s h=>by unfold stopM;rw [stop_no h]
 grow:=fun s h=>by unfold stopM;rw [stop_no h];exact Nat.le_refl _
 ev:=fun s h=>by unfold stopM;rw [stop_no h];exact List.prefix_refl _
 out:=fun s h ho=>by
  unfold stopM
  rw [stop_no h]
  exact⟨rfl,h0,by show k≤4;omega,hv,fun e=>by have e:k=4:=e;omega⟩
 same:=fun s d h hn=>by unfold stopM;rw [stop_more h]
 less:=fun s d h ho=>by
  have:=ho.2
  unfold stopM at this
  rw [stop_no h] at this
  have e:k=4:=this
  omega
 late:=fun s d h=>by unfold stopM;rw [stop_late h]
theorem bind_over{m:Sem}{k:Int→Sem}{s:St}(h:(m s).1.over=true):bindM m k s=((m s).1,0):=by unfold bindM;rw [if_pos h]
theorem bind_on{m:Sem}{k:Int→Sem}{s:St}(h:(m s).1.over=false):bindM m k s=k (m s).2 (m s).1:=by unfold bindM;rw [if_neg (by rw [h];decide)]
theorem nice_bind{m:Sem}{k:Int→Sem}(hm:Nice m)(hk:∀ a,Nice (k a)):Nice (bindM m k) where
 sum:=fun s h=>by
  by_cases ho:(m s).1.over=true
  ·rw [bind_over ho];exact hm.sum s h
  ·have ho:(m s).1.over=false:=by simpa using ho
   rw [bind_on ho,(hk _).sum _ ho,hm.sum s h]
 grow:=fun s h=>by
  by_cases ho:(m s).1.over=true
  ·rw [bind_over ho];exact hm.grow s h
  ·have ho:(m s).1.over=false:=by simpa using ho
   rw [bind_on ho];exact Nat.le_trans (hm.grow s h) ((hk _).grow _ ho)
 ev:=fun s h=>by
  by_cases ho:(m s).1.over=true
  ·rw [bind_over ho];exact hm.ev s h
  ·have ho:(m s).1.over=false:=by simpa using ho
   rw [bind_on ho];exact(hm.ev s h).trans ((hk _).ev _ ho)
 out:=fun s h hv=>by
  by_cases ho:(m s).1.over=true
  ·rw [bind_over ho];exact⟨rfl,(hm.out s h ho).2⟩
  ·have ho:(m s).1.over=false:=by simpa using ho
   rw [bind_on ho] at hv ⊢;exact(hk _).out _ ho hv
 same:=fun s d h hn=>by
  by_cases ho:(m s).1.over=true
  ·rw [bind_over ho] at hn ⊢
   have e:=hm.same s d h hn
   rw [bind_over (by rw [e];exact ho),e]
  ·have ho:(m s).1.over=false:=by simpa using ho
   rw [bind_on ho] at hn ⊢
   have e:=hm.same s d h (fun z=>by rw [z.1] at ho;cases ho)
   rw [bind_on (by rw [e];exact ho),e]
   exact(hk _).same _ d ho hn
 less:=fun s d h hn=>by
  by_cases ho:(m s).1.over=true
  ·rw [bind_over ho] at hn ⊢
   obtain⟨l1,l2⟩:=hm.less s d h hn
   by_cases hv:(m (s.more d)).1.over=true
   ·rw [bind_over hv];exact⟨l1,l2⟩
   ·have hv:(m (s.more d)).1.over=false:=by simpa using hv
    rw [bind_on hv]
    exact⟨l1.trans ((hk _).ev _ hv),l2.imp_right fun z=>Nat.lt_of_lt_of_le z ((hk _).grow _ hv)⟩
  ·have ho:(m s).1.over=false:=by simpa using ho
   rw [bind_on ho] at hn ⊢
   have e:=hm.same s d h (fun z=>by rw [z.1] at ho;cases ho)
   rw [bind_on (by rw [e];exact ho),e]
   exact(hk _).less _ d ho hn
 late:=fun s d h=>by
  have e:=hm.late s d h
  by_cases ho:(m s).1.over=true
  ·rw [bind_over ho,bind_over (by rw [e];exact ho),e]
  ·have ho:(m s).1.over=false:=by simpa using ho
   rw [bind_on ho,bind_on (by rw [e];exact ho),e]
   exact(hk _).late _ d ho
theorem enter_over{b:Sem}{s:St}(h:s.over=true):enterM b s=(s,0):=by unfold enterM;rw [if_pos h]
theorem enter_out{b:Sem}{s:St}(h:s.over=false)(h0:s.fuel=0):enterM b s=({ s with kind:=4,value:=0,over:=true },0):=by unfold enterM;rw [if_neg (by rw [h];decide),if_pos h0,stop_no h]
theorem enter_on{b:Sem}{s:St}(h:s.over=false)(h0:s.fuel≠0):enterM b s=b s.tick:=by unfold enterM;rw [if_neg (by rw [h];decide),if_neg h0]
theorem tick_more{s:St}(h0:s.fuel≠0)(d:Nat):(s.more d).tick=s.tick.more d:=by
 unfold St.tick St.more
 simp only [St.mk.injEq,true_and,and_true]
 omega
theorem tick_late(s:St)(d:Nat):(s.late d).tick=s.tick.late d:=by
 unfold St.tick St.late
 simp only [St.mk.injEq,true_and,and_true]
 omega
theorem nice_enter{b:Sem}(hb:Nice b):Nice (enterM b) where
 sum:=fun s h=>by
  by_cases h0:s.fuel=0
  ·rw [enter_out h h0]
  ·rw [enter_on h h0,hb.sum s.tick h];unfold St.tick;simp only;omega
 grow:=fun s h=>by
  by_cases h0:s.fuel=0
  ·rw [enter_out h h0];exact Nat.le_refl _
  ·rw [enter_on h h0];have:=hb.grow s.tick h;unfold St.tick at this ⊢;simp only at this ⊢;omega
 ev:=fun s h=>by
  by_cases h0:s.fuel=0
  ·rw [enter_out h h0];exact List.prefix_refl _
  ·rw [enter_on h h0];exact hb.ev s.tick h
 out:=fun s h hv=>by
  by_cases h0:s.fuel=0
  ·rw [enter_out h h0];exact⟨rfl,(by show(0:Int)≤4;omega),(by show(4:Int)≤4;omega),fun _=>rfl,fun _=>h0⟩
  ·rw [enter_on h h0] at hv ⊢;exact hb.out s.tick h hv
 same:=fun s d h hn=>by
  by_cases h0:s.fuel=0
  ·rw [enter_out h h0] at hn;exact absurd ⟨rfl,rfl⟩ hn
  ·rw [enter_on h h0] at hn ⊢
   rw [enter_on (s:=s.more d) h (by unfold St.more;simp only;omega),tick_more h0]
   exact hb.same s.tick d h hn
 less:=fun s d h hn=>by
  by_cases h0:s.fuel=0
  ·rw [enter_out h h0]
   by_cases hd:d=0
   ·subst hd;rw [more_0,enter_out h h0];exact⟨List.prefix_refl _,.inl rfl⟩
   ·rw [enter_on (s:=s.more d) h (by unfold St.more;simp only;omega)]
    exact⟨hb.ev (s.more d).tick h,.inr (by have:=hb.grow (s.more d).tick h;unfold St.tick St.more at this ⊢;simp only at this ⊢;omega)⟩
  ·rw [enter_on h h0] at hn ⊢
   rw [enter_on (s:=s.more d) h (by unfold St.more;simp only;omega),tick_more h0]
   exact hb.less s.tick d h hn
 late:=fun s d h=>by
  by_cases h0:s.fuel=0
  ·rw [enter_out h h0,enter_out (s:=s.late d) h h0];rfl
  ·rw [enter_on h h0,enter_on (s:=s.late d) h h0,tick_late];exact hb.late s.tick d h
theorem nice_plain{m:Sem}(h1:∀ s,s.over=false→(m s).1.steps=s.steps∧(m s).1.fuel=s.fuel)(h2:∀ s,s.over=false→s.ev <+: (m s).1.ev)
  (h3:∀ s,s.over=false→(m s).1.over=true→(m s).2=0∧0≤(m s).1.kind∧(m s).1.kind<4∧((m s).1.kind≠0→(m s).1.value=0))
  (h4:∀ s d,s.over=false→m (s.more d)=((m s).1.more d,(m s).2)) (h5:∀ s d,s.over=false→m (s.late d)=((m s).1.late d,(m s).2)):Nice m where
 sum:=fun s h=>by rw [(h1 s h).1,(h1 s h).2]
 grow:=fun s h=>by rw [(h1 s h).1];exact Nat.le_refl _
 ev:=h2
 out:=fun s h ho=>by obtain⟨a,b,c,e⟩:=h3 s h ho;exact⟨a,b,by omega,e,fun z=>by omega⟩
 same:=fun s d h _=>h4 s d h
 less:=fun s d h ho=>by have:=(h3 s h ho.1).2.2.1;have:=ho.2;omega
 late:=h5
theorem nice_getV(i:Int):Nice (getV i):=nice_plain (fun s h=>⟨rfl,rfl⟩) (fun s h=>List.prefix_refl _) (fun s h ho=>by unfold getV at ho;simp only at ho;rw [h] at ho;cases ho) (fun s d h=>rfl) (fun s d h=>rfl)
theorem nice_setV(i v:Int):Nice (setV i v):=nice_plain (fun s h=>⟨rfl,rfl⟩) (fun s h=>List.prefix_append _ _) (fun s h ho=>by unfold setV at ho;simp only at ho;rw [h] at ho;cases ho) (fun s d h=>rfl) (fun s d h=>rfl)
theorem nice_getA(i a:Int):Nice (getA i a):=by
 refine nice_plain (fun s h=>?_) (fun s h=>?_) (fun s h ho=>?_) (fun s d h=>?_) (fun s d h=>?_)
 ·unfold getA;split
  ·rw [stop_no h];exact⟨rfl,rfl⟩
  ·exact⟨rfl,rfl⟩
 ·unfold getA;split
  ·rw [stop_no h];exact List.prefix_refl _
  ·exact List.prefix_refl _
 ·unfold getA at ho ⊢
  split
  ·rw [stop_no h];exact⟨rfl,(by show(0:Int)≤2;omega),(by show(2:Int)<4;omega),fun _=>rfl⟩
  ·rename_i q;rw [if_neg q] at ho;simp only at ho;rw [h] at ho;cases ho
 ·unfold getA
  rw [show arr (s.more d) i=arr s i from rfl]
  split
  ·rw [stop_more h]
  ·rfl
 ·unfold getA
  rw [show arr (s.late d) i=arr s i from rfl]
  split
  ·rw [stop_late h]
  ·rfl
theorem nice_setA(i a b:Int):Nice (setA i a b):=by
 refine nice_plain (fun s h=>?_) (fun s h=>?_) (fun s h ho=>?_) (fun s d h=>?_) (fun s d h=>?_)
 ·unfold setA;split
  ·rw [stop_no h];exact⟨rfl,rfl⟩
  ·exact⟨rfl,rfl⟩
 ·unfold setA;split
  ·rw [stop_no h];exact List.prefix_refl _
  ·exact List.prefix_append _ _
 ·unfold setA at ho ⊢
  split
  ·rw [stop_no h];exact⟨rfl,(by show(0:Int)≤2;omega),(by show(2:Int)<4;omega),fun _=>rfl⟩
  ·rename_i q;rw [if_neg q] at ho;simp only at ho;rw [h] at ho;cases ho
 ·unfold setA
  rw [show arr (s.more d) i=arr s i from rfl]
  split
  ·rw [stop_more h]
  ·rfl
 ·unfold setA
  rw [show arr (s.late d) i=arr s i from rfl]
  split
  ·rw [stop_late h]
  ·rfl
theorem nice_seq:∀ l:List Sem,(∀ m∈l,Nice m)→Nice (seqM l)
 | [],_=>nice_pure 0
 | m::l,h=>nice_bind (h m (List.mem_cons_self ..)) fun _=>nice_seq l fun q hq=>h q (List.mem_cons_of_mem _ hq)
def loopM(c b:Sem):Nat→Sem
 | 0=>pureM 0
 | n+1=>enterM (bindM c fun a=>if a=1 then bindM b fun _=>loopM c b n else pureM 0)
theorem nice_loop{c b:Sem}(hc:Nice c)(hb:Nice b):∀ n,Nice (loopM c b n)
 | 0=>nice_pure 0
 | n+1=>nice_enter (nice_bind hc fun a=>by
  by_cases h:a=1
  ·rw [if_pos h];exact nice_bind hb fun _=>nice_loop hc hb n
  ·rw [if_neg h];exact nice_pure 0)
theorem loop_enough{c b:Sem}(hc:Nice c)(hb:Nice b):∀ (n n':Nat) (s:St),s.over=false→s.fuel<n→s.fuel<n'→loopM c b n s=loopM c b n' s
 | 0,_,s,_,h,_=>absurd h (by omega)
 | _,0,s,_,_,h=>absurd h (by omega)
 | n+1,n'+1,s,h,h1,h2=>by
  unfold loopM
  by_cases h0:s.fuel=0
  ·rw [enter_out h h0,enter_out h h0]
  ·rw [enter_on h h0,enter_on h h0]
   have ht:s.tick.fuel+1=s.fuel:=by unfold St.tick;simp only;omega
   have hto:s.tick.over=false:=h
   by_cases ho:(c s.tick).1.over=true
   ·rw [bind_over ho,bind_over ho]
   ·have ho:(c s.tick).1.over=false:=by simpa using ho
    rw [bind_on ho,bind_on ho]
    by_cases ha:(c s.tick).2=1
    ·rw [if_pos ha,if_pos ha]
     have f1:(c s.tick).1.fuel≤s.tick.fuel:=by have:=hc.sum s.tick hto;have:=hc.grow s.tick hto;omega
     by_cases ho2:(b (c s.tick).1).1.over=true
     ·rw [bind_over ho2,bind_over ho2]
     ·have ho2:(b (c s.tick).1).1.over=false:=by simpa using ho2
      rw [bind_on ho2,bind_on ho2]
      have f2:(b (c s.tick).1).1.fuel≤(c s.tick).1.fuel:=by have:=hb.sum _ ho;have:=hb.grow _ ho;omega
      exact loop_enough hc hb n n' _ ho2 (by omega) (by omega)
    ·rw [if_neg ha,if_neg ha]
def whileM(c b:Sem):Sem:=fun s=>if s.over=true then(s,0) else loopM c b (s.fuel+1) s
theorem while_on{c b:Sem}{s:St}(h:s.over=false):whileM c b s=loopM c b (s.fuel+1) s:=by unfold whileM;rw [if_neg (by rw [h];decide)]
theorem nice_while{c b:Sem}(hc:Nice c)(hb:Nice b):Nice (whileM c b) where
 sum:=fun s h=>by rw [while_on h];exact(nice_loop hc hb _).sum s h
 grow:=fun s h=>by rw [while_on h];exact(nice_loop hc hb _).grow s h
 ev:=fun s h=>by rw [while_on h];exact(nice_loop hc hb _).ev s h
 out:=fun s h=>by rw [while_on h];exact(nice_loop hc hb _).out s h
 same:=fun s d h=>by
  rw [while_on h,while_on (s:=s.more d) h,show(s.more d).fuel+1=s.fuel+d+1 from rfl,loop_enough hc hb (s.fuel+1) (s.fuel+d+1) s h (by omega) (by omega)]
  exact(nice_loop hc hb _).same s d h
 less:=fun s d h=>by
  rw [while_on h,while_on (s:=s.more d) h,show(s.more d).fuel+1=s.fuel+d+1 from rfl,loop_enough hc hb (s.fuel+1) (s.fuel+d+1) s h (by omega) (by omega)]
  exact(nice_loop hc hb _).less s d h
 late:=fun s d h=>by
  rw [while_on h,while_on (s:=s.late d) h]
  exact(nice_loop hc hb _).late s d h
theorem while_is{c b:Sem}(hc:Nice c)(hb:Nice b)(s:St):whileM c b s=enterM (bindM c fun a=>if a=1 then bindM b fun _=>whileM c b else pureM 0) s:=by
 by_cases h:s.over=true
 ·rw [enter_over h];unfold whileM;rw [if_pos h]
 have h:s.over=false:=by simpa using h
 rw [while_on h]
 show enterM _ s=_
 by_cases h0:s.fuel=0
 ·rw [enter_out h h0,enter_out h h0]
 rw [enter_on h h0,enter_on h h0]
 have ht:s.tick.fuel+1=s.fuel:=by unfold St.tick;simp only;omega
 have hto:s.tick.over=false:=h
 by_cases ho:(c s.tick).1.over=true
 ·rw [bind_over ho,bind_over ho]
 have ho:(c s.tick).1.over=false:=by simpa using ho
 rw [bind_on ho,bind_on ho]
 by_cases ha:(c s.tick).2=1
 ·rw [if_pos ha,if_pos ha]
  have f1:(c s.tick).1.fuel≤s.tick.fuel:=by have:=hc.sum s.tick hto;have:=hc.grow s.tick hto;omega
  by_cases ho2:(b (c s.tick).1).1.over=true
  ·rw [bind_over ho2,bind_over ho2]
  have ho2:(b (c s.tick).1).1.over=false:=by simpa using ho2
  rw [bind_on ho2,bind_on ho2,while_on ho2]
  have f2:(b (c s.tick).1).1.fuel≤(c s.tick).1.fuel:=by have:=hb.sum _ ho;have:=hb.grow _ ho;omega
  exact loop_enough hc hb _ _ _ ho2 (by omega) (by omega)
 ·rw [if_neg ha,if_neg ha]
end Go.Proofs.YtekogckmgkodfaaGreatDoor.Mach
namespace Go.Proofs.YtekogckmgkodfaaGreatDoor.Mach
open Arena Kinds
def b01(p:Bool):Int:=if p=true then 1 else 0
def bin(t a b:Int):Sem :=
 if t=7 then pureM (IntKind.i64.wrap (a+b))
 else if t=8 then pureM (IntKind.i64.wrap (a-b))
 else if t=9 then pureM (IntKind.i64.wrap (a*b))
 else if t=10∨t=11 then(if b=0 then stopM 1 0 else pureM (if t=10 then IntKind.i64.wrap (a.tdiv b) else a.tmod b))
 else if t=12 then pureM (b01 (a==b))
 else if t=13 then pureM (b01 (a != b))
 else if t=14 then pureM (b01 (decide (a<b)))
 else if t=15 then pureM (b01 (decide (a≤b)))
 else if t=16 then pureM (b01 (decide (b<a)))
 else pureM (b01 (decide (b≤a)))
def kid(ks:List Sem)(i:Nat):Sem:=ks.getD i (pureM 0)
def behindM(x:Nd)(ks:List Sem)(a:Int):Sem :=
 if x.1=4 then getA x.2 a
 else if x.1=5 then pureM (IntKind.i64.wrap (0-a))
 else if x.1=6 then pureM (IntKind.i64.wrap (1-a))
 else if x.1=18 then(if a=0 then pureM 0 else kid ks 1)
 else if x.1=19 then(if a=1 then pureM 1 else kid ks 1)
 else if x.1=21 then setV x.2 a
 else if x.1=23 then kid ks (if a=1 then 1 else 2)
 else if x.1=25 then stopM 0 a
 else bindM (kid ks 1) fun b=>if x.1=22 then setA x.2 a b else bin x.1 a b
def innerM(x:Nd)(ks:List Sem):Sem :=
 if x.1=1∨x.1=2 then pureM x.2
 else if x.1=3 then getV x.2
 else if x.1=26 then pureM 0
 else if x.1=20 then seqM ks
 else bindM (kid ks 0) (behindM x ks)
def nodeM(x:Nd)(ks:List Sem):Sem:=if x.1=24 then whileM (kid ks 0) (kid ks 1) else enterM (innerM x ks)
theorem nice_kid{ks:List Sem}(h:∀ m∈ks,Nice m)(i:Nat):Nice (kid ks i):=by
 unfold kid
 rw [List.getD_eq_getElem?_getD]
 cases q:ks[i]? with
 | none=>exact nice_pure 0
 | some m=>exact h m (List.mem_of_getElem? q)
theorem nice_bin(t a b:Int):Nice (bin t a b):=by
 unfold bin
 repeat' split
 all_goals first
  | exact nice_pure _
  | exact nice_stop (by decide) (by decide) (fun _=>rfl)
theorem nice_behind{ks:List Sem}(h:∀ m∈ks,Nice m)(x:Nd)(a:Int):Nice (behindM x ks a):=by
 unfold behindM
 repeat' split
 all_goals first
  | exact nice_pure _
  | exact nice_getA _ _
  | exact nice_setV _ _
  | exact nice_kid h _
  | exact nice_stop (by decide) (by decide) (fun q=>absurd rfl q)
  | exact nice_bind (nice_kid h 1) fun b=>nice_setA _ _ _
  | exact nice_bind (nice_kid h 1) fun b=>nice_bin _ _ _
theorem nice_inner{ks:List Sem}(h:∀ m∈ks,Nice m)(x:Nd):Nice (innerM x ks):=by
 unfold innerM
 repeat' split
 ·exact nice_pure _
 ·exact nice_getV _
 ·exact nice_pure _
 ·exact nice_seq ks h
 ·exact nice_bind (nice_kid h 0) (nice_behind h x)
theorem nice_node{ks:List Sem}(h:∀ m∈ks,Nice m)(x:Nd):Nice (nodeM x ks):=by
 unfold nodeM
 split
 ·exact nice_while (nice_kid h 0) (nice_kid h 1)
 ·exact nice_enter (nice_inner h x)
theorem node_over{ks:List Sem}(x:Nd){s:St}(h:s.over=true):nodeM x ks s=(s,0):=by
 unfold nodeM
 split
 ·unfold whileM;rw [if_pos h]
 ·exact enter_over h
theorem nice_fold:∀ (X:List Nd),∀ m∈fold nodeM X,Nice m
 | [],m,h=>by cases h
 | x::X,m,h=>by
  rw [fold_cons] at h
  rcases List.mem_cons.1 h with h | h
  ·rw [h];exact nice_node (fun q hq=>nice_fold X q (List.mem_of_mem_take hq)) x
  ·exact nice_fold X m (List.mem_of_mem_drop h)
def mean(l:List Nd)(k:Int):Sem:=val nodeM (pureM 0) l k
theorem nice_mean(l:List Nd)(k:Int):Nice (mean l k):=by
 unfold mean val
 cases q:fold nodeM (apart l k) with
 | nil=>exact nice_pure 0
 | cons m r=>exact nice_fold (apart l k) m (by rw [q];exact List.mem_cons_self ..)
theorem mean_kids{l:List Nd}{k n:Nat}(h:scan 1 (l.drop k)=some n):∃ x,l[k]? = some x∧0≤ar x∧(akids l k).length=(ar x).toNat∧mean l k=nodeM x ((akids l k).map (mean l)):=val_kids nodeM (pureM 0) h
theorem mean_over{l:List Nd}{k n:Nat}(h:scan 1 (l.drop k)=some n){s:St}(ho:s.over=true):mean l k s=(s,0):=by
 obtain⟨x,-,-,-,e⟩:=mean_kids h
 rw [e]
 exact node_over x ho
def begin_(vs args:List Int)(f:Nat):St:=⟨(List.range vs.length).map fun i=>args.getD i 0,vs.map fun t=>List.replicate (asz t).toNat 0,f,0,[],0,0,false⟩
def mrun(vs:List Int)(xs:List Nd)(args:List Int)(f:Nat):St:=(mean xs 0 (begin_ vs args f)).1.stop 3 0
def Alike(a b:St):Prop:=a.kind=b.kind∧a.value=b.value∧a.steps=b.steps∧a.ev=b.ev
section
variable (vs:List Int) (xs:List Nd) (args:List Int) (f d:Nat)
theorem begin_over:(begin_ vs args f).over=false:=rfl
theorem begin_more:begin_ vs args (f+d)=(begin_ vs args f).more d:=rfl
theorem stop_steps(s:St)(k v:Int):(s.stop k v).steps=s.steps∧(s.stop k v).ev=s.ev∧(s.stop k v).fuel=s.fuel:=by
 unfold St.stop;split<;>exact⟨rfl,rfl,rfl⟩
theorem run_steps:(mrun vs xs args f).steps≤f:=by
 unfold mrun
 rw [(stop_steps _ 3 0).1]
 have:=(nice_mean xs 0).sum (begin_ vs args f) rfl
 have h2:(begin_ vs args f).steps+(begin_ vs args f).fuel=0+f:=rfl
 omega
theorem run_out:0≤(mrun vs xs args f).kind∧(mrun vs xs args f).kind≤4∧((mrun vs xs args f).kind≠0→(mrun vs xs args f).value=0)∧((mrun vs xs args f).kind=4→(mrun vs xs args f).steps=f):=by
 have hsum:=(nice_mean xs 0).sum (begin_ vs args f) rfl
 have h2:(begin_ vs args f).steps+(begin_ vs args f).fuel=0+f:=rfl
 unfold mrun
 by_cases ho:(mean xs 0 (begin_ vs args f)).1.over=true
 ·obtain⟨-,q1,q2,q3,q4⟩:=(nice_mean xs 0).out _ rfl ho
  have e:(mean xs 0 (begin_ vs args f)).1.stop 3 0=(mean xs 0 (begin_ vs args f)).1:=by unfold St.stop;rw [if_pos ho]
  rw [e]
  exact⟨q1,q2,q3,fun z=>by have:=q4 z;omega⟩
 ·have ho:(mean xs 0 (begin_ vs args f)).1.over=false:=by simpa using ho
  rw [stop_no ho]
  exact⟨by show(0:Int)≤3;omega,by show(3:Int)≤4;omega,fun _=>rfl,fun z=>by have z:(3:Int)=4:=z;omega⟩
theorem run_more:(mrun vs xs args f).steps≤(mrun vs xs args (f+d)).steps∧(mrun vs xs args f).ev <+: (mrun vs xs args (f+d)).ev ∧
  ((mrun vs xs args f).kind≠4→Alike (mrun vs xs args f) (mrun vs xs args (f+d)))∧((mrun vs xs args f).kind=4→d=0∨(mrun vs xs args f).steps<(mrun vs xs args (f+d)).steps):=by
 unfold mrun
 rw [begin_more]
 by_cases ho:(mean xs 0 (begin_ vs args f)).1.oof
 ·obtain⟨l1,l2⟩:=(nice_mean xs 0).less (begin_ vs args f) d rfl ho
  have e:(mean xs 0 (begin_ vs args f)).1.stop 3 0=(mean xs 0 (begin_ vs args f)).1:=by unfold St.stop;rw [if_pos ho.1]
  rw [e,(stop_steps _ 3 0).1,(stop_steps _ 3 0).2.1]
  refine⟨?_,l1,fun z=>absurd ho.2 z,fun _=>l2⟩
  rcases l2 with rfl | l2
  ·rw [more_0];exact Nat.le_refl _
  ·omega
 ·have e:=(nice_mean xs 0).same (begin_ vs args f) d rfl ho
  rw [e]
  have hs:((mean xs 0 (begin_ vs args f)).1.more d).stop 3 0=((mean xs 0 (begin_ vs args f)).1.stop 3 0).more d:=by
   unfold St.stop
   rw [show((mean xs 0 (begin_ vs args f)).1.more d).over=(mean xs 0 (begin_ vs args f)).1.over from rfl]
   split<;>rfl
  rw [show((mean xs 0 (begin_ vs args f)).1.more d,(mean xs 0 (begin_ vs args f)).2).1=(mean xs 0 (begin_ vs args f)).1.more d from rfl,hs]
  refine⟨Nat.le_refl _,List.prefix_refl _,fun _=>⟨rfl,rfl,rfl,rfl⟩,fun z=>?_⟩
  exfalso
  apply ho
  by_cases hv:(mean xs 0 (begin_ vs args f)).1.over=true
  ·refine⟨hv,?_⟩
   unfold St.stop at z
   rw [if_pos hv] at z
   exact z
  ·have hv:(mean xs 0 (begin_ vs args f)).1.over=false:=by simpa using hv
   rw [stop_no hv] at z
   have z:(3:Int)=4:=z
   omega
theorem run_least{less:Nat}(h:less≤(mrun vs xs args f).steps):(less=(mrun vs xs args f).steps→Alike (mrun vs xs args f) (mrun vs xs args less)) ∧
  (less<(mrun vs xs args f).steps→(mrun vs xs args less).kind=4∧(mrun vs xs args less).value=0∧(mrun vs xs args less).steps=less):=by
 have hf:=run_steps vs xs args f
 obtain⟨m1,m2,m3,m4⟩:=run_more vs xs args less (f-less)
 rw [show less+(f-less)=f by omega] at m1 m2 m3 m4
 have hl:=run_steps vs xs args less
 obtain⟨-,-,o3,o4⟩:=run_out vs xs args less
 by_cases hk:(mrun vs xs args less).kind=4
 ·have h4:=o4 hk
  refine⟨fun e=>?_,fun _=>⟨hk,o3 (by omega),h4⟩⟩
  rcases m4 hk with q | q
  ·rw [show less=f by omega];exact⟨rfl,rfl,rfl,rfl⟩
  ·omega
 ·obtain⟨a1,a2,a3,a4⟩:=m3 hk
  exact⟨fun _=>⟨a1.symm,a2.symm,a3.symm,a4.symm⟩,fun q=>by omega⟩
end
def EvOk(vs:List Int)(e:Int×Int×Int):Prop:=0≤e.1∧e.1<vs.length∧((asz (vtyp vs e.1)=0∧e.2.1 = -1∧(vtyp vs e.1=0∨e.2.2=0∨e.2.2=1))∨(0<asz (vtyp vs e.1)∧0≤e.2.1∧e.2.1<asz (vtyp vs e.1)))
structure WT (vs:List Int) (s:St):Prop where
 nv:s.vals.length=vs.length
 na:s.arrs.length=vs.length
 tv:∀ i:Nat,vs.getD i (-1)=1→s.vals.getD i 0=0∨s.vals.getD i 0=1
 ta:∀ i:Nat,i<vs.length→((s.arrs.getD i []).length:Int)=asz (vs.getD i (-1))
 ev:∀ e∈s.ev,EvOk vs e
def Of1(k a:Int):Prop:=k=1→a=0∨a=1
def Sound(vs:List Int)(k:Int)(m:Sem):Prop:=∀ s,WT vs s→s.over=false→WT vs (m s).1∧((m s).1.over=false→Of1 k (m s).2)
theorem WT.stop{vs:List Int}{s:St}(h:WT vs s)(k v:Int):WT vs (s.stop k v):=by
 unfold St.stop
 split
 ·exact h
 ·exact⟨h.nv,h.na,h.tv,h.ta,h.ev⟩
theorem WT.tick{vs:List Int}{s:St}(h:WT vs s):WT vs s.tick:=⟨h.nv,h.na,h.tv,h.ta,h.ev⟩
theorem stop_over(s:St)(k v:Int):(s.stop k v).over=true:=by
 unfold St.stop
 split
 ·assumption
 ·rfl
section
variable {vs:List Int}
theorem sound_pure{k v:Int}(h:Of1 k v):Sound vs k (pureM v):=fun s hs _=>⟨hs,fun _=>h⟩
theorem sound_stop{k:Int}(q v:Int):Sound vs k (stopM q v):=fun s hs _=>⟨hs.stop q v,fun ho=>by
 have:(stopM q v s).1.over=true:=stop_over s q v
 rw [this] at ho;cases ho⟩
theorem sound_bind{k j:Int}{m:Sem}{c:Int→Sem}(hm:Sound vs j m)(hc:∀ a,Of1 j a→Sound vs k (c a)):Sound vs k (bindM m c):=fun s hs h=>by
 obtain⟨h1,h2⟩:=hm s hs h
 by_cases ho:(m s).1.over=true
 ·rw [bind_over ho];exact⟨h1,fun q=>by rw [ho] at q;cases q⟩
 ·have ho:(m s).1.over=false:=by simpa using ho
  rw [bind_on ho]
  exact hc _ (h2 ho) _ h1 ho
theorem sound_enter{k:Int}{b:Sem}(hb:Sound vs k b):Sound vs k (enterM b):=fun s hs h=>by
 by_cases h0:s.fuel=0
 ·rw [enter_out h h0];exact⟨⟨hs.nv,hs.na,hs.tv,hs.ta,hs.ev⟩,fun q=>by cases q⟩
 ·rw [enter_on h h0];exact hb _ hs.tick h
theorem vtyp_nat{i:Int}(h:0≤vtyp vs i):0≤i∧i<vs.length∧vtyp vs i=vs.getD i.toNat (-1):=by
 unfold vtyp at h ⊢
 by_cases q:i<0
 ·rw [if_pos q] at h;omega
 ·rw [if_neg q] at h ⊢
  refine⟨by omega,?_,rfl⟩
  by_cases z:i.toNat<vs.length
  ·omega
  ·rw [List.getD_eq_getElem?_getD,List.getElem?_eq_none (by omega)] at h
   exact absurd h (by decide)
theorem sound_getV{i k:Int}(h:vtyp vs i=k)(h0:0≤k):Sound vs k (getV i):=fun s hs _=>⟨hs,fun _ e=>by
 obtain⟨-,-,h3⟩:=vtyp_nat (vs:=vs) (i:=i) (by omega)
 exact hs.tv i.toNat (by omega)⟩
theorem set_getD{α:Type}(l:List α)(i j:Nat)(v d:α):(l.set i v).getD j d=if i=j∧j<l.length then v else l.getD j d:=by
 rw [List.getD_eq_getElem?_getD,List.getD_eq_getElem?_getD,List.getElem?_set]
 by_cases q:i=j
 ·subst q
  by_cases z:i<l.length
  ·simp [z]
  ·simp [z]
 ·simp [q]
theorem sound_setV{i v k:Int}(h:vtyp vs i=0∨vtyp vs i=1)(hv:Of1 (vtyp vs i) v)(hk:k≠1):Sound vs k (setV i v):=fun s hs _=>by
 obtain⟨h1,h2,h3⟩:=vtyp_nat (vs:=vs) (i:=i) (by omega)
 refine⟨⟨by show(s.vals.set _ _).length=_;rw [List.length_set];exact hs.nv,hs.na,fun j hj=>?_,hs.ta,fun e he=>?_⟩,fun _ e=>absurd e hk⟩
 ·show(s.vals.set i.toNat v).getD j 0=0∨(s.vals.set i.toNat v).getD j 0=1
  rw [set_getD]
  split
  ·rename_i q
   rw [q.1,hj] at h3
   exact hv h3
  ·exact hs.tv j hj
 ·rcases List.mem_append.1 he with he | he
  ·exact hs.ev e he
  ·rw [List.mem_singleton] at he
   subst he
   refine⟨h1,h2,.inl ⟨?_,rfl,?_⟩⟩
   ·show asz (vtyp vs i)=0
    rcases h with h | h<;>rw [h]<;>rfl
   ·show vtyp vs i=0∨v=0∨v=1
    rcases h with h | h
    ·exact .inl h
    ·exact .inr (hv h)
theorem sound_getA{i a k:Int}(hk:k≠1):Sound vs k (getA i a):=fun s hs _=>by
 unfold getA
 split
 ·exact⟨hs.stop 2 0,fun _ e=>absurd e hk⟩
 ·exact⟨hs,fun _ e=>absurd e hk⟩
theorem sound_setA{i a b k:Int}(h:0<asz (vtyp vs i))(hk:k≠1):Sound vs k (setA i a b):=fun s hs _=>by
 unfold setA
 split
 ·exact⟨hs.stop 2 0,fun _ e=>absurd e hk⟩
 ·rename_i q
  have h0:=asz_pos h
  obtain⟨h1,h2,h3⟩:=vtyp_nat (vs:=vs) (i:=i) h0
  have hl:=hs.ta i.toNat (by omega)
  rw [← h3] at hl
  have hl':((arr s i).length:Int)=asz (vtyp vs i):=hl
  refine⟨⟨hs.nv,by show(s.arrs.set _ _).length=_;rw [List.length_set];exact hs.na,hs.tv,fun j hj=>?_,fun e he=>?_⟩,fun _ e=>absurd e hk⟩
  ·show(((s.arrs.set i.toNat ((arr s i).set a.toNat b)).getD j []).length:Int)=_
   rw [set_getD]
   split
   ·rename_i z
    rw [List.length_set,← z.1,← h3]
    exact hl'
   ·exact hs.ta j hj
  ·rcases List.mem_append.1 he with he | he
   ·exact hs.ev e he
   ·rw [List.mem_singleton] at he
    subst he
    exact⟨h1,h2,.inr ⟨h,by show 0≤a;omega,by show a<asz (vtyp vs i);omega⟩⟩
theorem sound_seq{k:Int}(hk:k≠1):∀ l:List Sem,(∀ m∈l,∃ j,Sound vs j m)→Sound vs k (seqM l)
 | [],_=>sound_pure (fun e=>absurd e hk)
 | m::l,h=>by
  obtain⟨j,hj⟩:=h m (List.mem_cons_self ..)
  exact sound_bind hj fun a _=>sound_seq hk l fun q hq=>h q (List.mem_cons_of_mem _ hq)
theorem sound_loop{k j:Int}(hk:k≠1){c b:Sem}(hc:Sound vs 1 c)(hb:Sound vs j b):∀ n,Sound vs k (loopM c b n)
 | 0=>sound_pure (fun e=>absurd e hk)
 | n+1=>sound_enter (sound_bind hc fun a _=>by
  by_cases h:a=1
  ·rw [if_pos h];exact sound_bind hb fun _ _=>sound_loop hk hc hb n
  ·rw [if_neg h];exact sound_pure (fun e=>absurd e hk))
theorem sound_while{k j:Int}(hk:k≠1){c b:Sem}(hc:Sound vs 1 c)(hb:Sound vs j b):Sound vs k (whileM c b):=fun s hs h=>by
 rw [while_on h];exact sound_loop hk hc hb _ s hs h
theorem b01_of(p:Bool):b01 p=0∨b01 p=1:=by unfold b01;split<;>simp
theorem sound_bin{t a b k:Int}(h:(7≤t∧t≤11∧k=0)∨(12≤t∧t≤17∧k=1)):Sound vs k (bin t a b):=by
 have hb:∀ p:Bool,Of1 k (b01 p):=fun p _=>b01_of p
 have hz:t≤11→∀ v,Of1 k v:=fun z v e=>by omega
 unfold bin
 by_cases t7:t=7
 ·rw [if_pos t7];exact sound_pure (hz (by omega) _)
 rw [if_neg t7]
 by_cases t8:t=8
 ·rw [if_pos t8];exact sound_pure (hz (by omega) _)
 rw [if_neg t8]
 by_cases t9:t=9
 ·rw [if_pos t9];exact sound_pure (hz (by omega) _)
 rw [if_neg t9]
 by_cases t10:t=10∨t=11
 ·rw [if_pos t10]
  split
  ·exact sound_stop _ _
  ·exact sound_pure (hz (by omega) _)
 rw [if_neg t10]
 repeat' split
 all_goals exact sound_pure (hb _)
theorem kid_at{ks:List Sem}{kk:List Int}(hl:ks.length=kk.length)(h:∀ (i:Nat) (m:Sem) (k:Int),ks[i]? = some m→kk[i]? = some k→Sound vs k m){i:Nat}{k:Int}(hk:kk[i]? = some k):Sound vs k (kid ks i):=by
 have hi:=(List.getElem?_eq_some_iff.1 hk).1
 obtain⟨m,hm⟩:∃ m,ks[i]? = some m:=⟨_,List.getElem?_eq_getElem (by omega)⟩
 unfold kid
 rw [List.getD_eq_getElem?_getD,hm]
 exact h i m k hm hk
theorem sound_node{x:Nd}{ks:List Sem}{kt:List (Int×Int)}(hb:x.1=2→0≤x.2∧x.2≤1)(ht:1≤x.1∧x.1≤26)(hl:ks.length=kt.length)(h:∀ (i:Nat) (m:Sem) (k:Int),ks[i]? = some m→(kt.map Prod.fst)[i]? = some k→Sound vs k m)(hr:0≤rule vs x kt):Sound vs (rule vs x kt) (nodeM x ks):=by
 have hl':ks.length=(kt.map Prod.fst).length:=by rw [List.length_map];exact hl
 have hkid:=fun {i:Nat} {k:Int} (hk:(kt.map Prod.fst)[i]? = some k)=>kid_at hl' h hk
 have hall:∀ m∈ks,∃ j,Sound vs j m:=fun m hm=>by
  obtain⟨i,hi,e⟩:=List.mem_iff_getElem.1 hm
  have h1:ks[i]? = some m:=by rw [List.getElem?_eq_getElem hi,e]
  obtain⟨k,hk⟩:∃ k,(kt.map Prod.fst)[i]? = some k:=⟨_,List.getElem?_eq_getElem (by omega)⟩
  exact⟨k,h i m k h1 hk⟩
 have one:∀ {k:Int},kt.map Prod.fst=[k]→Sound vs k (kid ks 0):=fun e=>hkid (by rw [e];rfl)
 have two0:∀ {k j:Int},kt.map Prod.fst=[k,j]→Sound vs k (kid ks 0):=fun e=>hkid (by rw [e];rfl)
 have two1:∀ {k j:Int},kt.map Prod.fst=[k,j]→Sound vs j (kid ks 1):=fun e=>hkid (by rw [e];rfl)
 have thr0:∀ {k j i:Int},kt.map Prod.fst=[k,j,i]→Sound vs k (kid ks 0):=fun e=>hkid (by rw [e];rfl)
 have thr1:∀ {k j i:Int},kt.map Prod.fst=[k,j,i]→Sound vs j (kid ks 1):=fun e=>hkid (by rw [e];rfl)
 have thr2:∀ {k j i:Int},kt.map Prod.fst=[k,j,i]→Sound vs i (kid ks 2):=fun e=>hkid (by rw [e];rfl)
 have n1:∀ {k:Int},k≠1→∀ v:Int,Of1 k v:=fun hk v e=>absurd e hk
 obtain⟨t,v⟩:=x
 simp only at hb ht
 have hn:nodeM (t,v) ks=if t=24 then whileM (kid ks 0) (kid ks 1) else enterM (innerM (t,v) ks):=rfl
 have hi:innerM (t,v) ks=if t=1∨t=2 then pureM v else if t=3 then getV v else if t=26 then pureM 0 else if t=20 then seqM ks else bindM (kid ks 0) (behindM (t,v) ks):=rfl
 have hbm:∀ a,behindM (t,v) ks a=if t=4 then getA v a else if t=5 then pureM (IntKind.i64.wrap (0-a)) else if t=6 then pureM (IntKind.i64.wrap (1-a)) else if t=18 then(if a=0 then pureM 0 else kid ks 1) else if t=19 then(if a=1 then pureM 1 else kid ks 1) else if t=21 then setV v a else if t=23 then kid ks (if a=1 then 1 else 2) else if t=25 then stopM 0 a else bindM (kid ks 1) fun b=>if t=22 then setA v a b else bin t a b:=fun a=>rfl
 have hrr:rule vs (t,v) kt=if t=1 then 0 else if t=2 then 1 else if t=3 then ifso (vtyp vs v=0∨vtyp vs v=1) (vtyp vs v) else if t=4 then ifso (0<asz (vtyp vs v)∧kt.map Prod.fst=[0]) 0 else if t=5 then ifso (kt.map Prod.fst=[0]) 0 else if t=6 then ifso (kt.map Prod.fst=[1]) 1 else if 7≤t∧t≤11 then ifso (kt.map Prod.fst=[0,0]) 0 else if 12≤t∧t≤17 then ifso (kt.map Prod.fst=[0,0]) 1 else if t=18∨t=19 then ifso (kt.map Prod.fst=[1,1]) 1 else if t=20 then ifso (alltwo (kt.map Prod.fst)=true) 2 else if t=21 then ifso ((vtyp vs v=0∨vtyp vs v=1)∧kt.map Prod.fst=[vtyp vs v]) 2 else if t=22 then ifso (0<asz (vtyp vs v)∧kt.map Prod.fst=[0,0]) 2 else if t=23 then ifso (kt.map Prod.fst=[1,2,2]∧blks kt=true) 2 else if t=24 then ifso (kt.map Prod.fst=[1,2]∧blks kt=true) 2 else if t=25 then ifso (kt.map Prod.fst=[0]) 2 else 2:=rfl
 rw [hrr] at hr ⊢
 by_cases t24:t=24
 ·subst t24
  rw [hn]
  simp at hr ⊢
  have hp:=ifso_ge hr
  rw [show ifso (kt.map Prod.fst=[1,2]∧blks kt=true) 2=2 from if_pos hp]
  exact sound_while (by decide) (two0 hp.1) (two1 hp.1)
 rw [if_neg t24] at hn
 rw [hn]
 refine sound_enter ?_
 clear hn
 by_cases t1:t=1
 ·subst t1;rw [hi];simp at hr ⊢;exact sound_pure (n1 (by decide) _)
 by_cases t2:t=2
 ·subst t2
  rw [hi]
  simp at hr ⊢
  exact sound_pure (fun _=>by have:=hb rfl;omega)
 by_cases t3:t=3
 ·subst t3
  rw [hi]
  simp at hr ⊢
  have hp:=ifso_ge hr
  rw [show ifso (vtyp vs v=0∨vtyp vs v=1) (vtyp vs v)=vtyp vs v from if_pos hp]
  exact sound_getV rfl (by omega)
 by_cases t26:t=26
 ·subst t26;rw [hi];simp at hr ⊢;exact sound_pure (n1 (by decide) _)
 by_cases t20:t=20
 ·subst t20
  rw [hi]
  simp at hr ⊢
  have hp:=ifso_ge hr
  rw [show ifso (alltwo (kt.map Prod.fst)=true) 2=2 from if_pos hp]
  exact sound_seq (by decide) ks hall
 rw [if_neg (show ¬ (t=1∨t=2) by omega),if_neg t3,if_neg t26,if_neg t20] at hi
 rw [hi]
 clear hi
 rw [if_neg t1,if_neg t2,if_neg t3] at hr ⊢
 by_cases t4:t=4
 ·subst t4
  simp at hr ⊢
  have hp:=ifso_ge hr
  rw [show ifso (0<asz (vtyp vs v)∧kt.map Prod.fst=[0]) 0=0 from if_pos hp]
  exact sound_bind (one hp.2) fun a _=>by rw [hbm a];simp;exact sound_getA (by decide)
 rw [if_neg t4] at hr ⊢
 by_cases t5:t=5
 ·subst t5
  simp at hr ⊢
  have hp:=ifso_ge hr
  rw [show ifso (kt.map Prod.fst=[0]) 0=0 from if_pos hp]
  exact sound_bind (one hp) fun a _=>by rw [hbm a];simp;exact sound_pure (n1 (by decide) _)
 rw [if_neg t5] at hr ⊢
 by_cases t6:t=6
 ·subst t6
  simp at hr ⊢
  have hp:=ifso_ge hr
  rw [show ifso (kt.map Prod.fst=[1]) 1=1 from if_pos hp]
  exact sound_bind (one hp) fun a ha=>by
   rw [hbm a]
   simp
   refine sound_pure (fun _=>?_)
   rcases ha rfl with rfl | rfl
   ·right;rfl
   ·left;rfl
 rw [if_neg t6] at hr ⊢
 by_cases t711:7≤t∧t≤11
 ·rw [if_pos t711] at hr ⊢
  have hp:=ifso_ge hr
  rw [show ifso (kt.map Prod.fst=[0,0]) 0=0 from if_pos hp]
  refine sound_bind (two0 hp) fun a _=>?_
  rw [hbm a,if_neg t4,if_neg t5,if_neg t6,if_neg (by omega),if_neg (by omega),if_neg (by omega),if_neg (by omega),if_neg (by omega)]
  refine sound_bind (two1 hp) fun b _=>?_
  rw [if_neg (by omega)]
  exact sound_bin (.inl ⟨t711.1,t711.2,rfl⟩)
 rw [if_neg t711] at hr ⊢
 by_cases t1217:12≤t∧t≤17
 ·rw [if_pos t1217] at hr ⊢
  have hp:=ifso_ge hr
  rw [show ifso (kt.map Prod.fst=[0,0]) 1=1 from if_pos hp]
  refine sound_bind (two0 hp) fun a _=>?_
  rw [hbm a,if_neg t4,if_neg t5,if_neg t6,if_neg (by omega),if_neg (by omega),if_neg (by omega),if_neg (by omega),if_neg (by omega)]
  refine sound_bind (two1 hp) fun b _=>?_
  rw [if_neg (by omega)]
  exact sound_bin (.inr ⟨t1217.1,t1217.2,rfl⟩)
 rw [if_neg t1217] at hr ⊢
 by_cases t1819:t=18∨t=19
 ·rw [if_pos t1819] at hr ⊢
  have hp:=ifso_ge hr
  rw [show ifso (kt.map Prod.fst=[1,1]) 1=1 from if_pos hp]
  refine sound_bind (two0 hp) fun a _=>?_
  rw [hbm a,if_neg t4,if_neg t5,if_neg t6]
  by_cases t18:t=18
  ·rw [if_pos t18]
   split
   ·exact sound_pure (fun _=>.inl rfl)
   ·exact two1 hp
  ·rw [if_neg t18,if_pos (by omega)]
   split
   ·exact sound_pure (fun _=>.inr rfl)
   ·exact two1 hp
 rw [if_neg t1819,if_neg t20] at hr ⊢
 by_cases t21:t=21
 ·subst t21
  simp at hr ⊢
  have hp:=ifso_ge hr
  rw [show ifso ((vtyp vs v=0∨vtyp vs v=1)∧kt.map Prod.fst=[vtyp vs v]) 2=2 from if_pos hp]
  exact sound_bind (one hp.2) fun a ha=>by rw [hbm a];simp;exact sound_setV hp.1 ha (by decide)
 rw [if_neg t21] at hr ⊢
 by_cases t22:t=22
 ·subst t22
  simp at hr ⊢
  have hp:=ifso_ge hr
  rw [show ifso (0<asz (vtyp vs v)∧kt.map Prod.fst=[0,0]) 2=2 from if_pos hp]
  exact sound_bind (two0 hp.2) fun a _=>by
   rw [hbm a]
   simp
   exact sound_bind (two1 hp.2) fun b _=>sound_setA hp.1 (by decide)
 rw [if_neg t22] at hr ⊢
 by_cases t23:t=23
 ·subst t23
  simp at hr ⊢
  have hp:=ifso_ge hr
  rw [show ifso (kt.map Prod.fst=[1,2,2]∧blks kt=true) 2=2 from if_pos hp]
  exact sound_bind (thr0 hp.1) fun a _=>by
   rw [hbm a]
   simp
   split
   ·exact thr1 hp.1
   ·exact thr2 hp.1
 rw [if_neg t23,if_neg t24] at hr ⊢
 have t25:t=25:=by omega
 subst t25
 simp at hr ⊢
 have hp:=ifso_ge hr
 rw [show ifso (kt.map Prod.fst=[0]) 2=2 from if_pos hp]
 exact sound_bind (one hp) fun a _=>by rw [hbm a];simp;exact sound_stop _ _
end
theorem ar_rng{x:Nd}(h:0≤ar x):(x.1=2→0≤x.2∧x.2≤1)∧1≤x.1∧x.1≤26:=by
 obtain⟨t,v⟩:=x
 unfold ar asks at h
 simp only at h ⊢
 repeat' split at h
 all_goals omega
theorem kids_sound{vs:List Int}{l:List Nd}{k n:Nat}(h:scan 1 (l.drop k)=some n)(ih:∀ j n':Nat,k<j→scan 1 (l.drop j)=some n'→Sound vs (okind vs l j) (mean l j)) :
  ∀ (i:Nat) (m:Sem) (kk:Int),((akids l k).map (mean l))[i]? = some m→(((akids l k).map fun q=>(okind vs l q,otag l q)).map Prod.fst)[i]? = some kk→Sound vs kk m:=by
 intro i mm kk h1 h2
 rw [List.getElem?_map] at h1
 rw [List.map_map,List.getElem?_map] at h2
 cases hq:(akids l k)[i]? with
 | none=>rw [hq] at h1;cases h1
 | some q =>
  rw [hq] at h1 h2
  obtain rfl:mean l q=mm:=Option.some.inj h1
  obtain rfl:okind vs l q=kk:=Option.some.inj h2
  obtain⟨q1,q2,q3⟩:=kids_in h q (List.mem_of_getElem? hq)
  obtain⟨j,rfl⟩:=Int.eq_ofNat_of_zero_le (show 0≤q by omega)
  rcases aend_cases l (j:Int) with z | ⟨k',n',ek,hs,-,-⟩
  ·omega
  ·obtain rfl:j=k':=by omega
   exact ih j n' (by omega) hs
theorem sound_mean{vs:List Int}{l:List Nd}(hall:∀ k n:Nat,scan 1 (l.drop k)=some n→0≤okind vs l k)(m:Nat):∀ (k n:Nat),l.length-k≤m→scan 1 (l.drop k)=some n→Sound vs (okind vs l k) (mean l k):=by
 induction m with
 | zero =>
  intro k n hm h
  obtain⟨x,hx,-⟩:=mean_kids h
  have:=(List.getElem?_eq_some_iff.1 hx).1
  omega
 | succ m ih =>
  intro k n hm h
  obtain⟨x,hx,h0,hl,e⟩:=mean_kids h
  obtain⟨x',hx',-,hl',e'⟩:=okind_kids (vs:=vs) h
  obtain rfl:x=x':=by rw [hx] at hx';exact Option.some.inj hx'
  have hk:=hall k n h
  rw [e'] at hk
  rw [e,e']
  obtain⟨b1,b2⟩:=ar_rng h0
  exact sound_node b1 b2 (by simp) (kids_sound h fun j n' hj hs=>ih j n' (by omega) hs) hk
theorem begin_wt{vs args:List Int}{ps:Nat}(f:Nat)(hp:∀ i:Nat,i<args.length→vs.getD i (-1)≠1):WT vs (begin_ vs args f) where
 nv:=by unfold begin_;simp
 na:=by unfold begin_;simp
 tv:=fun i hi=>by
  show((List.range vs.length).map fun i=>args.getD i 0).getD i 0=0∨_
  left
  by_cases q:i<vs.length
  ·rw [List.getD_eq_getElem?_getD,List.getElem?_map,List.getElem?_range q]
   show args.getD i 0=0
   by_cases z:i<args.length
   ·exact absurd hi (hp i z)
   ·rw [List.getD_eq_getElem?_getD,List.getElem?_eq_none (by omega)];rfl
  ·rw [List.getD_eq_getElem?_getD,List.getElem?_eq_none (by simpa using q)];rfl
 ta:=fun i hi=>by
  show(((vs.map fun t=>List.replicate (asz t).toNat 0).getD i []).length:Int)=_
  rw [List.getD_eq_getElem?_getD,List.getElem?_map,List.getD_eq_getElem?_getD]
  obtain⟨t,ht⟩:∃ t,vs[i]? = some t:=⟨_,List.getElem?_eq_getElem hi⟩
  rw [ht]
  show((List.replicate (asz t).toNat (0:Int)).length:Int)=asz t
  rw [List.length_replicate]
  have:0≤asz t:=by unfold asz;split<;>omega
  omega
 ev:=fun e h=>by cases h
section
variable {β:Type} (g:Nd→List β→β) (d:β)
theorem drop_aend{l l':List Nd}{k k':Nat}(h:l'.drop k'=l.drop k):(aend l' k'<0↔aend l k<0)∧(0≤aend l k→aend l' k'=aend l k-k+k'):=by
 rcases aend_cases l k with e | ⟨j,n,ej,hs,e,-,-⟩
 ·have hn:scan 1 (l.drop k)=none:=by
   cases q:scan 1 (l.drop k) with
   | none=>rfl
   | some n=>rw [aend_some q] at e;omega
  rw [aend_none (l:=l') (a:=k') (by rw [h];exact hn),e]
  exact⟨Iff.rfl,fun z=>by omega⟩
 ·obtain rfl:k=j:=by omega
  have hs':scan 1 (l'.drop k')=some n:=by rw [h];exact hs
  rw [aend_some hs',aend_some hs]
  exact⟨by omega,fun _=>by omega⟩
theorem drop_apart{l l':List Nd}{k k':Nat}(h:l'.drop k'=l.drop k):apart l' k'=apart l k:=by
 obtain⟨h1,h2⟩:=drop_aend h
 unfold apart
 by_cases q:aend l k<0
 ·rw [if_pos q,if_pos (h1.2 q)]
 ·rw [if_neg q,if_neg (fun z=>q (h1.1 z)),h2 (by omega),Int.toNat_natCast,Int.toNat_natCast,h]
  congr 1
  rcases aend_cases l k with e | ⟨j,n,ej,hs,e,-,-⟩
  ·omega
  ·omega
theorem drop_val{l l':List Nd}{k k':Nat}(h:l'.drop k'=l.drop k):val g d l' k'=val g d l k:=by
 unfold val
 rw [drop_apart h]
theorem drop_kids{l l':List Nd}:∀ (c k k' n:Nat),l'.drop k'=l.drop k→scan c (l.drop k)=some n→(kidsFrom l' c k').map (val g d l')=(kidsFrom l c k).map (val g d l)
 | 0,k,k',n,h,hs=>rfl
 | c+1,k,k',n,h,hs=>by
  rw [Nat.add_comm,scan_add] at hs
  cases h1:scan 1 (l.drop k) with
  | none=>rw [h1] at hs;cases hs
  | some n1 =>
   rw [h1] at hs
   simp only [Option.bind_some,Option.map_eq_some_iff,List.drop_drop] at hs
   obtain⟨m,h2,rfl⟩:=hs
   have h1':scan 1 (l'.drop k')=some n1:=by rw [h];exact h1
   rw [kidsFrom,kidsFrom,List.map_cons,List.map_cons,drop_val g d h,aend_some h1,aend_some h1']
   have hd:l'.drop (k'+n1)=l.drop (k+n1):=by rw [← List.drop_drop,← List.drop_drop,h]
   have ih:=drop_kids c (k+n1) (k'+n1) m hd h2
   rw [show((k:Int)+n1)=((k+n1:Nat):Int) by omega,show((k':Int)+n1)=((k'+n1:Nat):Int) by omega,ih]
theorem val_first{l:List Nd}{n:Nat}(h:scan 1 l=some n):∃ x r,l=x::r∧0≤ar x∧scan (ar x).toNat r=some (n-1)∧val g d l 0=g x ((kidsFrom l (ar x).toNat 1).map (val g d l)):=by
 have h':scan 1 (l.drop 0)=some n:=by rw [List.drop_zero];exact h
 obtain⟨x,hx,h0,-,e⟩:=val_kids g d (k:=0) h'
 cases l with
 | nil=>simp at hx
 | cons y r =>
  obtain rfl:y=x:=by simpa using hx
  refine⟨y,r,rfl,h0,?_,?_⟩
  ·rw [scan_good h0,Nat.zero_add,Option.map_eq_some_iff] at h
   obtain⟨m,hm,rfl⟩:=h
   rw [hm];rfl
  ·have e2:akids (y::r) ((0:Nat):Int)=kidsFrom (y::r) (ar y).toNat 1:=by
    unfold akids
    rw [if_neg (by rw [aend_some h'];omega)]
    rfl
   rw [← e2]
   exact e
end
section
variable {N:Int} {r:List Nd}
theorem ar_block(h:0≤ar (20,N)):0≤N∧N≤200∧ar (20,N)=N:=by
 unfold ar asks at h ⊢
 simp at h ⊢
 by_cases q:N<0∨200<N
 ·rw [if_pos q] at h;omega
 ·exact⟨by omega,by omega,fun z=>absurd z q⟩
theorem ar_block'(h0:0≤N)(h1:N≤200):ar (20,N)=N:=by
 unfold ar asks
 simp
 intro q
 omega
theorem ar_skip:ar (26,0)=0:=by decide
theorem first_scan(h0:0≤N)(h1:N≤199){m:Nat}(hr:scan N.toNat r=some m):scan 1 ((20,N+1)::(26,0)::r)=some (m+2)∧scan 1 (((26,0)::r:List Nd))=some 1:=by
 constructor
 ·rw [scan_good (by rw [ar_block' (by omega) (by omega)];omega),ar_block' (by omega) (by omega),Nat.zero_add,show(N+1).toNat=N.toNat+1 by omega,scan_good (by rw [ar_skip];omega),ar_skip]
  show Option.map _ (Option.map _ (scan (N.toNat+0) r))=_
  rw [Nat.add_zero,hr]
  rfl
 ·rw [scan_good (by rw [ar_skip];omega),ar_skip]
  show Option.map _ (scan (0+0) r)=_
  rw [scan_0]
  rfl
variable {β:Type} (g:Nd→List β→β) (d:β)
theorem first_val(h0:0≤N)(h1:N≤199){m:Nat}(hr:scan N.toNat r=some m) :
  val g d ((20,N+1)::(26,0)::r) 0=g (20,N+1) (g (26,0) []::(kidsFrom ((20,N)::r) N.toNat 1).map (val g d ((20,N)::r))) ∧
  val g d ((20,N)::r) 0=g (20,N) ((kidsFrom ((20,N)::r) N.toNat 1).map (val g d ((20,N)::r))):=by
 obtain⟨s1,s2⟩:=first_scan h0 h1 hr
 have aN:ar (20,N)=N:=ar_block' h0 (by omega)
 have s0:scan 1 ((20,N)::r)=some (m+1):=by rw [scan_good (by rw [aN];exact h0),aN,Nat.zero_add,hr];rfl
 constructor
 ·obtain⟨x,r',e,-,-,hv⟩:=val_first g d s1
  cases e
  rw [hv,ar_block' (by omega) (by omega),show(N+1).toNat=N.toNat+1 by omega]
  have h2:scan 1 (((20,N+1)::(26,0)::r:List Nd).drop 1)=some 1:=s2
  have ae:aend ((20,N+1)::(26,0)::r) 1=((2:Nat):Int):=aend_some h2
  rw [kidsFrom,List.map_cons,ae]
  have hd:((20,N+1)::(26,0)::r:List Nd).drop 2=((20,N)::r:List Nd).drop 1:=rfl
  have hk:=drop_kids g d (l:=(20,N)::r) (l':=(20,N+1)::(26,0)::r) N.toNat 1 2 m hd hr
  rw [hk]
  have hv1:val g d ((20,N+1)::(26,0)::r) 1=g (26,0) []:=by
   obtain⟨x,hx,-,hl,e⟩:=val_kids g d h2
   obtain rfl:((26,0):Nd)=x:=by simpa using hx
   refine e.trans ?_
   have:akids ((20,N+1)::(26,0)::r) ((1:Nat):Int)=[]:=List.eq_nil_of_length_eq_zero (by rw [hl,ar_skip];rfl)
   rw [this]
   rfl
  rw [hv1]
  rfl
 ·obtain⟨x,r',e,-,-,hv⟩:=val_first g d s0
  cases e
  rw [hv,aN]
end
theorem run_first{N:Int}{r:List Nd}(vs args:List Int)(f:Nat)(hf:1≤f)(h0:0≤N)(h1:N≤199){m:Nat}(hr:scan N.toNat r=some m) :
  (mrun vs ((20,N)::r) args f).kind=(mrun vs ((20,N+1)::(26,0)::r) args (f+1)).kind∧(mrun vs ((20,N)::r) args f).value=(mrun vs ((20,N+1)::(26,0)::r) args (f+1)).value ∧
  (mrun vs ((20,N+1)::(26,0)::r) args (f+1)).steps=(mrun vs ((20,N)::r) args f).steps+1∧(mrun vs ((20,N)::r) args f).ev=(mrun vs ((20,N+1)::(26,0)::r) args (f+1)).ev:=by
 obtain⟨v1,v2⟩:=first_val nodeM (pureM 0) h0 h1 hr
 have hks:∀ q∈(kidsFrom ((20,N)::r) N.toNat 1).map (val nodeM (pureM 0) ((20,N)::r)),Nice q:=fun q hq=>by
  rw [List.mem_map] at hq
  obtain⟨k,-,rfl⟩:=hq
  exact nice_mean _ k
 unfold mrun mean
 rw [v1,v2]
 generalize (kidsFrom ((20,N)::r) N.toNat 1).map (val nodeM (pureM 0) ((20,N)::r))=ks at *
 have e1:nodeM (20,N) ks=enterM (seqM ks):=by simp [nodeM,innerM]
 have e2:nodeM (20,N+1) (nodeM (26,0) []::ks)=enterM (bindM (enterM (pureM 0)) fun _=>seqM ks):=by simp [nodeM,innerM,seqM]
 rw [e1,e2,enter_on (s:=begin_ vs args f) rfl (by show f≠0;omega),enter_on (s:=begin_ vs args (f+1)) rfl (by show f+1≠0;omega)]
 have hin:enterM (pureM 0) (begin_ vs args (f+1)).tick=((begin_ vs args (f+1)).tick.tick,0):=by
  rw [enter_on rfl (by show f+1-1≠0;omega)];rfl
 rw [bind_on (by rw [hin];rfl),hin]
 have hst:(begin_ vs args (f+1)).tick.tick=(begin_ vs args f).tick.late 1:=rfl
 show _∧_
 rw [hst,(nice_seq ks hks).late (begin_ vs args f).tick 1 rfl]
 generalize (seqM ks (begin_ vs args f).tick).1=z
 have hz:(z.late 1).stop 3 0=(z.stop 3 0).late 1:=by
  unfold St.stop
  rw [late_over]
  split<;>rfl
 show(z.stop 3 0).kind=((z.late 1).stop 3 0).kind∧(z.stop 3 0).value=((z.late 1).stop 3 0).value∧((z.late 1).stop 3 0).steps=(z.stop 3 0).steps+1∧(z.stop 3 0).ev=((z.late 1).stop 3 0).ev
 rw [hz]
 exact⟨rfl,rfl,rfl,rfl⟩
theorem first_kind{N:Int}{r:List Nd}(vs:List Int)(h0:0≤N)(h1:N≤199){m:Nat}(hr:scan N.toNat r=some m)(hk:okind vs ((20,N)::r) 0=2):okind vs ((20,N+1)::(26,0)::r) 0=2:=by
 obtain⟨v1,v2⟩:=first_val (kd vs) (-1,0) h0 h1 hr
 unfold okind at hk ⊢
 rw [v2] at hk
 rw [v1]
 generalize (kidsFrom ((20,N)::r) N.toNat 1).map (val (kd vs) (-1,0) ((20,N)::r))=ks at *
 have e1:rule vs (20,N) ks=ifso (alltwo (ks.map Prod.fst)=true) 2:=by simp [rule]
 have e2:rule vs (20,N+1) (kd vs (26,0) []::ks)=ifso (alltwo (((kd vs (26,0) [])::ks).map Prod.fst)=true) 2:=by simp [rule]
 have e3:(kd vs (26,0) []).1=2:=by simp [kd,rule]
 show rule vs (20,N+1) (kd vs (26,0) []::ks)=2
 have hk:rule vs (20,N) ks=2:=hk
 rw [e1] at hk
 rw [e2]
 have hp:alltwo (ks.map Prod.fst)=true:=ifso_ge (k:=2) (by rw [hk];decide)
 refine if_pos ?_
 rw [List.map_cons,e3]
 unfold alltwo at hp ⊢
 rw [List.all_cons,hp]
 rfl
def Few(d:Nat)(m:Sem):Prop:=∀ s,s.over=false→(m s).1.ev.length+s.steps≤s.ev.length+(m s).1.steps+d
theorem stop_ev{s:St}(k v:Int):(s.stop k v).ev=s.ev∧(s.stop k v).steps=s.steps:=by
 unfold St.stop
 split<;>exact⟨rfl,rfl⟩
theorem Few.mono{d e:Nat}{m:Sem}(h:Few d m)(q:d≤e):Few e m:=fun s hs=>Nat.le_trans (h s hs) (by omega)
theorem few_pure(v:Int):Few 0 (pureM v):=fun s _=>by unfold pureM;simp
theorem few_stop(k v:Int):Few 0 (stopM k v):=fun s _=>by unfold stopM;simp only;rw [(stop_ev k v).1,(stop_ev k v).2];omega
theorem few_getV(i:Int):Few 0 (getV i):=fun s _=>by unfold getV;simp
theorem few_getA(i a:Int):Few 0 (getA i a):=fun s _=>by
 unfold getA
 split
 ·rw [(stop_ev 2 0).1,(stop_ev 2 0).2];omega
 ·simp
theorem few_setV(i a:Int):Few 1 (setV i a):=fun s _=>by unfold setV;simp;omega
theorem few_setA(i a b:Int):Few 1 (setA i a b):=fun s _=>by
 unfold setA
 split
 ·rw [(stop_ev 2 0).1,(stop_ev 2 0).2];omega
 ·simp;omega
theorem few_bind{d e:Nat}{m:Sem}{k:Int→Sem}(hm:Few d m)(hk:∀ a,Few e (k a)):Few (d+e) (bindM m k):=fun s hs=>by
 have h1:=hm s hs
 by_cases ho:(m s).1.over=true
 ·rw [bind_over ho];simp only;omega
 ·have ho:(m s).1.over=false:=by simpa using ho
  rw [bind_on ho]
  have h2:=hk (m s).2 _ ho
  omega
theorem few_enter{b:Sem}(hb:Few 1 b):Few 0 (enterM b):=fun s hs=>by
 by_cases h0:s.fuel=0
 ·rw [enter_out hs h0];simp
 ·rw [enter_on hs h0]
  have h:=hb s.tick hs
  have e1:s.tick.steps=s.steps+1:=rfl
  have e2:s.tick.ev=s.ev:=rfl
  rw [e1,e2] at h
  omega
theorem few_seq:∀ l:List Sem,(∀ m∈l,Few 0 m)→Few 0 (seqM l)
 | [],_=>few_pure 0
 | m::l,h=>few_bind (h m (List.mem_cons_self ..)) fun _=>few_seq l fun q hq=>h q (List.mem_cons_of_mem _ hq)
theorem few_loop{c b:Sem}(hc:Few 0 c)(hb:Few 0 b):∀ n,Few 0 (loopM c b n)
 | 0=>few_pure 0
 | n+1=>few_enter ((few_bind hc fun a=>by
  by_cases h:a=1
  ·rw [if_pos h];exact few_bind hb fun _=>few_loop hc hb n
  ·rw [if_neg h];exact few_pure 0).mono (by omega))
theorem few_while{c b:Sem}(hc:Few 0 c)(hb:Few 0 b):Few 0 (whileM c b):=fun s hs=>by rw [while_on hs];exact few_loop hc hb _ s hs
theorem few_kid{ks:List Sem}(h:∀ m∈ks,Few 0 m)(i:Nat):Few 0 (kid ks i):=by
 unfold kid
 rw [List.getD_eq_getElem?_getD]
 cases q:ks[i]? with
 | none=>exact few_pure 0
 | some m=>exact h m (List.mem_of_getElem? q)
theorem few_bin(t a b:Int):Few 0 (bin t a b):=by
 unfold bin
 repeat' split
 all_goals first
  | exact few_pure _
  | exact few_stop _ _
theorem few_behind{ks:List Sem}(h:∀ m∈ks,Few 0 m)(x:Nd)(a:Int):Few 1 (behindM x ks a):=by
 unfold behindM
 repeat' split
 all_goals first
  | exact(few_pure _).mono (by omega)
  | exact(few_getA _ _).mono (by omega)
  | exact few_setV _ _
  | exact(few_kid h _).mono (by omega)
  | exact(few_stop _ _).mono (by omega)
  | exact few_bind (few_kid h 1) fun b=>few_setA _ _ _
  | exact(few_bind (few_kid h 1) fun b=>few_bin _ _ _).mono (by omega)
theorem few_inner{ks:List Sem}(h:∀ m∈ks,Few 0 m)(x:Nd):Few 1 (innerM x ks):=by
 unfold innerM
 repeat' split
 ·exact(few_pure _).mono (by omega)
 ·exact(few_getV _).mono (by omega)
 ·exact(few_pure _).mono (by omega)
 ·exact(few_seq ks h).mono (by omega)
 ·exact(few_bind (few_kid h 0) (few_behind h x)).mono (by omega)
theorem few_node{ks:List Sem}(h:∀ m∈ks,Few 0 m)(x:Nd):Few 0 (nodeM x ks):=by
 unfold nodeM
 split
 ·exact few_while (few_kid h 0) (few_kid h 1)
 ·exact few_enter (few_inner h x)
theorem few_fold:∀ (X:List Nd),∀ m∈fold nodeM X,Few 0 m
 | [],m,h=>by cases h
 | x::X,m,h=>by
  rw [fold_cons] at h
  rcases List.mem_cons.1 h with h | h
  ·rw [h];exact few_node (fun q hq=>few_fold X q (List.mem_of_mem_take hq)) x
  ·exact few_fold X m (List.mem_of_mem_drop h)
theorem few_mean(l:List Nd)(k:Int):Few 0 (mean l k):=by
 unfold mean val
 cases q:fold nodeM (apart l k) with
 | nil=>exact few_pure 0
 | cons m r=>exact few_fold (apart l k) m (by rw [q];exact List.mem_cons_self ..)
structure Fits (s:St):Prop where
 ev:s.ev.length≤s.steps
 top:s.steps+s.fuel≤10000
theorem Fits.mean{s:St}(h:Fits s)(ho:s.over=false)(l:List Nd)(k:Int):Fits (mean l k s).1 where
 ev:=by have:=few_mean l k s ho;have:=h.ev;omega
 top:=by rw [(nice_mean l k).sum s ho];exact h.top
theorem mean_fuel{s:St}(ho:s.over=false)(l:List Nd)(k:Int):(mean l k s).1.fuel≤s.fuel:=by
 have:=(nice_mean l k).sum s ho
 have:=(nice_mean l k).grow s ho
 omega
structure Fits1 (s:St):Prop where
 ev:s.ev.length+1≤s.steps
 top:s.steps+s.fuel≤10000
theorem Fits.tick{s:St}(h:Fits s)(h0:s.fuel≠0):Fits1 s.tick where
 ev:=by have:=h.ev;show s.ev.length+1≤s.steps+1;omega
 top:=by have:=h.top;show s.steps+1+(s.fuel-1)≤10000;omega
theorem Fits1.fits{s:St}(h:Fits1 s):Fits s:=⟨by have:=h.ev;omega,h.top⟩
theorem Fits1.mean{s:St}(h:Fits1 s)(ho:s.over=false)(l:List Nd)(k:Int):Fits1 (mean l k s).1 where
 ev:=by have:=few_mean l k s ho;have:=h.ev;omega
 top:=by rw [(nice_mean l k).sum s ho];exact h.top
def Rests(m:Sem):Prop:=∀ s,s.over=true→m s=(s,0)
def runM(ms:List Sem)(s:St):St:=ms.foldl (fun s m=>(m s).1) s
theorem runM_over:∀ (ms:List Sem),(∀ m∈ms,Rests m)→∀ s,s.over=true→runM ms s=s
 | [],_,s,_=>rfl
 | m::l,h,s,ho=>by
  show runM l (m s).1=s
  rw [h m (List.mem_cons_self ..) s ho]
  exact runM_over l (fun q hq=>h q (List.mem_cons_of_mem _ hq)) s ho
theorem seq_run:∀ (ms:List Sem),(∀ m∈ms,Rests m)→∀ s,seqM ms s=(runM ms s,0)
 | [],_,s=>rfl
 | m::l,h,s=>by
  show bindM m (fun _=>seqM l) s=(runM l (m s).1,0)
  by_cases ho:(m s).1.over=true
  ·rw [bind_over ho,runM_over l (fun q hq=>h q (List.mem_cons_of_mem _ hq)) _ ho]
  ·rw [bind_on (by simpa using ho)]
   exact seq_run l (fun q hq=>h q (List.mem_cons_of_mem _ hq)) _
theorem runM_succ{ms:List Sem}{j:Nat}{m:Sem}(h:ms[j]? = some m)(s:St):runM (ms.take (j+1)) s=(m (runM (ms.take j) s)).1:=by
 unfold runM
 rw [List.take_add_one,h,List.foldl_append];rfl
theorem loop_zero(c b:Sem):∀ n s,(loopM c b n s).2=0
 | 0,s=>rfl
 | n+1,s=>by
  show(enterM _ s).2=0
  by_cases h:s.over=true
  ·rw [enter_over h]
  have h:s.over=false:=by simpa using h
  by_cases h0:s.fuel=0
  ·rw [enter_out h h0]
  rw [enter_on h h0]
  by_cases ho:(c s.tick).1.over=true
  ·rw [bind_over ho]
  rw [bind_on (by simpa using ho)]
  by_cases ha:(c s.tick).2=1
  ·rw [if_pos ha]
   by_cases ho2:(b (c s.tick).1).1.over=true
   ·rw [bind_over ho2]
   ·rw [bind_on (by simpa using ho2)]
    exact loop_zero c b n _
  ·rw [if_neg ha];rfl
theorem while_zero(c b:Sem)(s:St):(whileM c b s).2=0:=by
 unfold whileM
 split
 ·rfl
 ·exact loop_zero c b _ _
theorem while_rests(c b:Sem):Rests (whileM c b):=fun s h=>by unfold whileM;rw [if_pos h]
theorem while_step{c b:Sem}(hc:Nice c)(hb:Nice b)(hr:Rests b){s:St}(h:s.over=false)(h0:s.fuel≠0)(ho:(c s.tick).1.over=false) :
  whileM c b s=(if(c s.tick).2=1 then(whileM c b (b (c s.tick).1).1).1 else(c s.tick).1,0):=by
 rw [while_is hc hb,enter_on h h0,bind_on ho]
 by_cases ha:(c s.tick).2=1
 ·rw [if_pos ha,if_pos ha]
  by_cases ho2:(b (c s.tick).1).1.over=true
  ·rw [bind_over ho2,while_rests c b _ ho2]
  ·rw [bind_on (by simpa using ho2)]
   exact Prod.ext rfl (while_zero c b _)
 ·rw [if_neg ha,if_neg ha];rfl
theorem while_first{c b:Sem}(hc:Nice c)(hb:Nice b){s:St}(h:s.over=false)(h0:s.fuel≠0)(ho:(c s.tick).1.over=true) :
  whileM c b s=((c s.tick).1,0):=by
 rw [while_is hc hb,enter_on h h0,bind_over ho]
theorem sh1{α β:Type}{f:α→β}{L:List α}{a:β}(h:L.map f=[a]):∃ q,L=[q]∧f q=a:=by
 match L,h with
 | [q],h=>exact⟨q,rfl,by simpa using h⟩
theorem sh2{α β:Type}{f:α→β}{L:List α}{a b:β}(h:L.map f=[a,b]):∃ q q2,L=[q,q2]∧f q=a∧f q2=b:=by
 match L,h with
 | [q,q2],h=>exact⟨q,q2,rfl,by simpa using h⟩
theorem sh3{α β:Type}{f:α→β}{L:List α}{a b c:β}(h:L.map f=[a,b,c]):∃ q q2 q3,L=[q,q2,q3]∧f q=a∧f q2=b∧f q3=c:=by
 match L,h with
 | [q,q2,q3],h=>exact⟨q,q2,q3,rfl,by simpa using h⟩
def Cases(vs:List Int)(l:List Nd)(k:Nat)(t N:Int):Prop :=
 (t=1∨t=2)∨(t=3∧(vtyp vs N=0∨vtyp vs N=1))∨t=26∨t=20 ∨
 (t=4∧0<asz (vtyp vs N)∧∃ q,akids l k=[q])∨((t=5∨t=6)∧∃ q,akids l k=[q]) ∨
 (7≤t∧t≤17∧∃ q q2,akids l k=[q,q2])∨(t=18∧∃ q q2,akids l k=[q,q2])∨(t=19∧∃ q q2,akids l k=[q,q2]) ∨
 (t=21∧(vtyp vs N=0∨vtyp vs N=1)∧∃ q,akids l k=[q])∨(t=22∧0<asz (vtyp vs N)∧∃ q q2,akids l k=[q,q2]) ∨
 (t=23∧∃ q q2 q3,akids l k=[q,q2,q3]∧okind vs l q=1)∨(t=24∧∃ q q2,akids l k=[q,q2]∧okind vs l q=1)∨(t=25∧∃ q,akids l k=[q])
theorem typed_cases{vs:List Int}{l:List Nd}{k n:Nat}(h:scan 1 (l.drop k)=some n)(hk:0≤okind vs l k) :
  ∃ t N,l[k]? = some (t,N)∧mean l k=nodeM (t,N) ((akids l k).map (mean l))∧(akids l k).length=(ar (t,N)).toNat∧Cases vs l k t N:=by
 obtain⟨⟨t,v⟩,hx,h0,hl,e⟩:=mean_kids h
 obtain⟨x',hx',-,-,e'⟩:=okind_kids (vs:=vs) h
 obtain rfl:(t,v)=x':=by rw [hx] at hx';exact Option.some.inj hx'
 refine⟨t,v,hx,e,hl,?_⟩
 obtain⟨-,b1,b2⟩:=ar_rng h0
 simp only at b1 b2
 rw [e'] at hk
 generalize hkt:((akids l k).map fun q=>(okind vs l q,otag l q))=kt at hk
 have hm:kt.map Prod.fst=(akids l k).map (okind vs l):=by rw [← hkt,List.map_map];rfl
 have hrr:rule vs (t,v) kt=if t=1 then 0 else if t=2 then 1 else if t=3 then ifso (vtyp vs v=0∨vtyp vs v=1) (vtyp vs v) else if t=4 then ifso (0<asz (vtyp vs v)∧kt.map Prod.fst=[0]) 0 else if t=5 then ifso (kt.map Prod.fst=[0]) 0 else if t=6 then ifso (kt.map Prod.fst=[1]) 1 else if 7≤t∧t≤11 then ifso (kt.map Prod.fst=[0,0]) 0 else if 12≤t∧t≤17 then ifso (kt.map Prod.fst=[0,0]) 1 else if t=18∨t=19 then ifso (kt.map Prod.fst=[1,1]) 1 else if t=20 then ifso (alltwo (kt.map Prod.fst)=true) 2 else if t=21 then ifso ((vtyp vs v=0∨vtyp vs v=1)∧kt.map Prod.fst=[vtyp vs v]) 2 else if t=22 then ifso (0<asz (vtyp vs v)∧kt.map Prod.fst=[0,0]) 2 else if t=23 then ifso (kt.map Prod.fst=[1,2,2]∧blks kt=true) 2 else if t=24 then ifso (kt.map Prod.fst=[1,2]∧blks kt=true) 2 else if t=25 then ifso (kt.map Prod.fst=[0]) 2 else 2:=rfl
 rw [hrr,hm] at hk
 clear hrr hm hkt e e' hx hx' hl h0 h
 unfold Cases
 by_cases t1:t=1
 ·exact .inl (.inl t1)
 by_cases t2:t=2
 ·exact .inl (.inr t2)
 rw [if_neg t1,if_neg t2] at hk
 by_cases t3:t=3
 ·rw [if_pos t3] at hk
  exact .inr (.inl ⟨t3,ifso_ge hk⟩)
 rw [if_neg t3] at hk
 by_cases t26:t=26
 ·exact .inr (.inr (.inl t26))
 by_cases t20:t=20
 ·exact .inr (.inr (.inr (.inl t20)))
 by_cases t4:t=4
 ·rw [if_pos t4] at hk
  obtain⟨p1,p2⟩:=ifso_ge hk
  obtain⟨q,hq,-⟩:=sh1 p2
  exact .inr (.inr (.inr (.inr (.inl ⟨t4,p1,q,hq⟩))))
 rw [if_neg t4] at hk
 by_cases t5:t=5
 ·rw [if_pos t5] at hk
  obtain⟨q,hq,-⟩:=sh1 (ifso_ge hk)
  exact .inr (.inr (.inr (.inr (.inr (.inl ⟨.inl t5,q,hq⟩)))))
 rw [if_neg t5] at hk
 by_cases t6:t=6
 ·rw [if_pos t6] at hk
  obtain⟨q,hq,-⟩:=sh1 (ifso_ge hk)
  exact .inr (.inr (.inr (.inr (.inr (.inl ⟨.inr t6,q,hq⟩)))))
 rw [if_neg t6] at hk
 by_cases t7:7≤t∧t≤11
 ·rw [if_pos t7] at hk
  obtain⟨q,q2,hq,-⟩:=sh2 (ifso_ge hk)
  exact .inr (.inr (.inr (.inr (.inr (.inr (.inl ⟨by omega,by omega,q,q2,hq⟩))))))
 rw [if_neg t7] at hk
 by_cases t12:12≤t∧t≤17
 ·rw [if_pos t12] at hk
  obtain⟨q,q2,hq,-⟩:=sh2 (ifso_ge hk)
  exact .inr (.inr (.inr (.inr (.inr (.inr (.inl ⟨by omega,by omega,q,q2,hq⟩))))))
 rw [if_neg t12] at hk
 by_cases t1819:t=18∨t=19
 ·rw [if_pos t1819] at hk
  obtain⟨q,q2,hq,-⟩:=sh2 (ifso_ge hk)
  rcases t1819 with t18 | t19
  ·exact .inr (.inr (.inr (.inr (.inr (.inr (.inr (.inl ⟨t18,q,q2,hq⟩)))))))
  ·exact .inr (.inr (.inr (.inr (.inr (.inr (.inr (.inr (.inl ⟨t19,q,q2,hq⟩))))))))
 rw [if_neg t1819,if_neg t20] at hk
 by_cases t21:t=21
 ·rw [if_pos t21] at hk
  obtain⟨p1,p2⟩:=ifso_ge hk
  obtain⟨q,hq,-⟩:=sh1 p2
  exact .inr (.inr (.inr (.inr (.inr (.inr (.inr (.inr (.inr (.inl ⟨t21,p1,q,hq⟩)))))))))
 rw [if_neg t21] at hk
 by_cases t22:t=22
 ·rw [if_pos t22] at hk
  obtain⟨p1,p2⟩:=ifso_ge hk
  obtain⟨q,q2,hq,-⟩:=sh2 p2
  exact .inr (.inr (.inr (.inr (.inr (.inr (.inr (.inr (.inr (.inr (.inl ⟨t22,p1,q,q2,hq⟩))))))))))
 rw [if_neg t22] at hk
 by_cases t23:t=23
 ·rw [if_pos t23] at hk
  obtain⟨q,q2,q3,hq,h1,-⟩:=sh3 (ifso_ge hk).1
  exact .inr (.inr (.inr (.inr (.inr (.inr (.inr (.inr (.inr (.inr (.inr (.inl ⟨t23,q,q2,q3,hq,h1⟩)))))))))))
 rw [if_neg t23] at hk
 by_cases t24:t=24
 ·rw [if_pos t24] at hk
  obtain⟨q,q2,hq,h1,-⟩:=sh2 (ifso_ge hk).1
  exact .inr (.inr (.inr (.inr (.inr (.inr (.inr (.inr (.inr (.inr (.inr (.inr (.inl ⟨t24,q,q2,hq,h1⟩))))))))))))
 rw [if_neg t24] at hk
 have t25:t=25:=by omega
 rw [if_pos t25] at hk
 obtain⟨q,hq,-⟩:=sh1 (ifso_ge hk)
 exact .inr (.inr (.inr (.inr (.inr (.inr (.inr (.inr (.inr (.inr (.inr (.inr (.inr ⟨t25,q,hq⟩))))))))))))
theorem kid_node{l:List Nd}{k n:Nat}(h:scan 1 (l.drop k)=some n){q:Int}(hq:q∈akids l k):∃ j n':Nat,q=j∧scan 1 (l.drop j)=some n':=by
 obtain⟨q1,q2,q3⟩:=kids_in h q hq
 obtain⟨j,rfl⟩:=Int.eq_ofNat_of_zero_le (show 0≤q by omega)
 rcases aend_cases l (j:Int) with z | ⟨k',n',ek,hs,-,-⟩
 ·omega
 ·obtain rfl:j=k':=by omega
  exact⟨j,n',rfl,hs⟩
theorem inner_kid{t N:Int}{m:Sem}{ks:List Sem}(n1:t≠1)(n2:t≠2)(n3:t≠3)(n20:t≠20)(n26:t≠26):innerM (t,N) (m::ks)=bindM m (behindM (t,N) (m::ks)):=by
 unfold innerM
 simp only
 rw [if_neg (by omega),if_neg n3,if_neg n26,if_neg n20]
 rfl
theorem node_on{t N:Int}{ks:List Sem}(n24:t≠24){s:St}(ho:s.over=false)(h0:s.fuel≠0):nodeM (t,N) ks s=innerM (t,N) ks s.tick:=by
 unfold nodeM
 rw [if_neg n24,enter_on ho h0]
theorem node_out{t N:Int}{ks:List Sem}(hn:∀ m∈ks,Nice m){s:St}(ho:s.over=false)(h0:s.fuel=0):nodeM (t,N) ks s=({ s with kind:=4,value:=0,over:=true },0):=by
 unfold nodeM
 split
 ·rw [while_is (nice_kid hn 0) (nice_kid hn 1),enter_out ho h0]
 ·rw [enter_out ho h0]
theorem behind_two{t N:Int}{m m2:Sem}{ks:List Sem}{a:Int}(n4:t≠4)(n5:t≠5)(n6:t≠6)(n18:t≠18)(n19:t≠19)(n21:t≠21)(n23:t≠23)(n25:t≠25):behindM (t,N) (m::m2::ks) a=bindM m2 fun b=>if t=22 then setA N a b else bin t a b:=by
 unfold behindM
 simp only
 rw [if_neg n4,if_neg n5,if_neg n6,if_neg n18,if_neg n19,if_neg n21,if_neg n23,if_neg n25]
 rfl
def mcheck(ps:Int)(vs:List Int)(xs:List Nd)(al:Nat)(f:Int):Int :=
 if avars ps vs≠0∨aend xs 0≠xs.length then 23
 else if otag xs 0≠20∨okind vs xs 0≠2 then 23
 else if(al:Int)≠ps then 18
 else if f<0∨10000<f then 19 else 0
structure MRight (ps:Int) (vs:List Int) (xs:List Nd) (al:Nat) (f:Int):Prop where
 vars:avars ps vs=0
 whole:scan 1 xs=some xs.length
 tag:otag xs 0=20
 kind:okind vs xs 0=2
 args:(al:Int)=ps
 f0:0≤f
 f1:f≤10000
theorem whole_iff{xs:List Nd}:aend xs 0=xs.length↔scan 1 xs=some xs.length:=by
 constructor
 ·intro h
  rcases aend_cases xs 0 with q | ⟨k,n,e,hs,e2,-,-⟩
  ·omega
  ·obtain rfl:k=0:=by omega
   rw [List.drop_zero] at hs
   rw [hs]
   congr 1
   omega
 ·intro h
  have:=aend_some (l:=xs) (a:=0) (n:=xs.length) (by rw [List.drop_zero];exact h)
  rw [show((0:Nat):Int)=0 from rfl] at this
  omega
theorem mcheck_zero{ps:Int}{vs:List Int}{xs:List Nd}{al:Nat}{f:Int}:mcheck ps vs xs al f=0↔MRight ps vs xs al f:=by
 unfold mcheck
 constructor
 ·intro h
  by_cases h1:avars ps vs≠0∨aend xs 0≠xs.length
  ·rw [if_pos h1] at h;omega
  rw [if_neg h1] at h
  by_cases h2:otag xs 0≠20∨okind vs xs 0≠2
  ·rw [if_pos h2] at h;omega
  rw [if_neg h2] at h
  by_cases h3:(al:Int)≠ps
  ·rw [if_pos h3] at h;omega
  rw [if_neg h3] at h
  by_cases h4:f<0∨10000<f
  ·rw [if_pos h4] at h;omega
  exact⟨by omega,whole_iff.1 (by omega),by omega,by omega,by omega,by omega,by omega⟩
 ·rintro⟨h1,h2,h3,h4,h5,h6,h7⟩
  have:=whole_iff.2 h2
  rw [if_neg (by omega),if_neg (by omega),if_neg (by omega),if_neg (by omega)]
section
variable {ps:Int} {vs:List Int} {xs:List Nd} {al:Nat} {f:Int}
theorem MRight.pos(h:MRight ps vs xs al f):0<xs.length:=by
 cases xs with
 | nil=>have:=h.whole;rw [scan_nil] at this;cases this
 | cons x l=>simp
theorem MRight.all(h:MRight ps vs xs al f):∀ k n:Nat,scan 1 (xs.drop k)=some n→0≤okind vs xs k:=fun k n hk=>okind_below h.whole (by rw [h.kind];decide) hk
theorem MRight.nv(h:MRight ps vs xs al f):vs.length≤12∧0≤ps∧ps≤vs.length:=by
 have:=h.vars
 unfold avars at this
 by_cases q:ps<0∨(vs.length:Int)<ps∨12<vs.length
 ·rw [if_pos q] at this;omega
 ·omega
theorem MRight.good(h:MRight ps vs xs al f){i:Nat}(hi:i<vs.length):0≤vs.getD i 0∧vs.getD i 0≤9∧((i:Int)<ps→vs.getD i 0=0):=by
 have:=h.vars
 unfold avars at this
 have h2:=h.nv
 rw [if_neg (by omega)] at this
 by_cases q:vsgood ps vs vs.length=true
 ·cases hg:vgood ps i (vs.getD i 0) with
  | true=>exact of_decide_eq_true hg
  | false=>rw [vsgood_not hi hg] at q;cases q
 ·rw [if_neg q] at this;omega
theorem MRight.begin(h:MRight ps vs xs al f){args:List Int}(hl:args.length=al)(n:Nat):WT vs (begin_ vs args n):=begin_wt (ps:=0) n fun i hi=>by
 have h2:=h.nv
 have h3:=h.args
 have h4:=h.good (i:=i) (by omega)
 have h5:=h4.2.2 (by omega)
 rw [List.getD_eq_getElem?_getD,List.getElem?_eq_getElem (by omega)] at h5 ⊢
 simp only [Option.getD_some] at h5 ⊢
 omega
theorem begin_fits{args:List Int}{n:Nat}(h:n≤10000):Fits (begin_ vs args n):=⟨Nat.le_refl _,by show 0+n≤10000;omega⟩
end
end Go.Proofs.YtekogckmgkodfaaGreatDoor.Mach
