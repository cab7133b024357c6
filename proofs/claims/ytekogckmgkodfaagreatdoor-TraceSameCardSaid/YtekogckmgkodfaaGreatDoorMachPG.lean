/-
  What a program does, told by a stack of nodes that were entered, turn by turn (plain): it comes to what each node means. No program is met here.
  Package machine, walked: its small functions.
  Package machine: a run in memory: the struct, its variables, its arrays, its events, its stack, each in a block of its own; and what stays as it is.
  Package machine, walked: a value is told; an event is stored; a node is entered.
  Package machine, walked: a node is entered.
-/
import Derived.Test.YtekogckmgkodfaaGreatDoorMachG
import Derived.Test.YtekogckmgkodfaaGreatDoorArenaG
import Derived.Deep.QuietTactic
import Derived.Laws.EntriesVeiled
import Derived.Test.YtekogckmgkodfaaGreatDoorMachH
import Derived.Maps.OwnOps
import Derived.Deep.CutBlock
import Derived.Deep.CutRange
import Derived.Test.YtekogckmgkodfaaGreatDoorOrdersU
import Derived.Deep.RegionLaw
import Derived.Deep.AppendLies
set_option linter.unusedVariables false
set_option maxRecDepth 100000
set_option maxHeartbeats 4000000
namespace Go.Proofs.YtekogckmgkodfaaGreatDoor
theorem zMachPG0{P:Prop}(h:P:=by
  go_wp2
  go_ret
  refine⟨?_,rfl⟩
  first
   | rfl
   | (rw [IntWalk.i64_left];rfl)):P:=h
theorem zMachPG1{P:Prop}(h:P:=by
  have hn:=h.lab.nc q
  have hk:k<W.heap.size:=by
   rcases q with q | q
   ·exact Nat.lt_of_lt_of_le q h.cn.size
   ·have:=h.lab.c k q;exact(h.lab.lt k (by omega)).2
  exact(hb k (hng k (by omega))).trans (hW k hk (by omega))):P:=h
theorem zMachPG2{P:Prop}(h:P:=by
    intro k q
    unfold relabP at q
    split at q
    · next z => rcases hnew k z with c | ⟨c, -⟩
                · exact .inl (by omega)
                · exact .inr (by omega)
    · split at q
      · exact absurd rfl q
      · exact .inl q):P:=h
theorem zMachPG3{P:Prop}(h:P:=by
  obtain rfl:W.heap.size=k:=Option.some.inj (z.symm.trans q)
  refine .inr ⟨rfl,?_⟩
  by_cases c:κ W.heap.size=0
  ·exact c
  ·have:=(h.lab.lt _ c).2;omega):P:=h
theorem zMachPG4{P:Prop}(h:P:=by
  go_enter Tryz.func90,Tryz.ntmps90
  go_wp2
  go_ret
  exact⟨by rw [hE.out];rfl,rfl⟩):P:=h
end Go.Proofs.YtekogckmgkodfaaGreatDoor
namespace Go.Proofs.YtekogckmgkodfaaGreatDoor.Mach
open Arena Kinds
structure Fr where
 x:Nd
 pos:Nat
 next:Nat
 owed:Nat
 fst:Int
 lst:Int
 ag:Bool
def owedN(x:Nd):Nat:=if x.1=18∨x.1=19∨x.1=23∨x.1=24 then 1 else(ar x).toNat
abbrev Cfg:=St×List Fr
def tellS(v:Int):List Fr→List Fr
 | []=>[]
 | f::S=>{ f with fst:=f.lst,lst:=v }::S
def tellC(v:Int)(c:Cfg):Cfg:=(c.1,tellS v c.2)
def frame0(l:List Nd)(k:Nat):Fr:=⟨l.getD k (0,0),k,k+1,owedN (l.getD k (0,0)),0,0,false⟩
def enterC(l:List Nd)(k:Nat)(c:Cfg):Cfg:=if c.1.fuel=0 then(c.1.stop 4 0,c.2) else(c.1.tick,frame0 l k::c.2)
def behind(l:List Nd)(k:Nat):Nat:=(aend l k).toNat
def doM(x:Nd)(a b:Int):Sem :=
 if x.1=1∨x.1=2 then pureM x.2
 else if x.1=3 then getV x.2
 else if x.1=4 then getA x.2 b
 else if x.1=5 then pureM (IntKind.i64.wrap (0-b))
 else if x.1=6 then pureM (IntKind.i64.wrap (1-b))
 else if x.1=20∨x.1=26 then pureM 0
 else if x.1=21 then setV x.2 b
 else if x.1=22 then setA x.2 a b
 else if x.1=25 then stopM 0 b
 else bin x.1 a b
def semC(m:Sem)(c:Cfg):Cfg:=if(m c.1).1.over=true then((m c.1).1,c.2) else tellC (m c.1).2 ((m c.1).1,c.2)
def doC(l:List Nd)(f:Fr)(c:Cfg):Cfg :=
 if f.ag=true then enterC l f.pos c
 else if f.x.1=18 then(if f.lst=0 then tellC 0 c else enterC l f.next c)
 else if f.x.1=19 then(if f.lst=1 then tellC 1 c else enterC l f.next c)
 else if f.x.1=23 then(if f.lst=1 then enterC l f.next c else enterC l (behind l f.next) c)
 else if f.x.1=24 then(if f.lst=0 then tellC 0 c else(c.1,{ f with owed:=1,ag:=true }::c.2))
 else semC (doM f.x f.fst f.lst) c
def stepC(l:List Nd)(c:Cfg):Cfg :=
 match c.2 with
 | []=>(c.1.stop 3 0,[])
 | f::S=>if f.owed=0 then doC l f (c.1,S) else enterC l f.next (c.1,{ f with owed:=f.owed-1,next:=behind l f.next }::S)
def IsNode(l:List Nd)(k:Nat):Prop:=∃ n,scan 1 (l.drop k)=some n
theorem IsNode.get{l:List Nd}{k:Nat}(h:IsNode l k):∃ x,l[k]? = some x∧0≤ar x∧1≤x.1∧x.1≤26∧k<l.length∧l.getD k (0,0)=x:=by
 obtain⟨n,h⟩:=h
 obtain⟨x,hx,h0,-,-⟩:=mean_kids h
 obtain⟨-,b1,b2⟩:=ar_rng h0
 refine⟨x,hx,h0,b1,b2,(List.getElem?_eq_some_iff.1 hx).1,?_⟩
 rw [List.getD_eq_getElem?_getD,hx];rfl
theorem IsNode.behind{l:List Nd}{k:Nat}(h:IsNode l k):((behind l k:Nat):Int)=aend l k:=by
 obtain⟨n,h⟩:=h
 unfold Mach.behind
 rw [aend_some h];omega
structure SafeDo (l:List Nd) (f:Fr) (s:St):Prop where
 ag:f.ag=true→IsNode l f.pos
 next:f.ag=false→f.x.1=18∨f.x.1=19∨f.x.1=23→IsNode l f.next
 next2:f.ag=false→f.x.1=23→IsNode l (behind l f.next)
 v:f.ag=false→f.x.1=3∨f.x.1=21→0≤f.x.2∧f.x.2<s.vals.length
 a:f.ag=false→f.x.1=4∨f.x.1=22→0≤f.x.2∧f.x.2<s.arrs.length
def SafeS(l:List Nd)(s:St):List Fr→Prop
 | []=>True
 | f::_=>1≤f.x.1∧f.x.1≤26∧(f.owed=0→SafeDo l f s)∧(f.owed≠0→IsNode l f.next)
def Safe(l:List Nd)(c:Cfg):Prop:=c.1.over=false∧SafeS l c.1 c.2
def Reach(l:List Nd):Nat→Cfg→Cfg→Prop
 | 0,c,c'=>c=c'
 | n+1,c,c'=>Safe l c∧Reach l n (stepC l c) c'
def End(l:List Nd)(c:Cfg)(r:St×Int)(S:List Fr):Prop:=∃ n c',Reach l n c c'∧c'.1=r.1∧(r.1.over=false→c'=tellC r.2 (r.1,S))
section
variable {l:List Nd} {r R:St×Int} {S:List Fr} {s:St} {c:Cfg}
theorem End.step(h:Safe l c)(k:End l (stepC l c) r S):End l c r S:=by
 obtain⟨n,c',h1,h2,h3⟩:=k
 exact⟨n+1,c',⟨h,h1⟩,h2,h3⟩
theorem Reach.trans:∀ {n m:Nat} {c c' c'':Cfg},Reach l n c c'→Reach l m c' c''→Reach l (n+m) c c''
 | 0,m,c,c',c'',h,k=>by
  have h:c=c':=h
  rw [Nat.zero_add,h];exact k
 | n+1,m,c,c',c'',h,k=>by
  rw [show n+1+m=n+m+1 by omega]
  exact⟨h.1,Reach.trans h.2 k⟩
theorem End.over(h:c.1=r.1)(ho:r.1.over=true):End l c r S:=⟨0,c,rfl,h,fun z=>by rw [ho] at z;cases z⟩
theorem End.told:End l (tellC r.2 (r.1,S)) r S:=⟨0,_,rfl,rfl,fun _=>rfl⟩
theorem step_owed{f:Fr}{j a:Nat}(hf:f.owed=j+1)(hn:f.next=a):stepC l (s,f::S)=enterC l a (s,{ f with owed:=j,next:=behind l a }::S):=by
 subst hn
 unfold stepC
 simp only
 rw [if_neg (by omega),hf];rfl
theorem step_do{f:Fr}(hf:f.owed=0):stepC l (s,f::S)=doC l f (s,S):=by
 unfold stepC
 simp only
 rw [if_pos hf]
theorem End.kid{f:Fr}{j a:Nat}(hf:f.owed=j+1)(hn:f.next=a)(ha:IsNode l a)(ht:1≤f.x.1∧f.x.1≤26)(ho:s.over=false)(H:∀ S,End l (enterC l a (s,S)) r S)
  (h1:r.1.over=true→R.1=r.1) (h2:r.1.over=false→End l (r.1,{ f with owed:=j,next:=behind l a,fst:=f.lst,lst:=r.2 }::S) R S):End l (s,f::S) R S:=by
 refine End.step ⟨ho,ht.1,ht.2,fun z=>by omega,fun _=>by rw [hn];exact ha⟩ ?_
 rw [step_owed hf hn]
 obtain⟨n,c',a1,a2,a3⟩:=H ({ f with owed:=j,next:=behind l a }::S)
 by_cases hr:r.1.over=true
 ·exact⟨n,c',a1,by rw [h1 hr];exact a2,fun z=>by rw [h1 hr,hr] at z;cases z⟩
 ·have hr:r.1.over=false:=by simpa using hr
  obtain⟨m,c'',b1,b2,b3⟩:=h2 hr
  have a3:=a3 hr
  subst a3
  exact⟨n+m,c'',a1.trans b1,b2,b3⟩
theorem End.sem{f:Fr}(hf:f.owed=0)(hg:f.ag=false)(n18:f.x.1≠18)(n19:f.x.1≠19)(n23:f.x.1≠23)(n24:f.x.1≠24)(hs:Safe l (s,f::S))(e:R=doM f.x f.fst f.lst s):End l (s,f::S) R S:=by
 subst e
 refine End.step hs ?_
 rw [step_do hf]
 unfold doC
 rw [if_neg (by rw [hg];decide),if_neg n18,if_neg n19,if_neg n23,if_neg n24]
 unfold semC
 split
 ·exact End.over rfl (by assumption)
 ·exact End.told
theorem kid_first{c a m:Nat}(h:scan (c+1) (l.drop a)=some m):IsNode l a∧(∃ m',scan c (l.drop (behind l a))=some m')∧kidsFrom l (c+1) a=(a:Int)::kidsFrom l c (behind l a:Nat):=by
 rw [Nat.add_comm,scan_add] at h
 cases h1:scan 1 (l.drop a) with
 | none=>rw [h1] at h;cases h
 | some n1 =>
  rw [h1] at h
  simp only [Option.bind_some,Option.map_eq_some_iff,List.drop_drop] at h
  obtain⟨m2,h2,rfl⟩:=h
  have hb:behind l a=a+n1:=by unfold behind;rw [aend_some h1];omega
  exact⟨⟨n1,h1⟩,⟨m2,by rw [hb];exact h2⟩,by rw [kidsFrom,aend_some h1,hb];rfl⟩
theorem node_scan{k n:Nat}(h:scan 1 (l.drop k)=some n){x:Nd}(hx:l[k]? = some x):(∃ m,scan (ar x).toNat (l.drop (k+1))=some m)∧akids l k=kidsFrom l (ar x).toNat ((k+1:Nat):Int):=by
 have hd:l.drop k=x::l.drop (k+1):=by
  have hl:=(List.getElem?_eq_some_iff.1 hx)
  obtain⟨hl,e⟩:=hl
  rw [← e];exact List.drop_eq_getElem_cons hl
 have h0:0≤aend l k:=by rw [aend_some h];omega
 obtain⟨x',hx',h0',-⟩:=mean_kids h
 obtain rfl:x=x':=by rw [hx] at hx';exact Option.some.inj hx'
 rw [hd,scan_good h0',Nat.zero_add] at h
 obtain⟨m,hm,-⟩:=Option.map_eq_some_iff.1 h
 refine⟨⟨m,hm⟩,?_⟩
 unfold akids
 rw [if_neg (by omega),Int.toNat_natCast,List.getD_eq_getElem?_getD,hx];rfl
end
section
variable {vs:List Int} {l:List Nd}
structure On (vs:List Int) (F:Nat) (s:St):Prop where
 fuel:s.fuel<F
 over:s.over=false
 wt:WT vs s
def Ih(vs:List Int)(l:List Nd)(F:Nat):Prop:=∀ (k n:Nat) (s:St) (S:List Fr),scan 1 (l.drop k)=some n→On vs F s→End l (enterC l k (s,S)) (mean l k s) S
theorem On.kid{F:Nat}{s:St}(h:On vs F s)(hall:∀ k n:Nat,scan 1 (l.drop k)=some n→0≤okind vs l k){k:Nat}(hk:IsNode l k)(ho:(mean l k s).1.over=false):On vs F (mean l k s).1∧Of1 (okind vs l k) (mean l k s).2:=by
 obtain⟨n,hk⟩:=hk
 obtain⟨a1,a2⟩:=sound_mean hall _ k n (Nat.le_refl _) hk s h.wt h.over
 exact⟨⟨Nat.lt_of_le_of_lt (mean_fuel h.over _ _) h.fuel,ho,a1⟩,a2 ho⟩
theorem Ih.at{F:Nat}(ih:Ih vs l F){k:Nat}{s:St}(hk:IsNode l k)(h:On vs F s):∀ S,End l (enterC l k (s,S)) (mean l k s) S:=fun S=>by
 obtain⟨n,hk⟩:=hk
 exact ih k n s S hk h
theorem End.block{F:Nat}(ih:Ih vs l F)(hall:∀ k n:Nat,scan 1 (l.drop k)=some n→0≤okind vs l k){x:Nd}(hx:x.1=20){k:Nat}{S:List Fr}:∀ (c a m:Nat) (s:St) (fst lst:Int),scan c (l.drop a)=some m→On vs F s →
  End l (s,⟨x,k,a,c,fst,lst,false⟩::S) (seqM ((kidsFrom l c a).map (mean l)) s) S
 | 0,a,m,s,fst,lst,h,hs=>by
  refine End.sem rfl rfl (by simp only;omega) (by simp only;omega) (by simp only;omega) (by simp only;omega) ⟨hs.over,by simp only;omega,by simp only;omega,fun _=>⟨fun z=>(by simp only at z;cases z),fun _ z=>by simp only at z;omega,fun _ z=>by simp only at z;omega,fun _ z=>by simp only at z;omega,fun _ z=>by simp only at z;omega⟩,fun z=>absurd rfl z⟩ ?_
  show pureM 0 s=_
  unfold doM
  simp only
  rw [if_neg (by omega),if_neg (by omega),if_neg (by omega),if_neg (by omega),if_neg (by omega),if_pos (by omega)]
 | c+1,a,m,s,fst,lst,h,hs=>by
  obtain⟨hn,⟨m',hm'⟩,hk⟩:=kid_first h
  rw [hk,List.map_cons]
  refine End.kid (f:=⟨x,k,a,c+1,fst,lst,false⟩) (j:=c) rfl rfl hn ⟨by simp only;omega,by simp only;omega⟩ hs.over (ih.at hn hs) (fun ho=>?_) fun ho=>?_
  ·show(bindM _ _ s).1=_
   rw [bind_over ho]
  ·obtain⟨h1,-⟩:=hs.kid hall hn ho
   show End l _ (bindM _ _ s) S
   rw [bind_on ho]
   exact End.block ih hall hx c _ m' _ lst _ hm' h1
theorem node_comes(hall:∀ k n:Nat,scan 1 (l.drop k)=some n→0≤okind vs l k)(F:Nat):Ih vs l F:=by
 induction F with
 | zero=>intro k n s S h hs;exact absurd hs.fuel (by omega)
 | succ F ih =>
  intro k n s S h hs
  have ho:=hs.over
  obtain⟨t,N,hx,hm,hl,hc⟩:=typed_cases h (hall k n h)
  have hnk:∀ m∈(akids l k).map (mean l),Nice m:=fun m hm=>by
   obtain⟨q,-,rfl⟩:=List.mem_map.1 hm
   exact nice_mean _ _
  by_cases h0:s.fuel=0
  ·rw [hm,node_out hnk ho h0]
   unfold enterC
   simp only
   rw [if_pos h0,stop_no ho]
   exact End.over rfl rfl
  have hT:On vs F s.tick:=⟨by show s.fuel-1<F;have:=hs.fuel;omega,ho,hs.wt.tick⟩
  have hE:enterC l k (s,S)=(s.tick,⟨(t,N),k,k+1,owedN (t,N),0,0,false⟩::S):=by
   unfold enterC frame0
   simp only
   rw [if_neg h0,List.getD_eq_getElem?_getD,hx];rfl
  obtain⟨⟨m0,hsc⟩,hkf⟩:=node_scan h hx
  rw [hkf,kids_len] at hl
  unfold Cases at hc
  rw [hkf] at hc hm hnk
  rw [hE]
  clear hE
  generalize hA:(ar (t,N)).toNat=A at hsc hkf hm hc hl hnk
  have ow1:¬ (t=18∨t=19∨t=23∨t=24)→owedN (t,N)=A:=fun z=>by unfold owedN;simp only;rw [if_neg z,hA]
  have ow2:(t=18∨t=19∨t=23∨t=24)→owedN (t,N)=1:=fun z=>by unfold owedN;simp only;rw [if_pos z]
  have safe0:∀ (f:Fr) (s':St),f.owed=0→s'.over=false→f.x=(t,N)→f.ag=false→t≠18→t≠19→t≠23→1≤t→t≤26→(t=3∨t=21→0≤N∧N<s'.vals.length)→(t=4∨t=22→0≤N∧N<s'.arrs.length)→Safe l (s',f::S):=by
   intro f s' g1 g2 g3 g4 g5 g6 g7 g8 g9 g10 g11
   refine⟨g2,by rw [g3];exact g8,by rw [g3];exact g9,fun _=>⟨fun z=>(by rw [g4] at z;cases z),fun _ z=>?_,fun _ z=>?_,fun _ z=>?_,fun _ z=>?_⟩,fun z=>absurd g1 z⟩
   ·rw [g3] at z;simp only at z;omega
   ·rw [g3] at z;simp only at z;omega
   ·rw [g3] at z ⊢;exact g10 z
   ·rw [g3] at z ⊢;exact g11 z
  have k1:A=1→IsNode l (k+1)∧kidsFrom l A ((k+1:Nat):Int)=[((k+1:Nat):Int)]:=fun e=>by
   subst e
   obtain⟨a1,-,a3⟩:=kid_first hsc
   exact⟨a1,a3⟩
  have k2:A=2→IsNode l (k+1)∧IsNode l (behind l (k+1))∧kidsFrom l A ((k+1:Nat):Int)=[((k+1:Nat):Int),((behind l (k+1):Nat):Int)]:=fun e=>by
   subst e
   obtain⟨a1,⟨m1,a2⟩,a3⟩:=kid_first hsc
   obtain⟨b1,-,b3⟩:=kid_first a2
   exact⟨a1,b1,by rw [a3,b3];rfl⟩
  have k3:A=3→IsNode l (k+1)∧IsNode l (behind l (k+1))∧IsNode l (behind l (behind l (k+1)))∧kidsFrom l A ((k+1:Nat):Int)=[((k+1:Nat):Int),((behind l (k+1):Nat):Int),((behind l (behind l (k+1)):Nat):Int)]:=fun e=>by
   subst e
   obtain⟨a1,⟨m1,a2⟩,a3⟩:=kid_first hsc
   obtain⟨b1,⟨m2,b2⟩,b3⟩:=kid_first a2
   obtain⟨c1,-,c3⟩:=kid_first b2
   exact⟨a1,b1,c1,by rw [a3,b3,c3];rfl⟩
  have len1:∀ q:Int,kidsFrom l A ((k+1:Nat):Int)=[q]→A=1:=fun q e=>by have:=kids_len l A ((k+1:Nat):Int);rw [e] at this;exact this.symm
  have len2:∀ q q2:Int,kidsFrom l A ((k+1:Nat):Int)=[q,q2]→A=2:=fun q q2 e=>by have:=kids_len l A ((k+1:Nat):Int);rw [e] at this;exact this.symm
  have len3:∀ q q2 q3:Int,kidsFrom l A ((k+1:Nat):Int)=[q,q2,q3]→A=3:=fun q q2 q3 e=>by have:=kids_len l A ((k+1:Nat):Int);rw [e] at this;exact this.symm
  have har:ar (t,N)=if t=1 then 0 else if N<0∨(asks t N).2<N then -1 else(asks t N).1:=rfl
  have h0a:0≤ar (t,N):=by
   obtain⟨x',hx',z,-⟩:=mean_kids h
   obtain rfl:(t,N)=x':=by rw [hx] at hx';exact Option.some.inj hx'
   exact z
  have leaf:t=1∨t=2∨t=3∨t=26→A=0:=fun z=>by
   rw [har] at hA
   unfold asks at hA
   rcases z with rfl | rfl | rfl | rfl<;>simp at hA
   ·exact hA.symm
   all_goals (split at hA<;>omega)
  have nt:∀ c v:Int,t=c→t≠v∨c=v:=fun c v e=>by omega
  rcases hc with ht | ⟨ht,hv⟩ | ht | ht | ⟨ht,hv,q,hq⟩ | ⟨ht,q,hq⟩ | ⟨ht1,ht2,q,q2,hq⟩ | ⟨ht,q,q2,hq⟩ | ⟨ht,q,q2,hq⟩ | ⟨ht,hv,q,hq⟩ | ⟨ht,hv,q,q2,hq⟩ | ⟨ht,q,q2,q3,hq,hk1⟩ | ⟨ht,q,q2,hq,hk1⟩ | ⟨ht,q,hq⟩
  ·refine End.sem (by show owedN (t,N)=0;rw [ow1 (by omega),leaf (by omega)]) rfl (by show t≠18;omega) (by show t≠19;omega) (by show t≠23;omega) (by show t≠24;omega) (safe0 _ _ (by show owedN (t,N)=0;rw [ow1 (by omega),leaf (by omega)]) ho rfl rfl (by omega) (by omega) (by omega) (by omega) (by omega) (fun z=>by omega) (fun z=>by omega)) ?_
   rw [hm,node_on (by omega) ho h0]
   unfold innerM doM
   simp only
   rw [if_pos ht,if_pos ht]
  ·have hvt:0≤vtyp vs N:=by omega
   obtain⟨v1,v2,-⟩:=vtyp_nat hvt
   have hnv:=hs.wt.nv
   refine End.sem (by show owedN (t,N)=0;rw [ow1 (by omega),leaf (by omega)]) rfl (by show t≠18;omega) (by show t≠19;omega) (by show t≠23;omega) (by show t≠24;omega) (safe0 _ _ (by show owedN (t,N)=0;rw [ow1 (by omega),leaf (by omega)]) ho rfl rfl (by omega) (by omega) (by omega) (by omega) (by omega) (fun z=>⟨v1,by show N<s.vals.length;omega⟩) (fun z=>by omega)) ?_
   rw [hm,node_on (by omega) ho h0]
   unfold innerM doM
   simp only
   rw [if_neg (by omega),if_pos ht,if_neg (by omega),if_pos ht]
  ·refine End.sem (by show owedN (t,N)=0;rw [ow1 (by omega),leaf (by omega)]) rfl (by show t≠18;omega) (by show t≠19;omega) (by show t≠23;omega) (by show t≠24;omega) (safe0 _ _ (by show owedN (t,N)=0;rw [ow1 (by omega),leaf (by omega)]) ho rfl rfl (by omega) (by omega) (by omega) (by omega) (by omega) (fun z=>by omega) (fun z=>by omega)) ?_
   rw [hm,node_on (by omega) ho h0]
   unfold innerM doM
   simp only
   rw [if_neg (by omega),if_neg (by omega),if_pos ht,if_neg (by omega),if_neg (by omega),if_neg (by omega),if_neg (by omega),if_neg (by omega),if_pos (by omega)]
  ·rw [hm,node_on (by omega) ho h0,ow1 (by omega)]
   unfold innerM
   simp only
   rw [if_neg (by omega),if_neg (by omega),if_neg (by omega),if_pos ht]
   exact End.block ih hall (x:=(t,N)) ht A (k+1) m0 s.tick 0 0 hsc hT
  ·obtain⟨a1,a2⟩:=k1 (len1 _ hq)
   have hvt:0≤vtyp vs N:=by unfold asz at hv;split at hv<;>omega
   obtain⟨v1,v2,-⟩:=vtyp_nat hvt
   rw [hm,node_on (by omega) ho h0,a2,List.map_cons,List.map_nil,inner_kid (by omega) (by omega) (by omega) (by omega) (by omega)]
   refine End.kid (j:=0) (by show owedN (t,N)=1;rw [ow1 (by omega),len1 _ hq]) rfl a1 ⟨by show 1≤t;omega,by show t≤26;omega⟩ hT.over (ih.at a1 hT) (fun hv=>by rw [bind_over hv]) fun hv=>?_
   obtain⟨o1,-⟩:=hT.kid hall a1 hv
   have hna:(mean l ((k+1:Nat):Int) s.tick).1.arrs.length=vs.length:=o1.wt.na
   have hNN:N<(((mean l ((k+1:Nat):Int) s.tick).1.arrs.length:Nat):Int):=by omega
   rw [bind_on hv]
   refine End.sem rfl rfl (by show t≠18;omega) (by show t≠19;omega) (by show t≠23;omega) (by show t≠24;omega) (safe0 _ _ rfl hv rfl rfl (by omega) (by omega) (by omega) (by omega) (by omega) (fun z=>by omega) (fun z=>⟨v1,hNN⟩)) ?_
   subst ht;rfl
  ·obtain⟨a1,a2⟩:=k1 (len1 _ hq)
   rw [hm,node_on (by omega) ho h0,a2,List.map_cons,List.map_nil,inner_kid (by omega) (by omega) (by omega) (by omega) (by omega)]
   refine End.kid (j:=0) (by show owedN (t,N)=1;rw [ow1 (by omega),len1 _ hq]) rfl a1 ⟨by show 1≤t;omega,by show t≤26;omega⟩ hT.over (ih.at a1 hT) (fun hv=>by rw [bind_over hv]) fun hv=>?_
   obtain⟨o1,-⟩:=hT.kid hall a1 hv
   rw [bind_on hv]
   refine End.sem rfl rfl (by show t≠18;omega) (by show t≠19;omega) (by show t≠23;omega) (by show t≠24;omega) (safe0 _ _ rfl hv rfl rfl (by omega) (by omega) (by omega) (by omega) (by omega) (fun z=>by omega) (fun z=>by omega)) ?_
   rcases ht with ht | ht<;>(subst ht;rfl)
  ·obtain⟨a1,a2,a3⟩:=k2 (len2 _ _ hq)
   rw [hm,node_on (by omega) ho h0,a3,List.map_cons,List.map_cons,List.map_nil,inner_kid (by omega) (by omega) (by omega) (by omega) (by omega)]
   refine End.kid (j:=1) (by show owedN (t,N)=2;rw [ow1 (by omega),len2 _ _ hq]) rfl a1 ⟨by show 1≤t;omega,by show t≤26;omega⟩ hT.over (ih.at a1 hT) (fun hv=>by rw [bind_over hv]) fun hv=>?_
   obtain⟨o1,-⟩:=hT.kid hall a1 hv
   rw [bind_on hv,behind_two (by omega) (by omega) (by omega) (by omega) (by omega) (by omega) (by omega) (by omega)]
   refine End.kid (j:=0) rfl rfl a2 ⟨by show 1≤t;omega,by show t≤26;omega⟩ hv (ih.at a2 o1) (fun hv=>by rw [bind_over hv]) fun hv2=>?_
   rw [bind_on hv2]
   refine End.sem rfl rfl (by show t≠18;omega) (by show t≠19;omega) (by show t≠23;omega) (by show t≠24;omega) (safe0 _ _ rfl hv2 rfl rfl (by omega) (by omega) (by omega) (by omega) (by omega) (fun z=>by omega) (fun z=>by omega)) ?_
   unfold doM
   simp only
   rw [if_neg (by omega),if_neg (by omega),if_neg (by omega),if_neg (by omega),if_neg (by omega),if_neg (by omega),if_neg (by omega),if_neg (by omega),if_neg (by omega),if_neg (by omega)]
  ·obtain⟨a1,a2,a3⟩:=k2 (len2 _ _ hq)
   rw [hm,node_on (by omega) ho h0,a3,List.map_cons,List.map_cons,List.map_nil,inner_kid (by omega) (by omega) (by omega) (by omega) (by omega)]
   refine End.kid (j:=0) (by show owedN (t,N)=1;exact ow2 (by omega)) rfl a1 ⟨by show 1≤t;omega,by show t≤26;omega⟩ hT.over (ih.at a1 hT) (fun hv=>by rw [bind_over hv]) fun hv=>?_
   obtain⟨o1,-⟩:=hT.kid hall a1 hv
   rw [bind_on hv]
   refine End.step ⟨hv,by show 1≤t;omega,by show t≤26;omega,fun _=>⟨fun z=>(by cases z),fun _ _=>a2,fun _ z=>by have z:t=23:=z;omega,fun _ z=>by have z:t=3∨t=21:=z;omega,fun _ z=>by have z:t=4∨t=22:=z;omega⟩,fun z=>absurd rfl z⟩ ?_
   rw [step_do rfl]
   subst ht
   by_cases hz:(mean l ((k+1:Nat):Int) s.tick).2=0
   ·have e1:behindM (18,N) [mean l ((k+1:Nat):Int),mean l ((behind l (k+1):Nat):Int)] (mean l ((k+1:Nat):Int) s.tick).2=pureM 0:=by unfold behindM;simp only;rw [if_neg (by decide),if_neg (by decide),if_neg (by decide),if_pos trivial,if_pos hz]
    rw [e1]
    unfold doC
    simp only
    rw [if_neg (by decide),if_pos trivial,if_pos hz]
    exact End.told (r:=(_,0))
   ·have e1:behindM (18,N) [mean l ((k+1:Nat):Int),mean l ((behind l (k+1):Nat):Int)] (mean l ((k+1:Nat):Int) s.tick).2=mean l ((behind l (k+1):Nat):Int):=by unfold behindM;simp only;rw [if_neg (by decide),if_neg (by decide),if_neg (by decide),if_pos trivial,if_neg hz];rfl
    rw [e1]
    unfold doC
    simp only
    rw [if_neg (by decide),if_pos trivial,if_neg hz]
    exact ih.at a2 o1 S
  ·obtain⟨a1,a2,a3⟩:=k2 (len2 _ _ hq)
   rw [hm,node_on (by omega) ho h0,a3,List.map_cons,List.map_cons,List.map_nil,inner_kid (by omega) (by omega) (by omega) (by omega) (by omega)]
   refine End.kid (j:=0) (by show owedN (t,N)=1;exact ow2 (by omega)) rfl a1 ⟨by show 1≤t;omega,by show t≤26;omega⟩ hT.over (ih.at a1 hT) (fun hv=>by rw [bind_over hv]) fun hv=>?_
   obtain⟨o1,-⟩:=hT.kid hall a1 hv
   rw [bind_on hv]
   refine End.step ⟨hv,by show 1≤t;omega,by show t≤26;omega,fun _=>⟨fun z=>(by cases z),fun _ _=>a2,fun _ z=>by have z:t=23:=z;omega,fun _ z=>by have z:t=3∨t=21:=z;omega,fun _ z=>by have z:t=4∨t=22:=z;omega⟩,fun z=>absurd rfl z⟩ ?_
   rw [step_do rfl]
   subst ht
   by_cases hz:(mean l ((k+1:Nat):Int) s.tick).2=1
   ·have e1:behindM (19,N) [mean l ((k+1:Nat):Int),mean l ((behind l (k+1):Nat):Int)] (mean l ((k+1:Nat):Int) s.tick).2=pureM 1:=by unfold behindM;simp only;rw [if_neg (by decide),if_neg (by decide),if_neg (by decide),if_neg (by decide),if_pos trivial,if_pos hz]
    rw [e1]
    unfold doC
    simp only
    rw [if_neg (by decide),if_neg (by decide),if_pos trivial,if_pos hz]
    exact End.told (r:=(_,1))
   ·have e1:behindM (19,N) [mean l ((k+1:Nat):Int),mean l ((behind l (k+1):Nat):Int)] (mean l ((k+1:Nat):Int) s.tick).2=mean l ((behind l (k+1):Nat):Int):=by unfold behindM;simp only;rw [if_neg (by decide),if_neg (by decide),if_neg (by decide),if_neg (by decide),if_pos trivial,if_neg hz];rfl
    rw [e1]
    unfold doC
    simp only
    rw [if_neg (by decide),if_neg (by decide),if_pos trivial,if_neg hz]
    exact ih.at a2 o1 S
  ·obtain⟨a1,a2⟩:=k1 (len1 _ hq)
   have hvt:0≤vtyp vs N:=by omega
   obtain⟨v1,v2,-⟩:=vtyp_nat hvt
   rw [hm,node_on (by omega) ho h0,a2,List.map_cons,List.map_nil,inner_kid (by omega) (by omega) (by omega) (by omega) (by omega)]
   refine End.kid (j:=0) (by show owedN (t,N)=1;rw [ow1 (by omega),len1 _ hq]) rfl a1 ⟨by show 1≤t;omega,by show t≤26;omega⟩ hT.over (ih.at a1 hT) (fun hv=>by rw [bind_over hv]) fun hv=>?_
   obtain⟨o1,-⟩:=hT.kid hall a1 hv
   have hnv:(mean l ((k+1:Nat):Int) s.tick).1.vals.length=vs.length:=o1.wt.nv
   have hNN:N<(((mean l ((k+1:Nat):Int) s.tick).1.vals.length:Nat):Int):=by omega
   rw [bind_on hv]
   refine End.sem rfl rfl (by show t≠18;omega) (by show t≠19;omega) (by show t≠23;omega) (by show t≠24;omega) (safe0 _ _ rfl hv rfl rfl (by omega) (by omega) (by omega) (by omega) (by omega) (fun z=>⟨v1,hNN⟩) (fun z=>by omega)) ?_
   subst ht;rfl
  ·obtain⟨a1,a2,a3⟩:=k2 (len2 _ _ hq)
   have hvt:0≤vtyp vs N:=by unfold asz at hv;split at hv<;>omega
   obtain⟨v1,v2,-⟩:=vtyp_nat hvt
   rw [hm,node_on (by omega) ho h0,a3,List.map_cons,List.map_cons,List.map_nil,inner_kid (by omega) (by omega) (by omega) (by omega) (by omega)]
   refine End.kid (j:=1) (by show owedN (t,N)=2;rw [ow1 (by omega),len2 _ _ hq]) rfl a1 ⟨by show 1≤t;omega,by show t≤26;omega⟩ hT.over (ih.at a1 hT) (fun hv=>by rw [bind_over hv]) fun hv=>?_
   obtain⟨o1,-⟩:=hT.kid hall a1 hv
   rw [bind_on hv,behind_two (by omega) (by omega) (by omega) (by omega) (by omega) (by omega) (by omega) (by omega)]
   refine End.kid (j:=0) rfl rfl a2 ⟨by show 1≤t;omega,by show t≤26;omega⟩ hv (ih.at a2 o1) (fun hv=>by rw [bind_over hv]) fun hv2=>?_
   obtain⟨o2,-⟩:=o1.kid hall a2 hv2
   have hna:(mean l ((behind l (k+1):Nat):Int) (mean l ((k+1:Nat):Int) s.tick).1).1.arrs.length=vs.length:=o2.wt.na
   have hNN:N<(((mean l ((behind l (k+1):Nat):Int) (mean l ((k+1:Nat):Int) s.tick).1).1.arrs.length:Nat):Int):=by omega
   rw [bind_on hv2]
   refine End.sem rfl rfl (by show t≠18;omega) (by show t≠19;omega) (by show t≠23;omega) (by show t≠24;omega) (safe0 _ _ rfl hv2 rfl rfl (by omega) (by omega) (by omega) (by omega) (by omega) (fun z=>by omega) (fun z=>⟨v1,hNN⟩)) ?_
   subst ht;rfl
  ·obtain⟨a1,a2,a3,a4⟩:=k3 (len3 _ _ _ hq)
   rw [hm,node_on (by omega) ho h0,a4,List.map_cons,List.map_cons,List.map_cons,List.map_nil,inner_kid (by omega) (by omega) (by omega) (by omega) (by omega)]
   refine End.kid (j:=0) (by show owedN (t,N)=1;exact ow2 (by omega)) rfl a1 ⟨by show 1≤t;omega,by show t≤26;omega⟩ hT.over (ih.at a1 hT) (fun hv=>by rw [bind_over hv]) fun hv=>?_
   obtain⟨o1,-⟩:=hT.kid hall a1 hv
   rw [bind_on hv]
   refine End.step ⟨hv,by show 1≤t;omega,by show t≤26;omega,fun _=>⟨fun z=>(by cases z),fun _ _=>a2,fun _ z=>a3,fun _ z=>by have z:t=3∨t=21:=z;omega,fun _ z=>by have z:t=4∨t=22:=z;omega⟩,fun z=>absurd rfl z⟩ ?_
   rw [step_do rfl]
   subst ht
   unfold doC
   simp only
   rw [if_neg (by decide),if_neg (by decide),if_neg (by decide),if_pos trivial]
   by_cases hz:(mean l ((k+1:Nat):Int) s.tick).2=1
   ·have e1:behindM (23,N) [mean l ((k+1:Nat):Int),mean l ((behind l (k+1):Nat):Int),mean l ((behind l (behind l (k+1)):Nat):Int)] (mean l ((k+1:Nat):Int) s.tick).2=mean l ((behind l (k+1):Nat):Int):=by unfold behindM;simp only;rw [if_neg (by decide),if_neg (by decide),if_neg (by decide),if_neg (by decide),if_neg (by decide),if_neg (by decide),if_pos trivial,if_pos hz];rfl
    rw [e1,if_pos hz]
    exact ih.at a2 o1 S
   ·have e1:behindM (23,N) [mean l ((k+1:Nat):Int),mean l ((behind l (k+1):Nat):Int),mean l ((behind l (behind l (k+1)):Nat):Int)] (mean l ((k+1:Nat):Int) s.tick).2=mean l ((behind l (behind l (k+1)):Nat):Int):=by unfold behindM;simp only;rw [if_neg (by decide),if_neg (by decide),if_neg (by decide),if_neg (by decide),if_neg (by decide),if_neg (by decide),if_pos trivial,if_neg hz];rfl
    rw [e1,if_neg hz]
    exact ih.at a3 o1 S
  ·obtain⟨a1,a2,a3⟩:=k2 (len2 _ _ hq)
   have hq1:okind vs l ((k+1:Nat):Int)=1:=by
    rw [a3] at hq
    have e:=(List.cons.inj hq).1
    rw [e];exact hk1
   have hmk:mean l k=whileM (mean l ((k+1:Nat):Int)) (mean l ((behind l (k+1):Nat):Int)):=by
    rw [hm,a3]
    unfold nodeM
    rw [if_pos ht];rfl
   have hmw:mean l k s=bindM (mean l ((k+1:Nat):Int)) (fun a=>if a=1 then bindM (mean l ((behind l (k+1):Nat):Int)) (fun _=>mean l k) else pureM 0) s.tick:=by
    rw [hmk,while_is (nice_mean _ _) (nice_mean _ _),enter_on ho h0]
   rw [hmw]
   refine End.kid (j:=0) (by show owedN (t,N)=1;exact ow2 (by omega)) rfl a1 ⟨by show 1≤t;omega,by show t≤26;omega⟩ hT.over (ih.at a1 hT) (fun hv=>by rw [bind_over hv]) fun hv=>?_
   obtain⟨o1,hof⟩:=hT.kid hall a1 hv
   have hof:=hof hq1
   rw [bind_on hv]
   refine End.step ⟨hv,by show 1≤t;omega,by show t≤26;omega,fun _=>⟨fun z=>(by cases z),fun _ z=>by have z:t=18∨t=19∨t=23:=z;omega,fun _ z=>by have z:t=23:=z;omega,fun _ z=>by have z:t=3∨t=21:=z;omega,fun _ z=>by have z:t=4∨t=22:=z;omega⟩,fun z=>absurd rfl z⟩ ?_
   rw [step_do rfl]
   unfold doC
   simp only
   rw [if_neg (by decide),if_neg (by omega),if_neg (by omega),if_neg (by omega),if_pos ht]
   by_cases hz:(mean l ((k+1:Nat):Int) s.tick).2=0
   ·rw [if_pos hz,if_neg (by omega)]
    exact End.told (r:=(_,0))
   rw [if_neg hz,if_pos (by omega)]
   refine End.kid (j:=0) rfl rfl a2 ⟨by show 1≤t;omega,by show t≤26;omega⟩ hv (ih.at a2 o1) (fun hv=>by rw [bind_over hv]) fun hv2=>?_
   obtain⟨o2,-⟩:=o1.kid hall a2 hv2
   rw [bind_on hv2]
   refine End.step ⟨hv2,by show 1≤t;omega,by show t≤26;omega,fun _=>⟨fun _=>⟨n,h⟩,fun z=>(by cases z),fun z=>(by cases z),fun z=>(by cases z),fun z=>(by cases z)⟩,fun z=>absurd rfl z⟩ ?_
   rw [step_do rfl]
   unfold doC
   simp only
   rw [if_pos trivial]
   exact ih.at ⟨n,h⟩ o2 S
  ·obtain⟨a1,a2⟩:=k1 (len1 _ hq)
   rw [hm,node_on (by omega) ho h0,a2,List.map_cons,List.map_nil,inner_kid (by omega) (by omega) (by omega) (by omega) (by omega)]
   refine End.kid (j:=0) (by show owedN (t,N)=1;rw [ow1 (by omega),len1 _ hq]) rfl a1 ⟨by show 1≤t;omega,by show t≤26;omega⟩ hT.over (ih.at a1 hT) (fun hv=>by rw [bind_over hv]) fun hv=>?_
   obtain⟨o1,-⟩:=hT.kid hall a1 hv
   rw [bind_on hv]
   refine End.sem rfl rfl (by show t≠18;omega) (by show t≠19;omega) (by show t≠23;omega) (by show t≠24;omega) (safe0 _ _ rfl hv rfl rfl (by omega) (by omega) (by omega) (by omega) (by omega) (fun z=>by omega) (fun z=>by omega)) ?_
   subst ht;rfl
theorem run_comes{ps:Int}{args:List Int}{f:Int}(h:MRight ps vs l args.length f):∃ n c',Reach l n (enterC l 0 (begin_ vs args f.toNat,[])) c'∧c'.1=mrun vs l args f.toNat∧c'.1.over=true:=by
 have hn:IsNode l 0:=⟨_,by rw [List.drop_zero];exact h.whole⟩
 obtain⟨n,c',h1,h2,h3⟩:=(node_comes h.all (f.toNat+1)).at hn (s:=begin_ vs args f.toNat) ⟨by show f.toNat<f.toNat+1;omega,rfl,h.begin rfl _⟩ []
 by_cases ho:(mean l 0 (begin_ vs args f.toNat)).1.over=true
 ·refine⟨n,c',h1,?_,by rw [h2];exact ho⟩
  rw [h2]
  unfold mrun St.stop
  rw [if_pos ho];rfl
 ·have ho:(mean l 0 (begin_ vs args f.toNat)).1.over=false:=by simpa using ho
  have e:=h3 ho
  subst e
  refine⟨n+1,_,h1.trans ⟨⟨ho,trivial⟩,rfl⟩,rfl,?_⟩
  show(St.stop _ 3 0).over=true
  exact stop_over _ _ _
end
section
variable {l:List Nd}
structure Sized (F:Nat) (c:Cfg):Prop where
 few:c.1.ev.length+c.2.length≤c.1.steps
 sum:c.1.steps+c.1.fuel=F
theorem sized_stop{F:Nat}{s:St}{S:List Fr}(h:Sized F (s,S))(k v:Int):Sized F (s.stop k v,S):=by
 obtain⟨h1,h2,h3⟩:=stop_steps s k v
 refine⟨?_,?_⟩
 ·have:=h.few;show(s.stop k v).ev.length+S.length≤(s.stop k v).steps;rw [h1,h2];exact this
 ·have:=h.sum;show(s.stop k v).steps+(s.stop k v).fuel=F;rw [h1,h3];exact this
theorem tellS_len(v:Int):∀ S:List Fr,(tellS v S).length=S.length
 | []=>rfl
 | f::S=>rfl
theorem sized_tell{F:Nat}{c:Cfg}(h:Sized F c)(v:Int):Sized F (tellC v c):=⟨by have:=h.few;show c.1.ev.length+(tellS v c.2).length≤_;rw [tellS_len];exact this,h.sum⟩
theorem sized_enter{F:Nat}{c:Cfg}(h:Sized F c)(k:Nat):Sized F (enterC l k c):=by
 unfold enterC
 split
 ·exact sized_stop h 4 0
 ·refine⟨?_,?_⟩
  ·have:=h.few;show c.1.ev.length+(c.2.length+1)≤c.1.steps+1;omega
  ·have:=h.sum;show c.1.steps+1+(c.1.fuel-1)=F;omega
def Slight(s:St)(m:Sem):Prop:=(m s).1.ev.length≤s.ev.length+1∧(m s).1.steps=s.steps∧(m s).1.fuel=s.fuel
theorem slight_stop(s:St)(k v:Int):(s.stop k v).ev.length≤s.ev.length+1∧(s.stop k v).steps=s.steps∧(s.stop k v).fuel=s.fuel:=by
 obtain⟨h1,h2,h3⟩:=stop_steps s k v
 rw [h1,h2,h3];exact⟨by omega,rfl,rfl⟩
theorem slight_pure(s:St)(v:Int):Slight s (pureM v):=⟨Nat.le_succ _,rfl,rfl⟩
theorem slight_stopM(s:St)(k v:Int):Slight s (stopM k v):=slight_stop s k v
theorem slight_getV(s:St)(i:Int):Slight s (getV i):=⟨Nat.le_succ _,rfl,rfl⟩
theorem slight_getA(s:St)(i a:Int):Slight s (getA i a):=by
 unfold Slight getA
 by_cases q:a<0∨((arr s i).length:Int)≤a
 ·rw [if_pos q];exact slight_stop s 2 0
 ·rw [if_neg q];exact⟨Nat.le_succ _,rfl,rfl⟩
theorem slight_setA(s:St)(i a b:Int):Slight s (setA i a b):=by
 unfold Slight setA
 by_cases q:a<0∨((arr s i).length:Int)≤a
 ·rw [if_pos q];exact slight_stop s 2 0
 ·rw [if_neg q];exact⟨by simp,rfl,rfl⟩
theorem slight_setV(s:St)(i a:Int):Slight s (setV i a):=⟨by unfold setV;simp,rfl,rfl⟩
theorem slight_if{s:St}{c:Prop} [Decidable c]{m n:Sem}(h1:Slight s m)(h2:Slight s n):Slight s (if c then m else n):=by
 by_cases q:c
 ·rw [if_pos q];exact h1
 ·rw [if_neg q];exact h2
theorem slight_do(s:St)(x:Nd)(a b:Int):Slight s (doM x a b):=by
 unfold doM bin
 repeat' apply slight_if
 all_goals first
  | exact slight_pure _ _
  | exact slight_stopM _ _ _
  | exact slight_getV _ _
  | exact slight_getA _ _ _
  | exact slight_setV _ _ _
  | exact slight_setA _ _ _ _
theorem sized_sem{F:Nat}{s:St}{S:List Fr}(x:Nd)(a b:Int)(h:s.ev.length+S.length+1≤s.steps)(hF:s.steps+s.fuel=F):Sized F (semC (doM x a b) (s,S)):=by
 obtain⟨k1,k2,k3⟩:=slight_do s x a b
 unfold semC
 simp only
 split
 ·exact⟨by show(doM x a b s).1.ev.length+S.length≤(doM x a b s).1.steps;rw [k2];omega,by show(doM x a b s).1.steps+(doM x a b s).1.fuel=F;rw [k2,k3];exact hF⟩
 ·exact sized_tell (c:=((doM x a b s).1,S)) ⟨by show(doM x a b s).1.ev.length+S.length≤(doM x a b s).1.steps;rw [k2];omega,by show(doM x a b s).1.steps+(doM x a b s).1.fuel=F;rw [k2,k3];exact hF⟩ _
theorem sized_step{F:Nat}{c:Cfg}(h:Sized F c):Sized F (stepC l c):=by
 obtain⟨s,S⟩:=c
 cases S with
 | nil=>exact sized_stop h 3 0
 | cons f S =>
  have h1:s.ev.length+(S.length+1)≤s.steps:=h.few
  have h2:s.steps+s.fuel=F:=h.sum
  have h0:Sized F (s,S):=⟨by show s.ev.length+S.length≤s.steps;omega,h2⟩
  unfold stepC
  simp only
  split
  ·unfold doC
   repeat' split
   all_goals first
    | exact sized_enter h0 _
    | exact sized_tell h0 _
    | exact sized_sem _ _ _ (by omega) h2
    | exact⟨by show s.ev.length+(S.length+1)≤s.steps;omega,h2⟩
  ·exact sized_enter (c:=(s,_::S)) ⟨by show s.ev.length+(S.length+1)≤s.steps;omega,h2⟩ _
end
end Go.Proofs.YtekogckmgkodfaaGreatDoor.Mach
namespace Go.Proofs.YtekogckmgkodfaaGreatDoor.Mach
open Go.RowKit Mem Arena Kinds
attribute [local go_sem ↓] Go.wp_at_zero Go.wp_at_succ
theorem stop_any(k:Int)(w:World):Calls Tryz.prog 30 #[.int .i64 k] w fun e w'=>e=.returned (.agg #[.int .i64 k,.int .i64 0])∧Below w.heap.size w w':=by
 have b0:=Blk.new w 29 #[.int .i64 0,.int .i64 0]
 go_enter Tryz.func30,Tryz.ntmps30
 go_wp2
 refine bodyPost_ret (v:=.agg #[.int .i64 k,.int .i64 0]) (by simp [results,Tryz.results30,go_sem]) rfl ?_
 exact⟨rfl,(Below.refl _ _).alloc (Nat.le_refl _) _⟩
theorem result_any(k:Int)(w:World):Calls Tryz.prog 97 #[.int .i64 k] w fun e w'=>e=.returned (.agg #[.int .i64 0,.int .i64 k])∧Below w.heap.size w w':=by
 have b0:=Blk.new w 29 #[.int .i64 0,.int .i64 0]
 go_enter Tryz.func97,Tryz.ntmps97
 go_wp2
 refine bodyPost_ret (v:=.agg #[.int .i64 0,.int .i64 k]) (by simp [results,Tryz.results97,go_sem]) rfl ?_
 exact⟨rfl,(Below.refl _ _).alloc (Nat.le_refl _) _⟩
theorem outside_any(A:Option Addr)(n c:Nat)(i:Int)(w:World):Calls Tryz.prog 90 #[.slice A n c,.int .i64 i] w fun e w'=>e=.returned (.bool (decide (i<0∨(n:Int)≤i)))∧w'=w:=by
 by_cases h1:i<0
 ·have d1:decide (i<0)=true:=decide_eq_true h1
  have hE:=Lib.hid (show decide (i<0∨(n:Int)≤i)=true from decide_eq_true (.inl h1))
  clear h1
  exact zMachPG4
 have d1:decide (i<0)=false:=decide_eq_false h1
 by_cases h2:(n:Int)≤i
 ·have d2:decide ((n:Int)≤i)=true:=decide_eq_true h2
  have hE:=Lib.hid (show decide (i<0∨(n:Int)≤i)=true from decide_eq_true (.inr h2))
  clear h1 h2
  exact zMachPG4
 ·have d2:decide ((n:Int)≤i)=false:=decide_eq_false h2
  have hE:=Lib.hid (show decide (i<0∨(n:Int)≤i)=false from decide_eq_false (by omega))
  clear h1 h2
  exact zMachPG4
theorem owed_is{t n:Int}(h0:0≤ar (t,n)):((owedN (t,n):Nat):Int)=if t=18∨t=19∨t=23∨t=24 then 1 else ar (t,n):=by
 unfold owedN
 simp only
 split
 ·rfl
 ·omega
theorem owed_any(t n:Int)(h0:0≤ar (t,n))(w:World):Calls Tryz.prog 76 #[.agg #[.int .i64 t,.int .i64 n]] w fun e w'=>e=.returned (.int .i64 (owedN (t,n):Nat))∧Below w.heap.size w w':=by
 have hB:Below w.heap.size w (w.alloc (.cells #[.int .i64 t,.int .i64 n] 105)):=(Below.refl _ _).alloc (Nat.le_refl _) _
 obtain⟨b0,b1⟩:=(Blk.new w 105 #[.int .i64 t,.int .i64 n]).two
 have HA:=Lib.hid (fun W=>Arity_any t n W)
 have HE:=Lib.hid (owed_is h0)
 clear h0
 by_cases ht:t=18∨t=19∨t=23∨t=24
 ·have HE':=Lib.hid (HE.out.trans (if_pos ht))
  clear HE
  rcases ht with rfl | rfl | rfl | rfl
  all_goals
   go_enter Tryz.func76,Tryz.ntmps76
   go_wp2
   go_ret
   exact⟨by rw [HE'.out];rfl,hB⟩
 ·have HE':=Lib.hid (HE.out.trans (if_neg ht))
  clear HE
  have e1:(t==18)=false:=by simp;omega
  have e2:(t==19)=false:=by simp;omega
  have e3:(t==23)=false:=by simp;omega
  have e4:(t==24)=false:=by simp;omega
  clear ht
  go_enter Tryz.func76,Tryz.ntmps76
  go_wp2_with (go_at_call 49;refine(HA.out _).mono ?_;rintro e w1 ⟨rfl,hb1⟩)
  go_ret
  exact⟨by rw [HE'.out];rfl,hB.trans (hb1.mono hB.size)⟩
def Two(f:FuncId)(F:Int→Int→Int):Prop:=∀ (x y:Int) (w:World),Calls Tryz.prog f #[.int .i64 x,.int .i64 y] w fun e w'=>e=.returned (.int .i64 (F x y))∧w'=w
def TwoB(f:FuncId)(F:Int→Int→Bool):Prop:=∀ (x y:Int) (w:World),Calls Tryz.prog f #[.int .i64 x,.int .i64 y] w fun e w'=>e=.returned (.bool (F x y))∧w'=w
theorem two_neg:Two 54 (fun _ y=>IntKind.i64.wrap (0-y)):=by
 intro x y w
 go_enter Tryz.func54,Tryz.ntmps54
 go_wp2
 go_ret
 refine⟨?_,rfl⟩
 first
  | rfl
  | (rw [IntWalk.i64_left];rfl)
  | (rw [IntWalk.i64_left,Int.zero_sub];rfl)
  | (rw [Int.zero_sub])
theorem two_not:Two 55 (fun _ y=>IntKind.i64.wrap (1-y)):=by
 intro x y w
 go_enter Tryz.func55,Tryz.ntmps55
 exact zMachPG0
theorem two_add:Two 56 (fun x y=>IntKind.i64.wrap (x+y)):=by
 intro x y w
 go_enter Tryz.func56,Tryz.ntmps56
 exact zMachPG0
theorem two_sub:Two 57 (fun x y=>IntKind.i64.wrap (x-y)):=by
 intro x y w
 go_enter Tryz.func57,Tryz.ntmps57
 exact zMachPG0
theorem two_mul:Two 58 (fun x y=>IntKind.i64.wrap (x*y)):=by
 intro x y w
 go_enter Tryz.func58,Tryz.ntmps58
 exact zMachPG0
def TwoN(f:FuncId)(F:Int→Int→Int):Prop:=∀ (x y:Int) (w:World),y≠0→Calls Tryz.prog f #[.int .i64 x,.int .i64 y] w fun e w'=>e=.returned (.int .i64 (F x y))∧w'=w
theorem two_div:TwoN 60 (fun x y=>IntKind.i64.wrap (x.tdiv y)):=by
 intro x y w h
 go_enter Tryz.func60,Tryz.ntmps60
 exact zMachPG0
theorem two_mod:TwoN 61 (fun x y=>x.tmod y):=by
 intro x y w h
 go_enter Tryz.func61,Tryz.ntmps61
 go_wp2
 go_ret
 exact⟨rfl,rfl⟩
theorem two_eq:TwoB 63 (fun x y=>x==y):=by
 intro x y w
 go_enter Tryz.func63,Tryz.ntmps63
 go_wp2
 go_ret
 exact⟨rfl,rfl⟩
theorem two_ne:TwoB 64 (fun x y=>x != y):=by
 intro x y w
 go_enter Tryz.func64,Tryz.ntmps64
 go_wp2
 go_ret
 exact⟨rfl,rfl⟩
theorem two_lt:TwoB 65 (fun x y=>decide (x<y)):=by
 intro x y w
 go_enter Tryz.func65,Tryz.ntmps65
 go_wp2
 go_ret
 exact⟨rfl,rfl⟩
theorem two_le:TwoB 66 (fun x y=>decide (x≤y)):=by
 intro x y w
 go_enter Tryz.func66,Tryz.ntmps66
 go_wp2
 go_ret
 exact⟨rfl,rfl⟩
theorem two_gt:TwoB 67 (fun x y=>decide (y<x)):=by
 intro x y w
 go_enter Tryz.func67,Tryz.ntmps67
 go_wp2
 go_ret
 exact⟨rfl,rfl⟩
theorem two_ge:TwoB 68 (fun x y=>decide (y≤x)):=by
 intro x y w
 go_enter Tryz.func68,Tryz.ntmps68
 go_wp2
 go_ret
 exact⟨rfl,rfl⟩
theorem compared_any{q:FuncId}{F:Int→Int→Bool}(hF:TwoB q F)(hq:∀ (x y:Int) (w:World),(callFunc q #[.int .i64 x,.int .i64 y]).run Tryz.prog w=.ok (.enter q #[.int .i64 x,.int .i64 y]) w)(b:Nat)(x y:Int)(w:World)(hb:w.cell? ⟨b,0,none⟩=some (.func (.func q) #[] #[])) :
  Calls Tryz.prog 93 #[.int .i64 x,.int .i64 y,.pointer (some ⟨b,0,none⟩)] w fun e w'=>e=.returned (.int .i64 (if F x y=true then 1 else 0))∧w'=w:=by
 have HC:=Lib.hid (hF x y w)
 have hq:=hq x y w
 clear hF
 cases hv:F x y
 all_goals
  rw [hv] at HC
  go_enter Tryz.func93,Tryz.ntmps93
  go_wp2_with (refine HC.out.mono ?_;rintro e w1 ⟨rfl,rfl⟩)
  go_ret
  exact⟨rfl,rfl⟩
end Go.Proofs.YtekogckmgkodfaaGreatDoor.Mach
namespace Go.Proofs.YtekogckmgkodfaaGreatDoor.Mach
open Go.RowKit Mem Arena Kinds Path Cat Suite
theorem own_putN{w:World}{base:Nat}{e:TypeId}{m:Nat}{v:Value}{n:Nat}{xs:List Value}{g:Nat}(h:w.ownsRow base e m v n xs)(hg:v.ownBlock=some g)(i:Nat)(x:Value):(w.setCell ⟨g,i,none⟩ x).ownsRow base e m v n (xs.set i x):=by
 refine⟨by rw [List.length_set];exact h.1,?_⟩
 rcases h.2 with⟨rfl,-⟩ | ⟨g',cap,cur,rfl,hb,hgg,hn,hm,hs,ht⟩
 ·cases hg
 ·obtain rfl:g'=g:=by
   unfold Value.ownBlock at hg
   exact Option.some.inj hg
  have hB:Blk w g' e cur:=hgg
  refine .inr ⟨g',cap,cur.setIfInBounds i x,rfl,hb,hB.set i x,hn,hm,by rw [Array.size_setIfInBounds];exact hs,?_⟩
  rw [Array.toList_setIfInBounds,List.take_set,ht]
theorem own_take{w:World}{base:Nat}{e:TypeId}{m b n cap:Nat}{xs:List Value}(h:w.ownsRow base e m (.slice (some ⟨b,0,none⟩) n cap) n xs){k:Nat}(hk:k≤n):w.ownsRow base e m (.slice (some ⟨b,0,none⟩) k cap) k (xs.take (k*m)):=by
 have hkm:k*m≤n*m:=Nat.mul_le_mul_right m hk
 refine⟨by rw [List.length_take,h.1];omega,?_⟩
 rcases h.2 with⟨q,-⟩ | ⟨g',cap',cur,q,hb,hgg,hn,hm,hs,ht⟩
 ·cases q
 ·cases q
  refine .inr ⟨b,cap,cur,rfl,hb,hgg,by omega,hm,hs,?_⟩
  rw [← ht,List.take_take]
  congr 1
  omega
structure PK where
 base:Nat
 g:Nat
 p:Prg
 F:Nat
 eb:Nat
 ec:Nat
 mb:Nat
 vv:Value
 av:Value
 actv:Int→Value
 cst:Nat→Prop
 W0:World
def againV:Value:=.func (.func 96) #[] #[]
def doesV(actv:Int→Value)(f:Fr):Value:=if f.ag=true then againV else actv f.x.1
def fcell(actv:Int→Value)(f:Fr):List Value:=[.int .i64 f.x.1,.int .i64 f.x.2,.int .i64 f.pos,.int .i64 f.next,.int .i64 f.owed,.int .i64 f.fst,.int .i64 f.lst,doesV actv f]
def fcells(actv:Int→Value):List Fr→List Value
 | []=>[]
 | f::S=>fcells actv S++fcell actv f
theorem fcells_len(actv:Int→Value):∀ S:List Fr,(fcells actv S).length=S.length*8
 | []=>rfl
 | f::S=>by rw [fcells,List.length_append,fcells_len actv S,List.length_cons,show(fcell actv f).length=8 from rfl];omega
theorem fcells_take(actv:Int→Value)(f:Fr)(S:List Fr):(fcells actv (f::S)).take (S.length*8)=fcells actv S:=by
 rw [fcells,List.take_append_of_le_length (by rw [fcells_len];exact Nat.le_refl _),List.take_of_length_le (by rw [fcells_len];exact Nat.le_refl _)]
theorem fcells_get(actv:Int→Value)(f:Fr)(S:List Fr)(j:Nat):(fcells actv (f::S))[S.length*8+j]? = (fcell actv f)[j]? := by
 rw [fcells,List.getElem?_append_right (by rw [fcells_len];omega),fcells_len]
 congr 1;omega
theorem fcells_set(actv:Int→Value)(f:Fr)(S:List Fr)(j:Nat)(x:Value):(fcells actv (f::S)).set (S.length*8+j) x=fcells actv S++(fcell actv f).set j x:=by
 rw [fcells,List.set_append_right _ _ (by rw [fcells_len];omega),fcells_len]
 congr 2;omega
def itselfA(v:Value):Option (DataW Value×List MemPlace):=some (.held v,[])
def tableA(u:Int→Value):DataW Value:=(((((((((((((((((((((((((((DataW.map []:DataW Value).put (.int .i64 1) (.held (u 1))).put (.int .i64 2) (.held (u 2))).put (.int .i64 3) (.held (u 3))).put (.int .i64 4) (.held (u 4))).put (.int .i64 5) (.held (u 5))).put (.int .i64 6) (.held (u 6))).put (.int .i64 7) (.held (u 7))).put (.int .i64 8) (.held (u 8))).put (.int .i64 9) (.held (u 9))).put (.int .i64 10) (.held (u 10))).put (.int .i64 11) (.held (u 11))).put (.int .i64 12) (.held (u 12))).put (.int .i64 13) (.held (u 13))).put (.int .i64 14) (.held (u 14))).put (.int .i64 15) (.held (u 15))).put (.int .i64 16) (.held (u 16))).put (.int .i64 17) (.held (u 17))).put (.int .i64 18) (.held (u 18))).put (.int .i64 19) (.held (u 19))).put (.int .i64 20) (.held (u 20))).put (.int .i64 26) (.held (u 26))).put (.int .i64 21) (.held (u 21))).put (.int .i64 22) (.held (u 22))).put (.int .i64 23) (.held (u 23))).put (.int .i64 24) (.held (u 24))).put (.int .i64 25) (.held (u 25)))
def BoxIn(W:World)(C:Nat→Prop)(b:Nat)(t:TypeId)(v:Value):Prop:=Blk W b t #[v]∧C b
def boxP(b:Nat):Value:=.pointer (some ⟨b,0,none⟩)
def ActV(W:World)(C:Nat→Prop)(t:Int)(v:Value):Prop :=
 ((t=1∨t=2)∧v=.func (.func 50) #[] #[])∨(t=3∧v=.func (.func 51) #[] #[])∨(t=4∧v=.func (.func 52) #[] #[]) ∨
 ((t=20∨t=26)∧v=.func (.func 70) #[] #[])∨(t=21∧v=.func (.func 71) #[] #[])∨(t=22∧v=.func (.func 72) #[] #[])∨(t=23∧v=.func (.func 73) #[] #[]) ∨
 (t=24∧v=.func (.func 74) #[] #[])∨(t=25∧v=.func (.func 75) #[] #[]) ∨
 ((t=18∨t=19)∧∃ b,v=.func (.func 94) #[] #[boxP b]∧BoxIn W C b 3 (.int .i64 (t-18))) ∨
 (∃ b q,(t,q)∈[((5:Int),54),(6,55),(7,56),(8,57),(9,58)]∧v=.func (.func 91) #[] #[boxP b]∧BoxIn W C b 111 (.func (.func q) #[] #[])) ∨
 (∃ b c q,(t,q)∈[((10:Int),60),(11,61)]∧v=.func (.func 92) #[] #[boxP c]∧BoxIn W C c 109 (.func (.func 91) #[] #[boxP b])∧BoxIn W C b 111 (.func (.func q) #[] #[])) ∨
 (∃ b c q,(t,q)∈[((12:Int),63),(13,64),(14,65),(15,66),(16,67),(17,68)]∧v=.func (.func 91) #[] #[boxP c]∧BoxIn W C c 111 (.func (.func 93) #[] #[boxP b])∧BoxIn W C b 113 (.func (.func q) #[] #[]))
structure Cn (K:PK) (W:World):Prop where
 body:Nodes W K.base K.p.B K.p.xs
 ce:K.p.xs.length≤K.p.e
 lx:K.p.xs.length≤1000000
 size:K.base≤W.heap.size
 lec:K.p.xs.length≤K.ec
 ends:∀ i,IsNode K.p.xs i→W.cell? ⟨K.eb,i,none⟩=some (.int .i64 (behind K.p.xs i))
 map:W.ownsMap Tryz.prog 3 itselfA K.mb 26 (tableA K.actv)
 acts:∀ t:Int,1≤t→t≤26→ActV K.W0 K.cst t (K.actv t)
 same:∀ k,K.cst k→W.heap[k]? = K.W0.heap[k]?
 ceb:K.cst K.eb
 cmb:K.cst K.mb
theorem Cn.keep{K:PK}{W W':World}(h:Cn K W)(hs:W.heap.size≤W'.heap.size)(hk:∀ k,k<K.base∨K.cst k→W'.heap[k]? = W.heap[k]?):Cn K W' where
 body:=h.body.keep fun k q=>hk k (.inl q)
 ce:=h.ce
 lx:=h.lx
 size:=Nat.le_trans h.size hs
 lec:=h.lec
 ends:=fun i hi=>by
  rw [← h.ends i hi]
  exact World.cell?_of_block (hk K.eb (.inr h.ceb))
 map:=by
  obtain⟨es,clock,h1,h2⟩:=h.map
  exact⟨es,clock,(hk _ (.inr h.cmb)).trans h1,h2⟩
 acts:=h.acts
 same:=fun k q=>(hk k (.inr q)).trans (h.same k q)
 ceb:=h.ceb
 cmb:=h.cmb
theorem Cn.box{K:PK}{W:World}(h:Cn K W){b:Nat}{t:TypeId}{v:Value}(hb:BoxIn K.W0 K.cst b t v):BoxIn W K.cst b t v:=⟨(h.same b hb.2).trans hb.1,hb.2⟩
structure PLab (κ:Nat→Nat) (K:PK) (evv sv:Value) (Y:List ((Option Addr×Nat)×List Int)) (top:Nat):Prop where
 g:κ K.g=1
 v:∀ k,K.vv.ownBlock=some k→κ k=2
 a:∀ k,K.av.ownBlock=some k→κ k=3
 e:∀ k,evv.ownBlock=some k→κ k=4
 s:∀ k,sv.ownBlock=some k→κ k=5
 c:∀ k,K.cst k→κ k=6
 y:∀ (i:Nat) (y:(Option Addr×Nat)×List Int) (k:Nat),Y[i]? = some y→(Value.slice y.1.1 y.2.length y.1.2).ownBlock=some k→κ k=7+i
 lt:∀ k,κ k≠0→K.base≤k∧k<top
def pcells(K:PK)(evv sv:Value)(n:Nat):Array Value :=
 #[.int .i64 0,.int .i64 0,.int .i64 n,evv,.slice K.p.B K.p.xs.length K.p.e,.slice (some ⟨K.eb,0,none⟩) K.p.xs.length K.ec,.int .i64 K.F,K.vv,K.av,.map (some K.mb),sv]
structure PM (K:PK) (κ:Nat→Nat) (evv sv:Value) (Y:List ((Option Addr×Nat)×List Int)) (s:St) (S:List Fr) (W:World):Prop where
 lab:PLab κ K evv sv Y W.heap.size
 cn:Cn K W
 blk:Blk W K.g 47 (pcells K evv sv s.steps)
 vr:W.ownsRow K.base 3 1 K.vv s.vals.length (icells s.vals)
 ar:W.ownsRow K.base 22 1 K.av s.arrs.length (tcells Y)
 hY:Y.map (·.2)=s.arrs
 yr:∀ (i:Nat) (y:(Option Addr×Nat)×List Int),Y[i]? = some y→W.ownsRow K.base 3 1 (.slice y.1.1 y.2.length y.1.2) y.2.length (icells y.2)
 er:W.ownsRow K.base 95 3 evv s.ev.length (ecells s.ev)
 sr:W.ownsRow K.base 116 8 sv S.length (fcells K.actv S)
section
variable {K:PK} {κ:Nat→Nat} {evv sv:Value} {Y:List ((Option Addr×Nat)×List Int)} {s:St} {S:List Fr} {W W':World}
theorem PLab.nc(h:PLab κ K evv sv Y W.heap.size){k:Nat}(q:k<K.base∨K.cst k):κ k=0∨κ k=6:=by
 rcases q with q | q
 ·left
  by_cases z:κ k=0
  ·exact z
  ·have:=(h.lt k z).1;omega
 ·exact .inr (h.c k q)
theorem PM.move(h:PM K κ evv sv Y s S W)(hs:W.heap.size≤W'.heap.size)(hb:∀ k,k<W.heap.size→κ k≠0∨k<K.base→W'.heap[k]? = W.heap[k]?):PM K κ evv sv Y s S W' where
 lab:={ h.lab with lt:=fun k q=>⟨(h.lab.lt k q).1,Nat.lt_of_lt_of_le (h.lab.lt k q).2 hs⟩ }
 cn:=h.cn.keep hs fun k q=>by
  rcases q with q | q
  ·exact hb k (Nat.lt_of_lt_of_le q h.cn.size) (.inr q)
  ·have:=h.lab.c k q
   exact hb k (h.lab.lt k (by omega)).2 (.inl (by omega))
 blk:=(hb K.g (h.lab.lt K.g (by rw [h.lab.g];decide)).2 (.inl (by rw [h.lab.g];decide))).trans h.blk
 vr:=own_of_block h.vr fun k e=>by have:=h.lab.v k e;exact hb k (h.lab.lt k (by omega)).2 (.inl (by omega))
 ar:=own_of_block h.ar fun k e=>by have:=h.lab.a k e;exact hb k (h.lab.lt k (by omega)).2 (.inl (by omega))
 hY:=h.hY
 yr:=fun i y q=>own_of_block (h.yr i y q) fun k e=>by have:=h.lab.y i y k q e;exact hb k (h.lab.lt k (by omega)).2 (.inl (by omega))
 er:=own_of_block h.er fun k e=>by have:=h.lab.e k e;exact hb k (h.lab.lt k (by omega)).2 (.inl (by omega))
 sr:=own_of_block h.sr fun k e=>by have:=h.lab.s k e;exact hb k (h.lab.lt k (by omega)).2 (.inl (by omega))
theorem PM.below(h:PM K κ evv sv Y s S W)(hb:Below W.heap.size W W'):PM K κ evv sv Y s S W':=h.move hb.size fun k q _=>hb.block k q
theorem PM.drew(h:PM K κ evv sv Y s S W):PM K κ evv sv Y s S W.drew:=h.move (Nat.le_refl _) fun _ _ _=>rfl
theorem PM.glt(h:PM K κ evv sv Y s S W):K.base≤K.g∧K.g<W.heap.size:=h.lab.lt K.g (by rw [h.lab.g];decide)
theorem PM.cell(h:PM K κ evv sv Y s S W)(i:Nat):W.cell? ⟨K.g,i,none⟩=(pcells K evv sv s.steps)[i]? := h.blk.cell i
theorem PM.same{s':St}(h:PM K κ evv sv Y s S W)(h1:s'.vals=s.vals)(h2:s'.arrs=s.arrs)(h3:s'.ev=s.ev)(h4:s'.steps=s.steps):PM K κ evv sv Y s' S W :=
 ⟨h.lab,h.cn,by rw [h4];exact h.blk,by rw [h1];exact h.vr,by rw [h2];exact h.ar,by rw [h2];exact h.hY,h.yr,by rw [h3];exact h.er,h.sr⟩
theorem PM.stop(h:PM K κ evv sv Y s S W)(k v:Int):PM K κ evv sv Y (s.stop k v) S W:=by
 unfold St.stop
 split
 ·exact h
 ·exact h.same rfl rfl rfl rfl
theorem PM.set_g(h:PM K κ evv sv Y s S W)(i:Nat)(x:Value){s':St}{sv':Value}{S':List Fr}(hC:(pcells K evv sv s.steps).setIfInBounds i x=pcells K evv sv' s'.steps)(h1:s'.vals=s.vals)(h2:s'.arrs=s.arrs)(h3:s'.ev=s.ev)
  (hsv:sv'.ownBlock=sv.ownBlock) (hsr:W.ownsRow K.base 116 8 sv' S'.length (fcells K.actv S')):PM K κ evv sv' Y s' S' (W.setCell ⟨K.g,i,none⟩ x):=by
 have hb:∀ k,κ k≠1→(W.setCell ⟨K.g,i,none⟩ x).heap[k]? = W.heap[k]? := fun k q=>Below.heap_setCell _ _ _ _ fun z=>q (by
  obtain rfl:k=K.g:=by first | exact z | exact z.symm
  exact h.lab.g)
 have B:=h.blk.set i x
 rw [hC] at B
 have hsz:W.heap.size≤(W.setCell ⟨K.g,i,none⟩ x).heap.size:=by simp
 exact {
  lab:={ h.lab with
   s:=fun k q=>h.lab.s k (hsv▸q)
   lt:=fun k q=>⟨(h.lab.lt k q).1,Nat.lt_of_lt_of_le (h.lab.lt k q).2 hsz⟩ }
  cn:=h.cn.keep hsz fun k q=>hb k (by have:=h.lab.nc q;omega)
  blk:=B
  vr:=by rw [h1];exact own_of_block h.vr fun k e=>hb k (by rw [h.lab.v k e];decide)
  ar:=by rw [h2];exact own_of_block h.ar fun k e=>hb k (by rw [h.lab.a k e];decide)
  hY:=by rw [h2];exact h.hY
  yr:=fun i y q=>own_of_block (h.yr i y q) fun k e=>hb k (by rw [h.lab.y i y k q e];omega)
  er:=by rw [h3];exact own_of_block h.er fun k e=>hb k (by rw [h.lab.e k e];decide)
  sr:=own_of_block hsr fun k e=>hb k (by rw [h.lab.s k (hsv▸e)];decide) }
theorem PM.tick(h:PM K κ evv sv Y s S W):PM K κ evv sv Y s.tick S (W.setCell ⟨K.g,2,none⟩ (.int .i64 ((s.steps:Int)+1))) :=
 h.set_g 2 _ rfl rfl rfl rfl rfl h.sr
theorem PM.pop{f:Fr}{b cap:Nat}(h:PM K κ evv (.slice (some ⟨b,0,none⟩) (S.length+1) cap) Y s (f::S) W):PM K κ evv (.slice (some ⟨b,0,none⟩) S.length cap) Y s S (W.setCell ⟨K.g,10,none⟩ (.slice (some ⟨b,0,none⟩) S.length cap)) :=
 h.set_g 10 _ rfl rfl rfl rfl rfl (by
  have:=own_take h.sr (k:=S.length) (by simp)
  rw [fcells_take] at this
  exact this)
theorem PM.set_v(h:PM K κ evv sv Y s S W){b i:Nat}(hv:K.vv.ownBlock=some b)(hi:i<s.vals.length)(x:Int):PM K κ evv sv Y { s with vals:=s.vals.set i x } S (W.setCell ⟨b,i,none⟩ (.int .i64 x)):=by
 have hb:∀ k,κ k≠2→(W.setCell ⟨b,i,none⟩ (.int .i64 x)).heap[k]? = W.heap[k]? := fun k q=>Below.heap_setCell _ _ _ _ fun z=>q (by
  obtain rfl:k=b:=by first | exact z | exact z.symm
  exact h.lab.v _ hv)
 have hsz:W.heap.size≤(W.setCell ⟨b,i,none⟩ (.int .i64 x)).heap.size:=by simp
 have V:=own_put (x:=.int .i64 x) h.vr hv (by rw [icells_length];exact hi)
 rw [icells_set] at V
 exact {
  lab:={ h.lab with lt:=fun k q=>⟨(h.lab.lt k q).1,Nat.lt_of_lt_of_le (h.lab.lt k q).2 hsz⟩ }
  cn:=h.cn.keep hsz fun k q=>hb k (by have:=h.lab.nc q;omega)
  blk:=(hb K.g (by rw [h.lab.g];decide)).trans h.blk
  vr:=by show World.ownsRow _ _ _ _ _ (s.vals.set i x).length _;rw [List.length_set];exact V
  ar:=own_of_block h.ar fun k e=>hb k (by rw [h.lab.a k e];decide)
  hY:=h.hY
  yr:=fun i y q=>own_of_block (h.yr i y q) fun k e=>hb k (by rw [h.lab.y i y k q e];omega)
  er:=own_of_block h.er fun k e=>hb k (by rw [h.lab.e k e];decide)
  sr:=own_of_block h.sr fun k e=>hb k (by rw [h.lab.s k e];decide) }
theorem PM.set_a(h:PM K κ evv sv Y s S W){b i j:Nat}{y:(Option Addr×Nat)×List Int}(hy:Y[i]? = some y)(hv:(Value.slice y.1.1 y.2.length y.1.2).ownBlock=some b)(hj:j<y.2.length)(x:Int):PM K κ evv sv (Y.set i (y.1,y.2.set j x)) { s with arrs:=s.arrs.set i (y.2.set j x) } S (W.setCell ⟨b,j,none⟩ (.int .i64 x)):=by
 have hb:∀ k,κ k≠7+i→(W.setCell ⟨b,j,none⟩ (.int .i64 x)).heap[k]? = W.heap[k]? := fun k q=>Below.heap_setCell _ _ _ _ fun z=>q (by
  obtain rfl:k=b:=by first | exact z | exact z.symm
  exact h.lab.y i y _ hy hv)
 have hsz:W.heap.size≤(W.setCell ⟨b,j,none⟩ (.int .i64 x)).heap.size:=by simp
 have V:=own_put (x:=.int .i64 x) (h.yr i y hy) hv (by rw [icells_length];exact hj)
 rw [icells_set] at V
 have hi:i<Y.length:=(List.getElem?_eq_some_iff.1 hy).1
 have ht:tcells (Y.set i (y.1,y.2.set j x))=tcells Y:=by
  unfold tcells
  rw [List.map_set]
  apply List.ext_getElem?
  intro m
  rw [List.getElem?_set]
  split
  ·next q=>subst q;rw [if_pos (by rw [List.length_map];exact hi),List.getElem?_map,hy];simp
  ·rfl
 have hat:∀ m z,(Y.set i (y.1,y.2.set j x))[m]? = some z→(m=i∧z=(y.1,y.2.set j x))∨(m≠i∧Y[m]? = some z):=fun m z q=>by
  rw [List.getElem?_set] at q
  split at q
  ·next q1=>exact .inl ⟨q1.symm,(Option.some.inj q).symm⟩
  ·next q1=>exact .inr ⟨fun e=>q1 e.symm,q⟩
 exact {
  lab:={ h.lab with
   y:=fun m z k q e=>by
    rcases hat m z q with⟨rfl,rfl⟩ | ⟨-,q⟩
    ·exact h.lab.y m y k hy (by rw [← e];cases y.1.1<;>rfl)
    ·exact h.lab.y m z k q e
   lt:=fun k q=>⟨(h.lab.lt k q).1,Nat.lt_of_lt_of_le (h.lab.lt k q).2 hsz⟩ }
  cn:=h.cn.keep hsz fun k q=>hb k (by have:=h.lab.nc q;omega)
  blk:=(hb K.g (by rw [h.lab.g];omega)).trans h.blk
  vr:=own_of_block h.vr fun k e=>hb k (by rw [h.lab.v k e];omega)
  ar:=by
   rw [ht]
   show World.ownsRow _ _ _ _ _ (s.arrs.set i _).length _
   rw [List.length_set]
   exact own_of_block h.ar fun k e=>hb k (by rw [h.lab.a k e];omega)
  hY:=by rw [List.map_set,h.hY]
  yr:=fun m z q=>by
   rcases hat m z q with⟨rfl,rfl⟩ | ⟨hne,q⟩
   ·show World.ownsRow _ _ _ _ (.slice y.1.1 (y.2.set j x).length y.1.2) (y.2.set j x).length _
    rw [List.length_set];exact V
   ·exact own_of_block (h.yr m z q) fun k e=>hb k (by rw [h.lab.y m z k q e];omega)
  er:=own_of_block h.er fun k e=>hb k (by rw [h.lab.e k e];omega)
  sr:=own_of_block h.sr fun k e=>hb k (by rw [h.lab.s k e];omega) }
theorem PM.set_s(h:PM K κ evv sv Y s S W){b:Nat}(hv:sv.ownBlock=some b)(i:Nat)(x:Value){S':List Fr}(hl:S'.length=S.length)(hx:(fcells K.actv S).set i x=fcells K.actv S'):PM K κ evv sv Y s S' (W.setCell ⟨b,i,none⟩ x):=by
 have hb:∀ k,κ k≠5→(W.setCell ⟨b,i,none⟩ x).heap[k]? = W.heap[k]? := fun k q=>Below.heap_setCell _ _ _ _ fun z=>q (by
  obtain rfl:k=b:=by first | exact z | exact z.symm
  exact h.lab.s _ hv)
 have hsz:W.heap.size≤(W.setCell ⟨b,i,none⟩ x).heap.size:=by simp
 have V:=own_putN h.sr hv i x
 rw [hx] at V
 exact {
  lab:={ h.lab with lt:=fun k q=>⟨(h.lab.lt k q).1,Nat.lt_of_lt_of_le (h.lab.lt k q).2 hsz⟩ }
  cn:=h.cn.keep hsz fun k q=>hb k (by have:=h.lab.nc q;omega)
  blk:=(hb K.g (by rw [h.lab.g];decide)).trans h.blk
  vr:=own_of_block h.vr fun k e=>hb k (by rw [h.lab.v k e];decide)
  ar:=own_of_block h.ar fun k e=>hb k (by rw [h.lab.a k e];decide)
  hY:=h.hY
  yr:=fun i y q=>own_of_block (h.yr i y q) fun k e=>hb k (by rw [h.lab.y i y k q e];omega)
  er:=own_of_block h.er fun k e=>hb k (by rw [h.lab.e k e];decide)
  sr:=by rw [hl];exact V }
def relabP(n:Nat)(κ:Nat→Nat)(v:Value)(k:Nat):Nat:=if v.ownBlock=some k then n else if κ k=n then 0 else κ k
theorem PM.event(h:PM K κ evv sv Y s S W){evv':Value}{e:Int×Int×Int}(hg:W.grownBy W' evv.ownBlock)(hO:W'.ownsRow K.base 95 3 evv' (s.ev.length+1) (ecells s.ev++ecell e))(hat:evv'.ownBlock=evv.ownBlock∨evv'.ownBlock=some W.heap.size) :
  PM K (relabP 4 κ evv') evv' sv Y { s with ev:=s.ev++[e] } S (W'.setCell ⟨K.g,3,none⟩ evv')∧∀ k,relabP 4 κ evv' k≠0→κ k≠0∨W.heap.size≤k:=by
 have hnew:∀ k,evv'.ownBlock=some k→κ k=4∨(k=W.heap.size∧κ k=0):=fun k q=>by
  rcases hat with z | z
  ·exact .inl (h.lab.e k (z▸q))
  ·exact zMachPG3
 have hre:∀ k,κ k≠0→κ k≠4→relabP 4 κ evv' k=κ k:=fun k q1 q2=>by
  unfold relabP
  rw [if_neg (fun z=>by rcases hnew k z with c | ⟨-,c⟩<;>omega),if_neg q2]
 have hW:∀ k,k<W.heap.size→κ k≠4→W'.heap[k]? = W.heap[k]? := fun k q1 q2=>hg.block k q1 fun z=>q2 (h.lab.e k z.symm)
 have hb:∀ k,k≠K.g→(W'.setCell ⟨K.g,3,none⟩ evv').heap[k]? = W'.heap[k]? := fun k q=>Below.heap_setCell _ _ _ _ fun z=>q (by first | exact z | exact z.symm)
 have hng:∀ k,κ k≠1→k≠K.g:=fun k q z=>q (by rw [z];exact h.lab.g)
 have hall:∀ k,κ k≠0→κ k≠1→κ k≠4→(W'.setCell ⟨K.g,3,none⟩ evv').heap[k]? = W.heap[k]? := fun k q1 q2 q3=>(hb k (hng k q2)).trans (hW k (h.lab.lt k q1).2 q3)
 have hsz:W.heap.size≤(W'.setCell ⟨K.g,3,none⟩ evv').heap.size:=by have:=hg.size;simpa using this
 have hB:Blk W' K.g 47 (pcells K evv sv s.steps):=(hW K.g h.glt.2 (by rw [h.lab.g];decide)).trans h.blk
 refine⟨{
  lab:={
   g:=by rw [hre K.g (by rw [h.lab.g];decide) (by rw [h.lab.g];decide)];exact h.lab.g
   v:=fun k e=>by have:=h.lab.v k e;rw [hre k (by omega) (by omega)];exact this
   a:=fun k e=>by have:=h.lab.a k e;rw [hre k (by omega) (by omega)];exact this
   e:=fun k e=>by unfold relabP;rw [if_pos e]
   s:=fun k e=>by have:=h.lab.s k e;rw [hre k (by omega) (by omega)];exact this
   c:=fun k e=>by have:=h.lab.c k e;rw [hre k (by omega) (by omega)];exact this
   y:=fun i y k q e=>by have:=h.lab.y i y k q e;rw [hre k (by omega) (by omega)];exact this
   lt:=fun k q=>by
    unfold relabP at q
    split at q
    ·next z =>
     have:=hO.lt k z
     exact⟨this.1,by simpa using this.2⟩
    ·split at q
     ·exact absurd rfl q
     ·exact⟨(h.lab.lt k q).1,Nat.lt_of_lt_of_le (h.lab.lt k q).2 hsz⟩ }
  cn:=h.cn.keep hsz fun k q=>by
   exact zMachPG1
  blk:=hB.set 3 evv'
  vr:=own_of_block h.vr fun k e=>by have:=h.lab.v k e;exact hall k (by omega) (by omega) (by omega)
  ar:=own_of_block h.ar fun k e=>by have:=h.lab.a k e;exact hall k (by omega) (by omega) (by omega)
  hY:=h.hY
  yr:=fun i y q=>own_of_block (h.yr i y q) fun k e=>by have:=h.lab.y i y k q e;exact hall k (by omega) (by omega) (by omega)
  er:=by
   show World.ownsRow _ _ _ _ _ (s.ev++[e]).length (ecells (s.ev++[e]))
   rw [List.length_append,List.length_singleton,ecells_snoc]
   exact own_of_block hO fun k e=>hb k (fun z=>by
    have a:=h.lab.g
    rw [← z] at a
    rcases hnew k e with c | ⟨-,c⟩<;>omega)
  sr:=own_of_block h.sr fun k e=>by have:=h.lab.s k e;exact hall k (by omega) (by omega) (by omega) },?_⟩
 exact zMachPG2
theorem PM.push(h:PM K κ evv sv Y s S W){sv':Value}{f:Fr}(hg:W.grownBy W' sv.ownBlock)(hO:W'.ownsRow K.base 116 8 sv' (S.length+1) (fcells K.actv S++fcell K.actv f))(hat:sv'.ownBlock=sv.ownBlock∨sv'.ownBlock=some W.heap.size) :
  PM K (relabP 5 κ sv') evv sv' Y s (f::S) (W'.setCell ⟨K.g,10,none⟩ sv')∧∀ k,relabP 5 κ sv' k≠0→κ k≠0∨W.heap.size≤k:=by
 have hnew:∀ k,sv'.ownBlock=some k→κ k=5∨(k=W.heap.size∧κ k=0):=fun k q=>by
  rcases hat with z | z
  ·exact .inl (h.lab.s k (z▸q))
  ·exact zMachPG3
 have hre:∀ k,κ k≠0→κ k≠5→relabP 5 κ sv' k=κ k:=fun k q1 q2=>by
  unfold relabP
  rw [if_neg (fun z=>by rcases hnew k z with c | ⟨-,c⟩<;>omega),if_neg q2]
 have hW:∀ k,k<W.heap.size→κ k≠5→W'.heap[k]? = W.heap[k]? := fun k q1 q2=>hg.block k q1 fun z=>q2 (h.lab.s k z.symm)
 have hb:∀ k,k≠K.g→(W'.setCell ⟨K.g,10,none⟩ sv').heap[k]? = W'.heap[k]? := fun k q=>Below.heap_setCell _ _ _ _ fun z=>q (by first | exact z | exact z.symm)
 have hng:∀ k,κ k≠1→k≠K.g:=fun k q z=>q (by rw [z];exact h.lab.g)
 have hall:∀ k,κ k≠0→κ k≠1→κ k≠5→(W'.setCell ⟨K.g,10,none⟩ sv').heap[k]? = W.heap[k]? := fun k q1 q2 q3=>(hb k (hng k q2)).trans (hW k (h.lab.lt k q1).2 q3)
 have hsz:W.heap.size≤(W'.setCell ⟨K.g,10,none⟩ sv').heap.size:=by have:=hg.size;simpa using this
 have hB:Blk W' K.g 47 (pcells K evv sv s.steps):=(hW K.g h.glt.2 (by rw [h.lab.g];decide)).trans h.blk
 refine⟨{
  lab:={
   g:=by rw [hre K.g (by rw [h.lab.g];decide) (by rw [h.lab.g];decide)];exact h.lab.g
   v:=fun k e=>by have:=h.lab.v k e;rw [hre k (by omega) (by omega)];exact this
   a:=fun k e=>by have:=h.lab.a k e;rw [hre k (by omega) (by omega)];exact this
   e:=fun k e=>by have:=h.lab.e k e;rw [hre k (by omega) (by omega)];exact this
   s:=fun k e=>by unfold relabP;rw [if_pos e]
   c:=fun k e=>by have:=h.lab.c k e;rw [hre k (by omega) (by omega)];exact this
   y:=fun i y k q e=>by have:=h.lab.y i y k q e;rw [hre k (by omega) (by omega)];exact this
   lt:=fun k q=>by
    unfold relabP at q
    split at q
    ·next z =>
     have:=hO.lt k z
     exact⟨this.1,by simpa using this.2⟩
    ·split at q
     ·exact absurd rfl q
     ·exact⟨(h.lab.lt k q).1,Nat.lt_of_lt_of_le (h.lab.lt k q).2 hsz⟩ }
  cn:=h.cn.keep hsz fun k q=>by
   exact zMachPG1
  blk:=hB.set 10 sv'
  vr:=own_of_block h.vr fun k e=>by have:=h.lab.v k e;exact hall k (by omega) (by omega) (by omega)
  ar:=own_of_block h.ar fun k e=>by have:=h.lab.a k e;exact hall k (by omega) (by omega) (by omega)
  hY:=h.hY
  yr:=fun i y q=>own_of_block (h.yr i y q) fun k e=>by have:=h.lab.y i y k q e;exact hall k (by omega) (by omega) (by omega)
  er:=own_of_block h.er fun k e=>by have:=h.lab.e k e;exact hall k (by omega) (by omega) (by omega)
  sr:=own_of_block hO fun k e=>hb k (fun z=>by
    have a:=h.lab.g
    rw [← z] at a
    rcases hnew k e with c | ⟨-,c⟩<;>omega) },?_⟩
 exact zMachPG2
theorem PM.grown{row:Option Nat}(h:PM K κ evv sv Y s S W)(hg:W.grownBy W' row)(hr:∀ k,row=some k→κ k=0∧K.base≤k):PM K κ evv sv Y s S W' :=
 h.move hg.size fun k q1 q2=>hg.block k q1 fun z=>by
  obtain⟨a,b⟩:=hr k z.symm
  omega
def Ender(s:St)(v:Value):Prop:=(s.over=false∧v=.nilFunc)∨(s.over=true∧((s.value=0∧v=.func (.func 30) #[.int .i64 s.kind] #[])∨(s.kind=0∧v=.func (.func 97) #[.int .i64 s.value] #[])))
def Turn(K:PK)(κ:Nat→Nat)(W:World)(c:Cfg)(e:Ending)(W':World):Prop :=
 ∃ κ' evv' sv' Y' v,PM K κ' evv' sv' Y' c.1 c.2 W'∧Went κ κ' W W'∧e=.returned v∧Ender c.1 v
theorem Turn.on{κ':Nat→Nat}{evv' sv':Value}{Y':List ((Option Addr×Nat)×List Int)}{c:Cfg}(h:PM K κ' evv' sv' Y' c.1 c.2 W')(hw:Went κ κ' W W')(ho:c.1.over=false):Turn K κ W c (.returned .nilFunc) W' :=
 ⟨κ',evv',sv',Y',_,h,hw,rfl,.inl ⟨ho,rfl⟩⟩
theorem Turn.stopped{κ':Nat→Nat}{evv' sv':Value}{Y':List ((Option Addr×Nat)×List Int)}{s':St}{S':List Fr}(h:PM K κ' evv' sv' Y' s' S' W')(hw:Went κ κ' W W')(ho:s'.over=false)(k:Int):Turn K κ W (s'.stop k 0,S') (.returned (.func (.func 30) #[.int .i64 k] #[])) W' :=
 ⟨κ',evv',sv',Y',_,h.stop k 0,hw,rfl,.inr ⟨by rw [stop_no ho],.inl ⟨by rw [stop_no ho],by rw [stop_no ho]⟩⟩⟩
theorem Turn.then{κ':Nat→Nat}{W1 W2:World}{c:Cfg}{e:Ending}(h:Turn K κ' W1 c e W2)(hw:Went κ κ' W W1):Turn K κ W c e W2:=by
 obtain⟨κ2,evv',sv',Y',v,h1,h2,h3⟩:=h
 exact⟨κ2,evv',sv',Y',v,h1,hw.trans h2,h3⟩
end
end Go.Proofs.YtekogckmgkodfaaGreatDoor.Mach
namespace Go.Proofs.YtekogckmgkodfaaGreatDoor.Mach
open Go.RowKit Mem Arena Kinds Path Cat Suite
attribute [local go_sem ↓] Go.wp_at_zero Go.wp_at_succ
section
variable {K:PK} {κ:Nat→Nat} {evv sv:Value} {Y:List ((Option Addr×Nat)×List Int)} {s:St} {S:List Fr} {W W':World}
theorem PM.top{f:Fr}(h:PM K κ evv sv Y s (f::S) W):∃ b cap,sv=.slice (some ⟨b,0,none⟩) (S.length+1) cap∧sv.ownBlock=some b∧κ b=5∧b≠K.g∧(∀ j,W.cell? ⟨b,S.length*8+j,none⟩=(fcell K.actv f)[j]? ∨ 8≤j)∧(∀ j,W.frozen? ⟨b,j,none⟩=false)∧S.length+1≤cap:=by
 obtain⟨b,cap,rfl,hb⟩:=own_block h.sr (by simp)
 have h5:=h.lab.s b hb
 refine⟨b,cap,rfl,hb,h5,fun e=>by rw [e,h.lab.g] at h5;omega,fun j=>?_,fun j=>?_,?_⟩
 ·by_cases hj:8≤j
  ·exact .inr hj
  ·left
   rw [World.ownsRow.cellAt h.sr (S.length*8+j) (by simp only [List.length_cons];omega),fcells_get]
 ·exact World.ownsRow.frozenAt h.sr j
 ·rcases h.sr.2 with⟨q,-⟩ | ⟨g',cap',cur,q,-,-,hn,-⟩
  ·cases q
  ·cases q
   simpa using hn
theorem PM.bare(h:PM K κ evv sv Y s [] W):∃ A c,sv=.slice A 0 c:=by
 rcases h.sr.2 with⟨q,-⟩ | ⟨g',cap',cur,q,-⟩
 ·exact⟨_,_,q⟩
 ·exact⟨_,_,q⟩
theorem tell_nil(h:PM K κ evv sv Y s [] W)(ho:s.over=false)(v:Int):Calls Tryz.prog 89 #[.pointer (some ⟨K.g,0,none⟩),.int .i64 v] W (Turn K κ W (tellC v (s,[]))):=by
 obtain⟨A,c,rfl⟩:=h.bare
 have c10:W.cell? ⟨K.g,10,none⟩=some (.slice A 0 c):=h.cell 10
 have HF:=Lib.hid (Turn.on (c:=tellC v (s,[])) h (Went.refl _ _) ho)
 clear h
 go_enter Tryz.func89,Tryz.ntmps89
 go_wp2_with fail
 go_ret
 exact HF.out
theorem tell_cons{f:Fr}(h:PM K κ evv sv Y s (f::S) W)(ho:s.over=false)(v:Int)(hl:S.length<1000000):Calls Tryz.prog 89 #[.pointer (some ⟨K.g,0,none⟩),.int .i64 v] W (Turn K κ W (tellC v (s,f::S))):=by
 obtain⟨b,cap,rfl,hb,hb5,hne,hc,hfr,-⟩:=h.top
 have c10:W.cell? ⟨K.g,10,none⟩=some (.slice (some ⟨b,0,none⟩) (S.length+1) cap):=h.cell 10
 have hc5:W.cell? ⟨b,S.length*8+5,none⟩=some (.int .i64 f.fst):=(hc 5).resolve_right (by omega)
 have hc6:W.cell? ⟨b,S.length*8+6,none⟩=some (.int .i64 f.lst):=(hc 6).resolve_right (by omega)
 have hf5:=hfr (S.length*8+5)
 have hf6:=hfr (S.length*8+6)
 have hlt:=(h.lab.lt b (by omega)).2
 have h1:=h.set_s hb (S.length*8+5) (.int .i64 f.lst) (S':={ f with fst:=f.lst }::S) rfl (by rw [fcells_set];rfl)
 have h2:=h1.set_s hb (S.length*8+6) (.int .i64 v) (S':={ f with fst:=f.lst,lst:=v }::S) rfl (by rw [fcells_set];rfl)
 have hw:=((Went.refl κ W).setCell (a:=⟨b,S.length*8+5,none⟩) (.inl (by show κ b≠0;omega)) (.int .i64 f.lst)).setCell (a:=⟨b,S.length*8+6,none⟩) (.inl (by show κ b≠0;omega)) (.int .i64 v)
 have HF:=Lib.hid (Turn.on (c:=tellC v (s,f::S)) h2 hw ho)
 clear h h1 h2 hw hc hfr hb hb5
 generalize hn:S.length=n at c10 hc5 hc6 hf5 hf6 hl HF
 have v1:IntKind.i64.wrap (n:Int)=n:=IntWalk.i64_in _ (by omega)
 clear hn
 go_enter Tryz.func89,Tryz.ntmps89
 go_wp2_with fail
 go_ret
 exact HF.out
theorem tell_any(h:PM K κ evv sv Y s S W)(ho:s.over=false)(v:Int)(hl:S.length<1000000):Calls Tryz.prog 89 #[.pointer (some ⟨K.g,0,none⟩),.int .i64 v] W (Turn K κ W (tellC v (s,S))):=by
 cases S with
 | nil=>exact tell_nil h ho v
 | cons f S=>exact tell_cons h ho v (by simp at hl;omega)
theorem store_any(h:PM K κ evv sv Y s S W)(ho:s.over=false)(hl:S.length<1000000)(hle:s.ev.length<1000000)(i a b:Int):Calls Tryz.prog 95 #[.pointer (some ⟨K.g,0,none⟩),.int .i64 i,.int .i64 a,.int .i64 b] W (Turn K κ W (tellC 0 ({ s with ev:=s.ev++[(i,a,b)] },S))):=by
  have c3:W.cell? ⟨K.g,3,none⟩=some evv:=h.cell 3
  have f3:=h.blk.frozen 3
  have hlt:=h.glt
  have hbs:=h.cn.size
  have bX:=Blk.new W 95 #[.int .i64 i,.int .i64 a,.int .i64 b]
  have hb1:=(Below.refl W.heap.size W).alloc (Nat.le_refl _) (.cells #[.int .i64 i,.int .i64 a,.int .i64 b] 95)
  have h1:=h.below hb1
  have H1:=Lib.hid h1
  have HW1:=Lib.hid ((Went.refl κ W).below hb1)
  have hO1:=h1.er
  have HO:=Lib.hid ho
  clear h h1 hb1
  go_enter Tryz.func95,Tryz.ntmps95
  go_wp2_with (first
    | (at_builtin; refine append_event rfl _ _ rfl K.base (by simp; omega) _ s.ev rfl hO1 W.heap.size (i, a, b) rfl bX (by omega) ?_; intro v' w' hown hgr hat; obtain ⟨b', cap', rfl, hb'⟩ := own_block hown (by omega); have f3' := (H1.out.blk.grown hgr (fun z => by have q := H1.out.lab.e K.g z.symm; rw [H1.out.lab.g] at q; omega)).frozen 3; have c3' := (H1.out.blk.grown hgr (fun z => by have q := H1.out.lab.e K.g z.symm; rw [H1.out.lab.g] at q; omega)).cell 3
       obtain⟨e1,e2⟩:=H1.out.event (e:=(i,a,b)) hgr hown hat
       have hk:=(HW1.out.grown hgr (fun k q=>by rw [H1.out.lab.e k q];decide)).setCell (a:=⟨K.g,3,none⟩) (.inl (by rw [H1.out.lab.g];decide)) (.slice (some ⟨b',0,none⟩) (s.ev.length+1) cap')
       have hwt:Went κ (relabP 4 κ (.slice (some ⟨b',0,none⟩) (s.ev.length+1) cap')) W (w'.setCell ⟨K.g,3,none⟩ (.slice (some ⟨b',0,none⟩) (s.ev.length+1) cap')):=⟨hk.kept,fun k q=>by
          rcases e2 k q with c | c
          · exact .inl c
          · exact .inr (by simp at c;omega)⟩
       have HT:=Lib.hid (tell_any e1 (show _=false from HO.out) 0 hl)
       have HWT:=Lib.hid hwt
       clear e1 e2 hk hwt hgr hown hat hb')
    | (go_at_call 89;refine HT.out.mono ?_;rintro e w2 hT;have HTT:=Lib.hid (hT.then HWT.out);obtain⟨_,_,_,_,v,-,-,rfl,-⟩:=hT))
  go_ret
  exact HTT.out
theorem info_frame:(Tryz.prog.info? 116).map (fun i=>(i.zero,i.size,i.bytes))=some (some (.agg #[.int .i64 0,.int .i64 0,.int .i64 0,.int .i64 0,.int .i64 0,.int .i64 0,.int .i64 0,.nilFunc]),8,64):=by kernel_rfl
theorem ActV.one{W:World}{C:Nat→Prop}{t:Int}{v:Value}(h:ActV W C t v):∃ f cs,v=.func (.func f) #[] cs:=by
 unfold ActV at h
 rcases h with⟨-,h⟩ | ⟨-,h⟩ | ⟨-,h⟩ | ⟨-,h⟩ | ⟨-,h⟩ | ⟨-,h⟩ | ⟨-,h⟩ | ⟨-,h⟩ | ⟨-,h⟩ | ⟨-,b,h,-⟩ | ⟨b,q,-,h,-⟩ | ⟨b,c,q,-,h,-⟩ | ⟨b,c,q,-,h,-⟩
 all_goals exact⟨_,_,h⟩
theorem key_int16:Go.Maps.Keyed Tryz.prog 3:=Go.Maps.int_keyed Tryz.underlying3
theorem nil_act(w:World):(zeroValue 109).run Tryz.prog w=.ok .nilFunc w:=by kernel_rfl
theorem lookA{w:World}{b:Nat}{u:Int→Value}(h:w.ownsMap Tryz.prog 3 itselfA b 26 (tableA u))(t:Int)(h1:1≤t)(h2:t≤26):(Instr.lookup 44 (.map (some b)) (.int .i64 t) false).run Tryz.prog w=.ok (u t) w:=by
 obtain⟨n,rfl⟩:=Int.eq_ofNat_of_zero_le (show 0≤t by omega)
 have hw:(Lit.int .i64 (n:Int)).wf=true:=by
  have h0:(List.range 27).all (fun t=>(Lit.int .i64 (t:Int)).wf)=true:=by decide +kernel
  exact List.all_eq_true.1 h0 n (List.mem_range.2 (by omega))
 obtain⟨v,ps,hrun,hv⟩:=h.lookup (t:=44) key_int16 Tryz.underlying44 (nil_act w) (zd:=.held .nilFunc) (zp:=[]) rfl (Go.Maps.keyOf_int_mk Tryz.underlying3 hw)
 have hat:(tableA u).atKey (.int .i64 n) (.held .nilFunc)=.held (u n):=by
  rcases (show n=1∨n=2∨n=3∨n=4∨n=5∨n=6∨n=7∨n=8∨n=9∨n=10∨n=11∨n=12∨n=13∨n=14∨n=15∨n=16∨n=17∨n=18∨n=19∨n=20∨n=21∨n=22∨n=23∨n=24∨n=25∨n=26 by omega) with rfl | rfl | rfl | rfl | rfl | rfl | rfl | rfl | rfl | rfl | rfl | rfl | rfl | rfl | rfl | rfl | rfl | rfl | rfl | rfl | rfl | rfl | rfl | rfl | rfl | rfl
  all_goals kernel_rfl
 rw [hat] at hv
 cases hv
 exact hrun
end
section
variable {K:PK} {κ:Nat→Nat} {evv sv:Value} {Y:List ((Option Addr×Nat)×List Int)} {s:St} {S:List Fr} {W W':World}
theorem PM.slice(h:PM K κ evv sv Y s S W):∃ A c,sv=.slice A S.length c:=by
 rcases h.sr.2 with⟨q,e⟩ | ⟨g',cap',cur,q,-⟩
 ·exact⟨_,_,by rw [e];exact q⟩
 ·exact⟨_,_,q⟩
theorem p_enter_out(h:PM K κ evv sv Y s S W)(ho:s.over=false)(h0:s.fuel=0)(hF:s.steps+s.fuel=K.F)(k:Int):Calls Tryz.prog 29 #[.pointer (some ⟨K.g,0,none⟩),.int .i64 k] W (Turn K κ W (s.stop 4 0,S)):=by
 have c2:W.cell? ⟨K.g,2,none⟩=some (.int .i64 s.steps):=h.cell 2
 have c6:W.cell? ⟨K.g,6,none⟩=some (.int .i64 K.F):=h.cell 6
 rw [show K.F=s.steps by omega] at c6
 have HT:=Lib.hid (Turn.stopped h.drew (Went.refl κ W).drew ho 4)
 clear h ho h0 hF
 generalize s.steps=n at c2 c6
 go_enter Tryz.func29,Tryz.ntmps29
 go_wp2_with fail
 go_region
 go_wp2_with fail
 go_ret
 exact HT.out
theorem p_enter_on(h:PM K κ evv sv Y s S W)(ho:s.over=false)(h0:s.fuel≠0)(hF:s.steps+s.fuel=K.F)(hF2:K.F≤10000)(hl:S.length≤10000){k:Nat}(hk:IsNode K.p.xs k):Calls Tryz.prog 29 #[.pointer (some ⟨K.g,0,none⟩),.int .i64 k] W (Turn K κ W (s.tick,frame0 K.p.xs k::S)):=by
 obtain⟨A,c,rfl⟩:=h.slice
 obtain⟨⟨t,N⟩,hx,har,ht1,ht2,hkl,hget⟩:=hk.get
 simp only at ht1 ht2
 have hfr0:frame0 K.p.xs k=⟨(t,N),k,k+1,owedN (t,N),0,0,false⟩:=by unfold frame0;rw [hget]
 have c2:W.cell? ⟨K.g,2,none⟩=some (.int .i64 s.steps):=h.cell 2
 have c6:W.cell? ⟨K.g,6,none⟩=some (.int .i64 K.F):=h.cell 6
 have f2:=h.drew.blk.frozen 2
 have e3:((s.steps:Int)==(K.F:Int))=false:=by simp;omega
 have v1:IntKind.i64.wrap ((s.steps:Int)+1)=(s.steps:Int)+1:=IntWalk.i64_in _ (by omega)
 have hlx:=h.cn.lx
 have v2:IntKind.i64.wrap ((k:Int)+1)=(k:Int)+1:=IntWalk.i64_in _ (by omega)
 have i1:(k:Int)<(K.p.xs.length:Int):=by omega
 have i2:(0:Int)≤(k:Int):=by omega
 have hgb:=h.glt
 have hbs:=h.cn.size
 have h2:=h.tick.drew
 have hw2:=((Went.refl κ W).setCell (a:=⟨K.g,2,none⟩) (.inl (by rw [h.lab.g];decide)) (.int .i64 ((s.steps:Int)+1))).drew
 have hsz2:(W.setCell ⟨K.g,2,none⟩ (.int .i64 ((s.steps:Int)+1))).drew.heap.size=W.heap.size:=by simp
 obtain⟨W2,hW2⟩:∃ W2,(W.setCell ⟨K.g,2,none⟩ (.int .i64 ((s.steps:Int)+1))).drew=W2:=⟨_,rfl⟩
 rw [hW2] at h2 hw2 hsz2
 obtain⟨ad,hB,hbk,d0,d1⟩:=h2.cn.body k (t,N) hx
 simp only at d0 d1
 have c4:W2.cell? ⟨K.g,4,none⟩=some (.slice K.p.B K.p.xs.length K.p.e):=h2.cell 4
 rw [hB] at c4
 have b3:=Blk.new W2 105 #[.int .i64 t,.int .i64 N]
 have hb3:=(Below.refl W2.heap.size W2).alloc (Nat.le_refl _) (.cells #[.int .i64 t,.int .i64 N] 105)
 have h3:=h2.below hb3
 have hw3:=hw2.below hb3
 have HO:=Lib.hid (fun W=>owed_any t N har W)
 have ha:=h3.cn.acts t ht1 ht2
 obtain⟨fa,ca,hact⟩:=ha.one
 obtain⟨ig,hig,hz0,hz1,hz2⟩:=info_parts info_frame
 have HC:=Lib.hid (fun W4 (hb4:Below (W2.alloc (.cells #[.int .i64 t,.int .i64 N] 105)).heap.size (W2.alloc (.cells #[.int .i64 t,.int .i64 N] 105)) W4)=>And.intro (h3.below hb4) (And.intro (hw3.below hb4) (b3.below hb4 b3.lt)))
 have c7:(W2.alloc (.cells #[.int .i64 t,.int .i64 N] 105)).cell? ⟨K.g,10,none⟩=some (.slice A S.length c):=h3.cell 10
 have c8:(W2.alloc (.cells #[.int .i64 t,.int .i64 N] 105)).cell? ⟨K.g,9,none⟩=some (.map (some K.mb)):=h3.cell 9
 obtain⟨x0,x1⟩:=b3.two
 have HL:=Lib.hid h.lab
 have HLT:=Lib.hid (Nat.le_of_eq hsz2.symm)
 have L1:=lookA h3.cn.map.drew t ht1 ht2
 rw [hact] at L1
 have HS2:=Lib.hid hsz2
 have HFR:=Lib.hid hfr0
 have HACT:=Lib.hid hact
 have HB:=Lib.hid hB
 have HO0:=Lib.hid ho
 generalize hq:((owedN (t,N):Nat):Int)=q at HO
 have HQ:=Lib.hid hq
 clear h h2 hw2 h3 hw3 ha hact hsz2 hb3 b3 hfr0 hget hB hq har hx ho hk
 go_enter Tryz.func29,Tryz.ntmps29
 go_wp2_with fail
 go_region
 go_wp2_with fail
 have hC:(fun w'=>w'.cell? ⟨K.g,10,none⟩=some (.slice A S.length c)∧w'.cell? ⟨K.g,9,none⟩=some (.map (some K.mb))∧w'.cell? ⟨W2.heap.size,0,none⟩=some (.int .i64 t)∧w'.cell? ⟨W2.heap.size,1,none⟩=some (.int .i64 N)∧(Instr.lookup 44 (.map (some K.mb)) (.int .i64 t) false).run Tryz.prog w'=.ok (.func (.func fa) #[] ca) w') (W2.alloc (.cells #[.int .i64 t,.int .i64 N] 105)).drew:=⟨c7,c8,x0,x1,L1⟩
 refine OrdU.wp_region_U 23 (fun w'=>w'.cell? ⟨K.g,10,none⟩=some (.slice A S.length c)∧w'.cell? ⟨K.g,9,none⟩=some (.map (some K.mb))∧w'.cell? ⟨W2.heap.size,0,none⟩=some (.int .i64 t)∧w'.cell? ⟨W2.heap.size,1,none⟩=some (.int .i64 N)∧(Instr.lookup 44 (.map (some K.mb)) (.int .i64 t) false).run Tryz.prog w'=.ok (.func (.func fa) #[] ca) w') (by kernel_rfl) hC (fun hHeld=>?_)
 refine OrdU.tk 0 (h:=?_)
 refine OrdU.tk 1 (h:=?_)
 refine OrdU.tk 2 (h:=?_)
 refine OrdU.tk 3 (h:=?_)
 refine OrdU.tk 4 (h:=?_)
 refine OrdU.tk 5 (h:=?_)
 refine OrdU.tk 6 (h:=?_)
 refine OrdU.tk 7 (h:=?_)
 refine OrdU.tk 8 (h:=?_)
 refine OrdU.tk 9 (h:=?_)
 refine OrdU.tk 11 (h:=?_)
 refine OrdU.tk 12 (h:=?_)
 refine OrdU.tk 13 (h:=?_)
 refine OrdU.tk 14 (h:=?_)
 refine OrdU.tk 15 (h:=?_)
 refine OrdU.tk 16 (h:=?_)
 refine OrdU.tk 17 (h:=?_)
 refine OrdU.one 10 (h:=fun K' hK=>?_)
 go_simp
 go_at_call 76
 with_reducible refine(HO.out _).mono ?_
 rintro e w4 ⟨rfl,hb4⟩
 have hb5:=((Below.refl _ _).drew).trans hb4
 obtain⟨h4,hw4,b4⟩:=HC.out _ hb5
 obtain⟨x0a,x1a⟩:=b4.two
 have L2:=lookA h4.cn.map t ht1 ht2
 rw [HACT.out] at L2
 have hC4:(fun w'=>w'.cell? ⟨K.g,10,none⟩=some (.slice A S.length c)∧w'.cell? ⟨K.g,9,none⟩=some (.map (some K.mb))∧w'.cell? ⟨W2.heap.size,0,none⟩=some (.int .i64 t)∧w'.cell? ⟨W2.heap.size,1,none⟩=some (.int .i64 N)∧(Instr.lookup 44 (.map (some K.mb)) (.int .i64 t) false).run Tryz.prog w'=.ok (.func (.func fa) #[] ca) w') w4:=⟨h4.cell 10,h4.cell 9,x0a,x1a,L2⟩
 go_wp2_with fail
 refine OrdU.bh hK (hC4) (h:=fun hHeld=>?_)
 clear hK K'
 refine OrdU.tk 18 (h:=?_)
 have hb6:=(Below.refl w4.heap.size w4).alloc (Nat.le_refl _) (.cells #[.int .i64 t,.int .i64 N,.int .i64 k,.int .i64 ((k:Int)+1),.int .i64 q,.int .i64 0,.int .i64 0,.func (.func fa) #[] ca] 116)
 have h6:=h4.below hb6
 have hw6:=hw4.below hb6
 have b6:=b4.below hb6 b4.lt
 obtain⟨x0b,x1b⟩:=b6.two
 have L3:=lookA h6.cn.map t ht1 ht2
 rw [HACT.out] at L3
 have hC6:(fun w'=>w'.cell? ⟨K.g,10,none⟩=some (.slice A S.length c)∧w'.cell? ⟨K.g,9,none⟩=some (.map (some K.mb))∧w'.cell? ⟨W2.heap.size,0,none⟩=some (.int .i64 t)∧w'.cell? ⟨W2.heap.size,1,none⟩=some (.int .i64 N)∧(Instr.lookup 44 (.map (some K.mb)) (.int .i64 t) false).run Tryz.prog w'=.ok (.func (.func fa) #[] ca) w') (w4.alloc (.cells #[.int .i64 t,.int .i64 N,.int .i64 k,.int .i64 ((k:Int)+1),.int .i64 q,.int .i64 0,.int .i64 0,.func (.func fa) #[] ca] 116)):=⟨h6.cell 10,h6.cell 9,x0b,x1b,L3⟩
 have hO6:=h6.sr
 have hsz4:=h4.cn.size
 refine OrdU.one 19 (h:=fun K' hK=>?_)
 go_simp
 refine OrdU.bh hK (hC6) (h:=fun hHeld=>?_)
 clear hK K'
 refine OrdU.one 20 (h:=fun K' hK=>?_)
 refine step_append_lies _ (by rfl) _ _ _ (by rfl) K.base 116 ig _ 8 64 Tryz.underlying45 hig hz0 hz1 hz2 rfl (by omega) _ S.length _ (by rfl) hO6 ⟨w4.heap.size,0,none⟩ 1 1 [.int .i64 t,.int .i64 N,.int .i64 k,.int .i64 ((k:Int)+1),.int .i64 q,.int .i64 0,.int .i64 0,.func (.func fa) #[] ca] (by rfl) (by rfl) (World.news_of_block (cs:=#[.int .i64 t,.int .i64 N,.int .i64 k,.int .i64 ((k:Int)+1),.int .i64 q,.int .i64 0,.int .i64 0,.func (.func fa) #[] ca]) (t:=116) (fr:=(0,0)) (heap_alloc_new w4 _)) (by simp [Value.oneCell']) (by omega) (by simp only [maxLen];omega) (by omega) (by simp;omega) (w4.heap.size+1) (by simp) ?_
 intro gg cap4 w5 hown hgr hat hlt5
 have hnb:∀ i,κ i≠5→some i≠(Value.slice A S.length c).ownBlock:=fun i hi z=>hi (HL.out.s i z.symm)
 have bG:=h6.blk.grown hgr (hnb _ (by rw [HL.out.g];decide))
 have y4:w5.cell? ⟨K.g,10,none⟩=some (.slice A S.length c):=bG.cell 10
 have yf:=bG.frozen 10
 have b7:Blk w5 W2.heap.size 105 #[.int .i64 t,.int .i64 N]:=b6.grown hgr (fun z=>by have q1:=HL.out.s _ z.symm;have q2:=HL.out.lt W2.heap.size (by omega);have q3:=HLT.out;omega)
 obtain⟨x0c,x1c⟩:=b7.two
 have L4:=lookA (h6.cn.map.kept hgr (hnb _ (by rw [HL.out.c _ h6.cn.cmb];decide))) t ht1 ht2
 rw [HACT.out] at L4
 have hC5:(fun w'=>w'.cell? ⟨K.g,10,none⟩=some (.slice A S.length c)∧w'.cell? ⟨K.g,9,none⟩=some (.map (some K.mb))∧w'.cell? ⟨W2.heap.size,0,none⟩=some (.int .i64 t)∧w'.cell? ⟨W2.heap.size,1,none⟩=some (.int .i64 N)∧(Instr.lookup 44 (.map (some K.mb)) (.int .i64 t) false).run Tryz.prog w'=.ok (.func (.func fa) #[] ca) w') w5:=⟨y4,bG.cell 9,x0c,x1c,L4⟩
 refine OrdU.bh hK (hC5) (h:=fun hHeld=>?_)
 clear hK K'
 refine OrdU.one 21 (h:=fun K' hK=>?_)
 go_simp
 refine OrdU.bh hK (hC5) (h:=fun hHeld=>?_)
 clear hK K'
 refine OrdU.one 22 (h:=fun K' hK=>?_)
 go_simp
 refine OrdU.bh hK (hC5) (h:=fun hHeld=>?_)
 clear hK K'
 refine OrdU.one 23 (h:=fun K' hK=>?_)
 go_simp
 refine OrdU.bk hK (h:=?_)
 clear hK K'
 refine OrdU.wpAnyU_done (by kernel_rfl) ?_ _
 have hfc:fcells K.actv S++[.int .i64 t,.int .i64 N,.int .i64 k,.int .i64 ((k:Int)+1),.int .i64 q,.int .i64 0,.int .i64 0,.func (.func fa) #[] ca]=fcells K.actv S++fcell K.actv (frame0 K.p.xs k):=by
  rw [HFR.out]
  unfold fcell doesV
  simp only
  rw [if_neg (by decide),HACT.out,HQ.out]
  simp
 obtain⟨e1,e2⟩:=h6.push (sv':=.slice (some ⟨gg,0,none⟩) (S.length+1) cap4) (f:=frame0 K.p.xs k) hgr (by rw [← hfc];exact hown) (hat.imp (fun z=>z.symm) (fun z=>(congrArg some z).trans (by simp)))
 have hk:=(hw6.grown hgr (fun i z=>by rw [HL.out.s i z];decide)).setCell (a:=⟨K.g,10,none⟩) (.inl (by rw [HL.out.g];decide)) (.slice (some ⟨gg,0,none⟩) (S.length+1) cap4)
 have hwt:Went κ _ W (w5.setCell ⟨K.g,10,none⟩ (.slice (some ⟨gg,0,none⟩) (S.length+1) cap4)):=⟨hk.kept,fun i z=>by
  rcases e2 i z with q1 | q1
  ·exact .inl q1
  ·exact .inr (by have:=hw4.kept.size;simp at q1;omega)⟩
 have HT:=Lib.hid (Turn.on (c:=(s.tick,frame0 K.p.xs k::S)) e1 hwt HO0.out)
 clear e1 e2 hk hwt
 go_wp2_with fail
 go_ret
 exact HT.out
end
end Go.Proofs.YtekogckmgkodfaaGreatDoor.Mach
