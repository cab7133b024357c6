/-
  Plain facts on paths: where a path leads, that each node has one, their order. No program is met here.
  What the functions of paths come to.
  The reference of paths, walked: how two stand; the node of a path.
  The reference of paths, walked: a node's path.
  The laws of layer 11, walked on what the package's functions come to: the document's example.
  Arguments that are slices of numbers: what they hold.
-/
import Derived.Test.YtekogckmgkodfaaGreatDoorArenaG
import Derived.Test.YtekogckmgkodfaaGreatDoorArenaH
import Derived.Deep.QuietTactic
import Derived.Laws.AppendOwnNone
set_option linter.unusedVariables false
set_option maxRecDepth 100000
namespace Go.Proofs.YtekogckmgkodfaaGreatDoor.Path
open Arena
def T(l:List Nd)(a n:Nat):Prop:=scan 1 (l.drop a)=some n
theorem T.one{l:List Nd}{a n m:Nat}(h:T l a n)(k:T l a m):n=m:=by unfold T at *;rw [h] at k;exact Option.some.inj k
theorem T.pos{l:List Nd}{a n:Nat}(h:T l a n):1≤n∧a+n≤l.length:=by
 obtain⟨x,-,-,-,-,h1,h2⟩:=node_kids h
 exact⟨h1,h2⟩
theorem T.end{l:List Nd}{a n:Nat}(h:T l a n):aend l a=((a+n:Nat):Int):=by rw [aend_some h];omega
theorem row_at(l:List Nd):∀ (c k n:Nat),scan c (l.drop k)=some n→∀ j,j<c→∃ q m:Nat,(kidsFrom l c k)[j]? = some (q:Int)∧T l q m∧k≤q∧q+m≤k+n ∧
  (∀ i q' m',i<j→(kidsFrom l c k)[i]? = some ((q':Nat):Int)→T l q' m'→q'+m'≤q)
 | 0,k,n,h,j,hj=>absurd hj (by omega)
 | c+1,k,n,h,j,hj=>by
  rw [Nat.add_comm,scan_add] at h
  cases h1:scan 1 (l.drop k) with
  | none=>rw [h1] at h;cases h
  | some n1 =>
   rw [h1] at h
   simp only [Option.bind_some,Option.map_eq_some_iff,List.drop_drop] at h
   obtain⟨m,h2,rfl⟩:=h
   have ek:aend l (k:Int)=((k+n1:Nat):Int):=T.end h1
   rw [kidsFrom,ek]
   cases j with
   | zero=>exact⟨k,n1,rfl,h1,Nat.le_refl _,by omega,fun i q' m' hi=>absurd hi (by omega)⟩
   | succ j =>
    obtain⟨q,mq,r1,r2,r3,r4,r5⟩:=row_at l c (k+n1) m h2 j (by omega)
    refine⟨q,mq,by rw [List.getElem?_cons_succ];exact r1,r2,by omega,by omega,fun i q' m' hi hq hm=>?_⟩
    cases i with
    | zero =>
     rw [List.getElem?_cons_zero] at hq
     have e:=Option.some.inj hq
     have e2:k=q':=by omega
     subst e2
     have:=T.one hm h1
     omega
    | succ i=>rw [List.getElem?_cons_succ] at hq;exact r5 i q' m' (by omega) hq hm
theorem row_in(l:List Nd):∀ (c k n b:Nat),scan c (l.drop k)=some n→k≤b→b<k+n→∃ j q m:Nat,j<c∧(kidsFrom l c k)[j]? = some (q:Int)∧T l q m∧q≤b∧b<q+m
 | 0,k,n,b,h,h0,h1=>by rw [scan_0] at h;simp at h;omega
 | c+1,k,n,b,h,h0,hb=>by
  rw [Nat.add_comm,scan_add] at h
  cases h1:scan 1 (l.drop k) with
  | none=>rw [h1] at h;cases h
  | some n1 =>
   rw [h1] at h
   simp only [Option.bind_some,Option.map_eq_some_iff,List.drop_drop] at h
   obtain⟨m,h2,rfl⟩:=h
   have ek:aend l (k:Int)=((k+n1:Nat):Int):=T.end h1
   rw [kidsFrom,ek]
   by_cases q:b<k+n1
   ·exact⟨0,k,n1,by omega,rfl,h1,h0,q⟩
   ·obtain⟨j,p,mp,r1,r2,r3,r4,r5⟩:=row_in l c (k+n1) m b h2 (by omega) (by omega)
    exact⟨j+1,p,mp,by omega,by rw [List.getElem?_cons_succ];exact r2,r3,r4,r5⟩
theorem kid_at{l:List Nd}{a n:Nat}(h:T l a n){j:Nat}(hj:j<(akids l a).length):∃ q m:Nat,(akids l a)[j]? = some (q:Int)∧T l q m∧a+1≤q∧q+m≤a+n ∧
  (∀ i q' m',i<j→(akids l a)[i]? = some ((q':Nat):Int)→T l q' m'→q'+m'≤q):=by
 obtain⟨x,-,-,e,hs,h1,-⟩:=node_kids h
 rw [e] at hj ⊢
 rw [kids_len] at hj
 obtain⟨q,m,r1,r2,r3,r4,r5⟩:=row_at l _ _ _ hs j hj
 exact⟨q,m,r1,r2,r3,by omega,r5⟩
theorem kid_of{l:List Nd}{a n b:Nat}(h:T l a n)(h0:a<b)(hb:b<a+n):∃ j q m:Nat,j<(akids l a).length∧(akids l a)[j]? = some (q:Int)∧T l q m∧q≤b∧b<q+m:=by
 obtain⟨x,-,-,e,hs,h1,-⟩:=node_kids h
 obtain⟨j,q,m,r1,r2,r3,r4,r5⟩:=row_in l _ _ _ b hs (by omega) (by omega)
 rw [e]
 exact⟨j,q,m,by rw [kids_len];exact r1,r2,r3,r4,r5⟩
def down(l:List Nd):List Int→Int→Int
 | [],a=>a
 | x::p,a=>if x<0∨((akids l a).length:Int)≤x then -1 else down l p ((akids l a).getD x.toNat 0)
theorem down_nil(l:List Nd)(a:Int):down l [] a=a:=rfl
theorem down_no{l:List Nd}{x a:Int}{p:List Int}(h:x<0∨((akids l a).length:Int)≤x):down l (x::p) a = -1:=if_pos h
theorem down_go{l:List Nd}{a:Int}{p:List Int}{j:Nat}{q:Int}(h:(akids l a)[j]? = some q):down l ((j:Int)::p) a=down l p q:=by
 obtain⟨hj,e⟩:=List.getElem?_eq_some_iff.1 h
 rw [down,if_neg (by omega),Int.toNat_natCast,List.getD_eq_getElem?_getD,h]
 rfl
theorem kids_bad{l:List Nd}:akids l (-1)=[]:=kids_neg (by rw [aend_neg (by omega)];omega)
theorem down_bad(l:List Nd):∀ p,down l p (-1) = -1
 | []=>rfl
 | x::p=>by
  rw [down,kids_bad]
  by_cases h:x<0∨(([]:List Int).length:Int)≤x
  ·rw [if_pos h]
  ·simp at h;omega
theorem down_add(l:List Nd):∀ (p r:List Int) (a:Int),down l (p++r) a=down l r (down l p a)
 | [],r,a=>rfl
 | x::p,r,a=>by
  rw [List.cons_append,down,down]
  split
  ·rw [down_bad]
  ·exact down_add l p r _
theorem down_in(l:List Nd):∀ (p:List Int) (a n:Nat),T l a n→0≤down l p a→∃ b m:Nat,down l p a=b∧T l b m∧a≤b∧b+m≤a+n∧(p≠[]→a<b)
 | [],a,n,h,_=>⟨a,n,rfl,h,Nat.le_refl _,Nat.le_refl _,fun q=>absurd rfl q⟩
 | x::p,a,n,h,h0=>by
  by_cases hx:x<0∨((akids l a).length:Int)≤x
  ·rw [down_no hx] at h0;omega
  ·obtain⟨j,rfl⟩:=Int.eq_ofNat_of_zero_le (show 0≤x by omega)
   obtain⟨q,m,r1,r2,r3,r4,-⟩:=kid_at h (j:=j) (by omega)
   rw [down_go r1] at h0 ⊢
   obtain⟨b,mb,s1,s2,s3,s4,-⟩:=down_in l p q m r2 h0
   exact⟨b,mb,s1,s2,by omega,by omega,fun _=>by omega⟩
theorem down_ex(l:List Nd):∀ (n a b:Nat),T l a n→a≤b→b<a+n→∃ p,down l p a=b∧p.length≤b-a:=by
 intro n
 induction n using Nat.strongRecOn with
 | _ n ih =>
  intro a b h h0 hb
  by_cases he:b=a
  ·exact⟨[],by rw [he];rfl,by simp⟩
  ·obtain⟨j,q,m,r1,r2,r3,r4,r5⟩:=kid_of h (b:=b) (by omega) hb
   obtain⟨q',m',t1,t2,t3,t4,-⟩:=kid_at h r1
   rw [r2] at t1
   have e:q=q':=by have:=Option.some.inj t1;omega
   subst e
   have:=T.one r3 t2
   obtain⟨p,hp,hl⟩:=ih m (by omega) q b r3 r4 r5
   exact⟨(j:Int)::p,by rw [down_go r2];exact hp,by rw [List.length_cons];omega⟩
def cmp:List Int→List Int→Int
 | [],[]=>0
 | [],_::_ => -1
 | _::_,[]=>1
 | x::p,y::q=>if x<y then -1 else if y<x then 1 else cmp p q
theorem cmp_self:∀ p,cmp p p=0
 | []=>rfl
 | x::p=>by rw [cmp,if_neg (by omega),if_neg (by omega)];exact cmp_self p
theorem cmp_zero:∀ p q,cmp p q=0→p=q
 | [],[],_=>rfl
 | [],_::_,h=>by simp [cmp] at h
 | _::_,[],h=>by simp [cmp] at h
 | x::p,y::q,h=>by
  rw [cmp] at h
  split at h
  ·cases h
  ·split at h
   ·cases h
   ·rw [cmp_zero p q h,show x=y by omega]
theorem cmp_turn:∀ p q,cmp q p = -cmp p q
 | [],[]=>rfl
 | [],_::_=>rfl
 | _::_,[]=>rfl
 | x::p,y::q=>by
  rw [cmp,cmp]
  by_cases h:x<y
  ·simp [h,show ¬ y<x by omega]
  ·by_cases h2:y<x
   ·simp [h,h2]
   ·simp only [if_neg h,if_neg h2];exact cmp_turn p q
theorem cmp_three(p q:List Int):cmp p q = -1∨cmp p q=0∨cmp p q=1:=by
 induction p generalizing q with
 | nil=>cases q<;>simp [cmp]
 | cons x p ih =>
  cases q with
  | nil=>simp [cmp]
  | cons y q =>
   rw [cmp]
   split
   ·exact .inl rfl
   ·split
    ·exact .inr (.inr rfl)
    ·exact ih q
theorem cmp_trans:∀ p q r,cmp p q≤0→cmp q r≤0→cmp p r≤0
 | [],_,[],_,_=>by simp [cmp]
 | [],_,_::_,_,_=>by simp [cmp]
 | _::_,[],_,h,_=>by simp [cmp] at h
 | _::_,_::_,[],_,h=>by simp [cmp] at h
 | x::p,y::q,z::r,h,k=>by
  rw [cmp] at h k ⊢
  by_cases h1:x<y
  ·by_cases k1:y<z
   ·rw [if_pos (by omega)];omega
   ·by_cases k2:z<y
    ·rw [if_neg k1,if_pos k2] at k;omega
    ·rw [if_pos (by omega)];omega
  ·by_cases h2:y<x
   ·rw [if_neg h1,if_pos h2] at h;omega
   ·rw [if_neg h1,if_neg h2] at h
    by_cases k1:y<z
    ·rw [if_pos (by omega)];omega
    ·by_cases k2:z<y
     ·rw [if_neg k1,if_pos k2] at k;omega
     ·rw [if_neg k1,if_neg k2] at k
      rw [if_neg (by omega),if_neg (by omega)]
      exact cmp_trans p q r h k
theorem down_cmp(l:List Nd):∀ (p q:List Int) (a n b c:Nat),T l a n→down l p a=b→down l q a=c→cmp p q=if b<c then -1 else if c<b then 1 else 0
 | [],[],a,n,b,c,h,hb,hc=>by
  rw [down_nil] at hb hc
  rw [if_neg (by omega),if_neg (by omega)];rfl
 | [],y::q,a,n,b,c,h,hb,hc=>by
  obtain⟨c',m,e,-,-,-,s⟩:=down_in l (y::q) a n h (by omega)
  have:=s (by simp)
  rw [down_nil] at hb
  rw [if_pos (by omega)];rfl
 | x::p,[],a,n,b,c,h,hb,hc=>by
  obtain⟨b',m,e,-,-,-,s⟩:=down_in l (x::p) a n h (by omega)
  have:=s (by simp)
  rw [down_nil] at hc
  rw [if_neg (by omega),if_pos (by omega)];rfl
 | x::p,y::q,a,n,b,c,h,hb,hc=>by
  have gx:¬ (x<0∨((akids l a).length:Int)≤x):=fun z=>by rw [down_no z] at hb;omega
  have gy:¬ (y<0∨((akids l a).length:Int)≤y):=fun z=>by rw [down_no z] at hc;omega
  obtain⟨i,rfl⟩:=Int.eq_ofNat_of_zero_le (show 0≤x by omega)
  obtain⟨j,rfl⟩:=Int.eq_ofNat_of_zero_le (show 0≤y by omega)
  obtain⟨qi,mi,i1,i2,i3,i4,i5⟩:=kid_at h (j:=i) (by omega)
  obtain⟨qj,mj,j1,j2,j3,j4,j5⟩:=kid_at h (j:=j) (by omega)
  rw [down_go i1] at hb
  rw [down_go j1] at hc
  obtain⟨b',_,eb,tb,lb,ub,-⟩:=down_in l p qi mi i2 (by omega)
  obtain⟨c',_,ec,tc,lc,uc,-⟩:=down_in l q qj mj j2 (by omega)
  have pb:=tb.pos
  have pc:=tc.pos
  rw [cmp]
  by_cases h1:i<j
  ·have:=j5 i qi mi h1 i1 i2
   rw [if_pos (by omega),if_pos (by omega)]
  ·by_cases h2:j<i
   ·have:=i5 j qj mj h2 j1 j2
    rw [if_neg (by omega),if_pos (by omega),if_neg (by omega),if_pos (by omega)]
   ·obtain rfl:i=j:=by omega
    rw [i1] at j1
    have e:=Option.some.inj j1
    obtain rfl:qi=qj:=by omega
    rw [if_neg (by omega),if_neg (by omega)]
    exact down_cmp l p q qi mi b c i2 hb hc
theorem down_one{l:List Nd}{p q:List Int}{a n b:Nat}(h:T l a n)(hp:down l p a=b)(hq:down l q a=b):p=q:=by
 have:=down_cmp l p q a n b b h hp hq
 rw [if_neg (by omega),if_neg (by omega)] at this
 exact cmp_zero p q this
theorem down_below{l:List Nd}{p q:List Int}{a n b m c:Nat}(h:T l a n)(hp:down l p a=b)(hq:down l q a=c)(hm:T l b m):(∃ r,q=p++r)↔(b≤c∧c<b+m):=by
 constructor
 ·rintro⟨r,rfl⟩
  rw [down_add,hp] at hq
  obtain⟨c',mc,e,t,s1,s2,-⟩:=down_in l r b m hm (by omega)
  have:=t.pos
  omega
 ·rintro⟨h1,h2⟩
  obtain⟨r,hr,-⟩:=down_ex l m b c hm h1 h2
  exact⟨r,down_one h hq (by rw [down_add,hp];exact hr)⟩
theorem down_len{l:List Nd}{p:List Int}{a n b:Nat}(h:T l a n)(hp:down l p a=b):p.length≤b-a∧a≤b∧b<a+n:=by
 obtain⟨b',m,e,t,s1,s2,-⟩:=down_in l p a n h (by omega)
 have:=t.pos
 obtain rfl:b=b':=by omega
 obtain⟨r,hr,hl⟩:=down_ex l n a b h s1 (by omega)
 rw [down_one h hp hr]
 omega
theorem is_kid{l:List Nd}{n b:Nat}:∀ {a:Nat},T l a n→a<b→b<a+n→∃ i j:Nat,a≤i∧i<b∧(akids l i)[j]? = some (b:Int):=by
 induction n using Nat.strongRecOn with
 | _ n ih =>
  intro a h h0 hb
  obtain⟨j,q,m,r1,r2,r3,r4,r5⟩:=kid_of h h0 hb
  by_cases he:q=b
  ·exact⟨a,j,Nat.le_refl _,h0,by rw [← he];exact r2⟩
  ·obtain⟨q',m',t1,t2,t3,t4,-⟩:=kid_at h r1
   rw [r2] at t1
   have e:q=q':=by have:=Option.some.inj t1;omega
   subst e
   have:=T.one r3 t2
   obtain⟨i,j',s1,s2,s3⟩:=ih m (by omega) r3 (by omega) r5
   exact⟨i,j',by omega,s2,s3⟩
def Whole(l:List Nd):Prop:=aend l 0=l.length
theorem Whole.t{l:List Nd}(h:Whole l):T l 0 l.length:=by
 rcases aend_cases l 0 with q | ⟨k,n,e,hs,he,h1,h2⟩
 ·unfold Whole at h;rw [q] at h;omega
 ·have:k=0:=by omega
  subst this
  unfold Whole at h
  rw [he] at h
  have:n=l.length:=by omega
  subst this
  exact hs
theorem Whole.at{l:List Nd}(h:Whole l){b:Nat}(hb:b<l.length):∃ m,T l b m:=by
 obtain⟨p,hp,-⟩:=down_ex l l.length 0 b h.t (by omega) (by omega)
 obtain⟨b',m,e,t,-⟩:=down_in l p 0 l.length h.t (by rw [show((0:Nat):Int)=0 from rfl] at *;omega)
 have:b=b':=by omega
 subst this
 exact⟨m,t⟩
def pfind(l:List Nd)(p:List Int):Int:=if aend l 0=l.length then down l p 0 else -1
def Leads(l:List Nd)(at_:Int)(p:List Int):Prop:=Whole l∧0≤at_∧down l p 0=at_
theorem Leads.one{l:List Nd}{b:Int}{p q:List Int}(h:Leads l b p)(k:Leads l b q):p=q:=by
 obtain⟨hw,h0,hp⟩:=h
 obtain⟨c,rfl⟩:=Int.eq_ofNat_of_zero_le h0
 exact down_one hw.t hp k.2.2
theorem Leads.rng{l:List Nd}{b:Int}{p:List Int}(h:Leads l b p):b<l.length∧p.length≤l.length:=by
 obtain⟨hw,h0,hp⟩:=h
 obtain⟨c,rfl⟩:=Int.eq_ofNat_of_zero_le h0
 have:=down_len hw.t hp
 omega
theorem leads_ex{l:List Nd}(hw:Whole l){b:Int}(h0:0≤b)(hb:b<l.length):∃ p,Leads l b p:=by
 obtain⟨c,rfl⟩:=Int.eq_ofNat_of_zero_le h0
 obtain⟨p,hp,-⟩:=down_ex l l.length 0 c hw.t (by omega) (by omega)
 exact⟨p,hw,h0,hp⟩
end Go.Proofs.YtekogckmgkodfaaGreatDoor.Path
namespace Go.Proofs.YtekogckmgkodfaaGreatDoor.Path
open Go.RowKit Mem Arena
attribute [local go_sem ↓] Go.wp_at_zero Go.wp_at_succ
def PathEnds(l:List Nd)(b:Int)(w:World)(e:Ending)(w':World):Prop :=
  Below w.heap.size w w' ∧
  ((∃ p A c, Leads l b p ∧ e = .returned (.tuple #[.slice A p.length c, .bool true]) ∧ p.length ≤ c ∧ (A = none → c = 0) ∧ IRow w' w'.heap.size A p) ∨
   ((¬ ∃ p,Leads l b p)∧∃ A c,e=.returned (.tuple #[.slice A 0 c,.bool false])))
def PathEndsF(l:List Nd)(b:Int)(w:World)(e:Ending)(w':World):Prop :=
  Below w.heap.size w w' ∧
  ((∃ p A c, Leads l b p ∧ e = .returned (.tuple #[.slice A p.length c, .bool true]) ∧ p.length ≤ c ∧ (A = none → c = 0) ∧ IRow w' w'.heap.size A p ∧ ∀ ad, A = some ad → w.heap.size ≤ ad.block) ∨
   ((¬ ∃ p,Leads l b p)∧∃ A c,e=.returned (.tuple #[.slice A 0 c,.bool false])))
theorem PathEndsF.end{l:List Nd}{b:Int}{w w':World}{e:Ending}(h:PathEndsF l b w e w'):PathEnds l b w e w':=by
 obtain⟨hb,⟨p,A,c,h1,h2,h3,h4,h5,-⟩ | h⟩:=h
 ·exact⟨hb,.inl ⟨p,A,c,h1,h2,h3,h4,h5⟩⟩
 ·exact⟨hb,.inr h⟩
theorem PathEndsF.ok{l:List Nd}{b:Int}{w w':World}{e:Ending}(h:PathEndsF l b w e w'){p:List Int}(hp:Leads l b p):Below w.heap.size w w'∧∃ A c,e=.returned (.tuple #[.slice A p.length c,.bool true])∧p.length≤c∧(A=none→c=0)∧IRow w' w'.heap.size A p∧∀ ad,A=some ad→w.heap.size≤ad.block:=by
 obtain⟨hb,⟨q,A,c,hq,r⟩ | ⟨hn,-⟩⟩:=h
 ·obtain rfl:=hp.one hq
  exact⟨hb,A,c,r⟩
 ·exact absurd ⟨p,hp⟩ hn
theorem PathEnds.ok{l:List Nd}{b:Int}{w w':World}{e:Ending}(h:PathEnds l b w e w'){p:List Int}(hp:Leads l b p):Below w.heap.size w w'∧∃ A c,e=.returned (.tuple #[.slice A p.length c,.bool true])∧p.length≤c∧(A=none→c=0)∧IRow w' w'.heap.size A p:=by
 obtain⟨hb,⟨q,A,c,hq,r⟩ | ⟨hn,-⟩⟩:=h
 ·obtain rfl:=hp.one hq
  exact⟨hb,A,c,r⟩
 ·exact absurd ⟨p,hp⟩ hn
theorem PathEnds.no{l:List Nd}{b:Int}{w w':World}{e:Ending}(h:PathEnds l b w e w')(hn:¬ ∃ p,Leads l b p):Below w.heap.size w w'∧∃ A c,e=.returned (.tuple #[.slice A 0 c,.bool false]):=by
 obtain⟨hb,⟨q,A,c,hq,-⟩ | ⟨-,r⟩⟩:=h
 ·exact absurd ⟨q,hq⟩ hn
 ·exact⟨hb,r⟩
theorem not_whole{l:List Nd}(h:¬ Whole l)(b:Int):¬ ∃ p,Leads l b p:=fun⟨_,hp⟩=>h hp.1
theorem not_in{l:List Nd}{b:Int}(h:b<0∨(l.length:Int)≤b):¬ ∃ p,Leads l b p:=fun⟨_,hp⟩=>by
 have:=hp.rng
 have:=hp.2.1
 omega
theorem irow_cells{w:World}{B:Nat}{ad:Addr}{ks:List Int}(h:IRow w B (some ad) ks):∀ j u,(icells ks)[j]? = some u→w.cell? (ad.add j)=some u:=by
 intro j u hu
 unfold icells at hu
 rw [List.getElem?_map] at hu
 cases hk:ks[j]? with
 | none=>rw [hk] at hu;cases hu
 | some x =>
  rw [hk] at hu
  obtain⟨ad',e,-,h3⟩:=h j x hk
  cases e
  simp at hu
  rw [← hu];exact h3
theorem irow_empty{w:World}{B:Nat}{ks:List Int}(h:IRow w B none ks):ks=[]:=by
 cases ks with
 | nil=>rfl
 | cons x l=>obtain⟨ad,e,-⟩:=h 0 x rfl;cases e
theorem icells_add(xs ys:List Int):icells (xs++ys)=icells xs++icells ys:=by simp [icells]
theorem icells_length(xs:List Int):(icells xs).length=xs.length:=by simp [icells]
theorem append_ints{w:World}{ops:Array Oper}{rest:List Oper}{o:Oper}{a:Act}{Q:Exit→Act→World→Prop}(hgd:o.guard=none)(s x:Operand)
  (ho:o.op=.call { callee:=.builtin .append,args:=#[s,x],argTypes:=#[22,22] })
  (base:Nat) (hbase:base≤w.heap.size) (v:Value) (ys:List Int) (hs:a.eval s=v) (hown:w.ownsRow base 3 1 v ys.length (icells ys))
  (B:Nat) (A:Option Addr) (c:Nat) (ks:List Int) (n:Nat) (hn:ks.length=n) (hx:a.eval x=.slice A n c) (hA:A=none→c=0) (hN:IRow w B A ks) (hlen:ys.length+ks.length≤100000000)
  (h:∀ v' w',w'.ownsRow base 3 1 v' (ys++ks).length (icells (ys++ks))→w.grownBy w' v.ownBlock→(v'.ownBlock=v.ownBlock∨v'.ownBlock=some w.heap.size)→wpList Tryz.prog ops Q rest (a.put o.dst v') w') :
  wpList Tryz.prog ops Q (o::rest) a w:=by
 subst hn
 obtain⟨ig,hig,hz0,hz1,hz2⟩:=info_parts info_int
 cases A with
 | none =>
  obtain rfl:=irow_empty hN
  obtain rfl:=hA rfl
  refine wpList_append_own_none hgd s x 22 ho base 3 ig 1 Tryz.underlying22 hig v ys.length (icells ys) hs hown hx ?_
  refine h v w ?_ ⟨rfl,rfl,rfl,Nat.le_refl _,fun _ _ _=>rfl⟩ (.inl rfl)
  rw [List.append_nil];exact hown
 | some ad =>
  refine wpList_append_own_at _ hgd s x 22 ho base 3 ig _ 1 8 Tryz.underlying22 hig hz0 hz1 hz2 rfl (by decide) v ys.length (icells ys) hs hown ad ks.length c (icells ks) hx (by rw [icells_length,Nat.mul_one]) (irow_cells hN) ?_ (by simp only [maxLen];omega) (by omega) hbase ?_
  ·intro u hu
   unfold icells at hu
   obtain⟨x,-,rfl⟩:=List.mem_map.1 hu
   rfl
  ·intro v' w' hown' hg _ hat
   refine h v' w' ?_ hg hat
   rw [List.length_append,icells_add];exact hown'
theorem cmp_take:∀ (p q:List Int) (k:Nat),p.take k=q.take k→k≤p.length→k≤q.length→cmp p q=cmp (p.drop k) (q.drop k)
 | p,q,0,_,_,_=>by rw [List.drop_zero,List.drop_zero]
 | [],_,k+1,_,h,_=>absurd h (by simp)
 | _::_,[],k+1,_,_,h=>absurd h (by simp)
 | x::p,y::q,k+1,h,h1,h2=>by
  rw [List.take_succ_cons,List.take_succ_cons,List.cons.injEq] at h
  obtain⟨rfl,h⟩:=h
  rw [List.drop_succ_cons,List.drop_succ_cons,cmp,if_neg (by omega),if_neg (by omega)]
  simp only [List.length_cons] at h1 h2
  exact cmp_take p q k h (by omega) (by omega)
theorem kids_in_len(l:List Nd)(a:Int):(akids l a).length≤1000000:=by
 unfold akids
 split
 ·simp
 ·rw [kids_len]
  have:=(ar_le (l.getD a.toNat (0,0))).2
  omega
theorem drop_at{xs:List Int}{k:Nat}{x:Int}(h:xs[k]? = some x):xs.drop k=x::xs.drop (k+1):=by
 obtain⟨hk,e⟩:=List.getElem?_eq_some_iff.1 h
 rw [List.drop_eq_getElem_cons hk,e]
def UpEnds(l:List Nd)(b:Int)(w:World)(e:Ending)(w':World):Prop :=
 Below w.heap.size w w'∧∃ i j:Nat,(i:Int)<b∧(akids l i)[j]? = some b∧e=.returned (.tuple #[.int .i64 i,.int .i64 j])
theorem own_ints2'{w:World}{base:Nat}{v:Value}{ks:List Int}(h:w.ownsRow base 3 1 v ks.length (icells ks)) :
  ∃ A c,v=.slice A ks.length c∧ks.length≤c∧(A=none→c=0)∧IRow w w.heap.size A ks∧∀ ad,A=some ad→base≤ad.block:=by
 have hc:=fun g hg=>h.cells (g:=g) hg
 rcases h.2 with⟨rfl,h0⟩ | ⟨g,cap,cur,rfl,hbg,hg,hn,-⟩
 ·obtain rfl:=List.length_eq_zero_iff.1 h0
  exact⟨none,0,rfl,Nat.le_refl _,fun _=>rfl,fun i x h=>by simp at h,fun ad e=>by cases e⟩
 ·refine⟨_,_,rfl,hn,(fun e=>by cases e),fun i x hx=>⟨_,rfl,(Array.getElem?_eq_some_iff.1 hg).1,?_⟩,fun ad e=>by cases e;exact hbg⟩
  exact hc g rfl _ _ (by unfold icells;rw [List.getElem?_map,hx];rfl)
theorem leads_0{l:List Nd}(hw:Whole l):Leads l 0 []:=⟨hw,by omega,rfl⟩
theorem leads_kid{l:List Nd}{i:Int}{j:Nat}{b:Int}{p:List Int}(h:Leads l i p)(hj:(akids l i)[j]? = some b)(h0:0≤b):Leads l b (p++[(j:Int)]):=by
 obtain⟨hw,-,hp⟩:=h
 refine⟨hw,h0,?_⟩
 rw [down_add,hp,down_go hj]
 rfl
def E4:List Nd:=[(7,0),(1,1),(5,0),(1,2)]
theorem sc0:scan 1 (E4.drop 0)=some 4:=by simp [E4,scan_cons,scan_0,ar,asks]
theorem sc1:scan 1 (E4.drop 1)=some 1:=by simp [E4,scan_cons,scan_0,ar]
theorem sc2:scan 1 (E4.drop 2)=some 2:=by simp [E4,scan_cons,scan_0,ar,asks]
theorem en0:aend E4 0=4:=aend_some (a:=0) sc0
theorem en1:aend E4 1=2:=aend_some (a:=1) sc1
theorem en2:aend E4 2=4:=aend_some (a:=2) sc2
theorem ki0:akids E4 0=[1,2]:=by
 unfold akids
 rw [if_neg (by rw [en0];omega),show(ar (E4.getD (0:Int).toNat (0,0))).toNat=2 from by simp [E4,ar,asks],kidsFrom,kidsFrom,kidsFrom,show(0:Int)+1=1 from rfl,en1]
theorem ki2:akids E4 2=[3]:=by
 unfold akids
 rw [if_neg (by rw [en2];omega),show(ar (E4.getD (2:Int).toNat (0,0))).toNat=1 from by simp [E4,ar,asks],kidsFrom,kidsFrom]
 rfl
theorem whole4:Whole E4:=en0
theorem down4:down E4 [1,0] 0=3:=by
 rw [show([1,0]:List Int)=((1:Nat):Int)::[((0:Nat):Int)] from rfl,down_go (q:=2) (by rw [ki0];rfl),down_go (q:=3) (by rw [ki2];rfl)]
 rfl
theorem leads4:Leads E4 3 [1,0]:=⟨whole4,by omega,down4⟩
theorem none4:¬ ∃ p,Leads E4 4 p:=not_in (.inr (by decide))
theorem find4a:pfind E4 [1,0]=3:=by unfold pfind;rw [if_pos (show aend E4 0=E4.length from whole4),down4]
theorem find4b:pfind E4 []=0:=by unfold pfind;rw [if_pos (show aend E4 0=E4.length from whole4)];rfl
theorem find4c:pfind E4 [2] = -1:=by unfold pfind;rw [if_pos (show aend E4 0=E4.length from whole4),down_no (by rw [ki0];simp)]
theorem row_nil(w:World)(B:Nat):IRow w B none []:=fun i x h=>by simp at h
end Go.Proofs.YtekogckmgkodfaaGreatDoor.Path
namespace Go.Proofs.YtekogckmgkodfaaGreatDoor.Path
open Go.RowKit Mem Go.ChangeShapes Go.WideShapes Go.Deep Go.Joins Arena
section
variable {H:Type} {enc:TypeId×Value→H} {W:World} {spare:Nat→Bool} {held:Bool}
theorem ints_of{n:Nat}{cs:List Value}{x:DataW H×List MemPlace}(hf:DataW.trod enc Tryz.prog W 0 spare held n 22 cs=some x) :
  ∃ (A:Option Addr) (cap:Nat) (ks:List Int),cs=[.slice A ks.length cap]∧ks.length≤maxLen∧ks.length≤cap∧(A=none→cap=0)∧IRow W W.heap.size A ks:=by
 have hC:Tryz.prog.cellsOf 3=1:=by kernel_rfl
 rcases open_slice1 Tryz.underlying22 hC hf with⟨rfl,-⟩ | ⟨a,len,cap,m,n,V,D,Pl,rfl,-,hlc,hcm,hm,hx,hi⟩
 ·exact⟨none,0,[],rfl,by simp,by simp,fun _=>rfl,fun i x h=>by simp at h⟩
 ·have hlm:len≤m:=by rw [hm];split<;>omega
  have each:∀ i,i<len→∃ y:Int,W.cell? (a.add i)=some (.int .i64 y):=by
   intro i hil
   obtain⟨hc,ht⟩:=hi i (by omega)
   obtain⟨k,e0,-,-⟩:=DataW.trod_int Tryz.underlying3 ht
   simp at e0
   exact⟨k,by rw [hc,e0]⟩
  obtain⟨F,hF⟩:=choose_lt each
  refine⟨some a,cap,(List.range len).map F,by simp,by simp;omega,by simpa using hlc,(fun e=>by cases e),fun i x hxi=>?_⟩
  obtain⟨hil,rfl⟩:i<len∧F i=x:=by
   rw [List.getElem?_map] at hxi
   have h1:(List.range len)[i]? = some i:=by
    rcases Nat.lt_or_ge i len with h | h
    ·rw [List.getElem?_range h]
    ·rw [List.getElem?_eq_none (by simpa using h)] at hxi;cases hxi
   rw [h1] at hxi
   have h2:=(List.getElem?_eq_some_iff.1 h1).1
   exact⟨by simpa using h2,by simpa using hxi⟩
  have q0:=hF i hil
  exact⟨a,rfl,by have:=World.block_lt_of_cell? W _ q0;rw [add_blockN] at this;exact this,q0⟩
theorem open_ints{b0:Nat}{v:Value}{d:DataW H}{p:List MemPlace}(hv:Value.okWide Tryz.prog W .any b0 22 v)(h:DataW.Trod enc Tryz.prog W 0 spare held 22 v d p) :
  ∃ (A:Option Addr) (cap:Nat) (xs:List Int),v=.slice A xs.length cap∧xs.length≤maxLen∧xs.length≤cap∧(A=none→cap=0)∧IRow W W.heap.size A xs:=by
 obtain⟨A,len,cap,rfl⟩:=okWide_slice Tryz.underlying22 hv
 obtain⟨fuel,hf⟩:=h
 obtain⟨A',cap',ks,e,r1,r2,r3,r4⟩:=ints_of hf
 simp [Value.cells] at e
 obtain⟨rfl,rfl,rfl⟩:=e
 exact⟨_,_,ks,rfl,r1,r2,r3,r4⟩
end
end Go.Proofs.YtekogckmgkodfaaGreatDoor.Path
