/-
  Plain facts on nodes that stand one behind the other: ends, kids, depths, parts, what is replaced. No program is met here.
  The reference of arenas, walked: how many kids a node has.
  The reference of arenas, walked: a node's end.
  The reference of arenas, walked: a node's kids.
  Package arena, walked: how many kids a node has.
  A scope in which the run jumps back to one label, within a fence (as the library's law for the plain walk).
  Package arena, walked: a node and all below it, told place by place to a loop's body (an iterator of two values, by a goto).
  Package arena, walked: a node's end, by a range over the iterator.
-/
import Derived.WalkKit
import Derived.Test.YtekogckmgkodfaaGreatDoorBaseG
import Derived.Deep.Slices
import Derived.Maps.AppendAt
import Derived.RangeFuncBox
import Derived.Deep.AppendLies
import Derived.ScopeJumps
import Derived.ControlIn
import Derived.RangeFuncNested
import Derived.RangeFuncCalls
import Derived.RangeFuncBound
import Derived.RangeFuncLeaves
import Derived.Shelf.Abstract
import Derived.Shelf.RegionOpen
import Derived.OwnWalkIn
import Derived.TacticsInMore
import Derived.LoopNIn
import Derived.LoopIn
import Derived.Laws.EntriesVeiled
set_option maxRecDepth 100000
set_option maxHeartbeats 2000000
namespace Go.Proofs.YtekogckmgkodfaaGreatDoor
theorem zArenaG0{P:Prop}(h:P:=by
  rw [hE]
  clear hE
  go_enter Tryz.func49,Tryz.ntmps49
  go_wp2_with (go_at_call 88;(with_reducible refine(upTo_any _ _ _ _ _).mono ?_);rintro e w2 ⟨rfl,hb2⟩)
  go_ret
  exact⟨rfl,hB0.trans (hb2.mono hB0.size)⟩):P:=h
theorem zArenaG1{P:Prop}(h:P:=by
  gi_wp2
  simp only [Exit.jump]
  refine bodyPost_ret (results_none rfl _ _ _) rfl ?_
  exact⟨⟨_,rfl⟩,.inl ⟨_,hE.out.symm,hJp⟩⟩):P:=h
theorem zArenaG2{P:Prop}(h:P:=by
  rw [dep,dep]
  rcases aend_cases l a with h | ⟨k,n,rfl,-,-,h1,h2⟩
  ·rw [if_pos (by omega)]
  ·omega):P:=h
end Go.Proofs.YtekogckmgkodfaaGreatDoor
namespace Go.Proofs.YtekogckmgkodfaaGreatDoor.Arena
abbrev Nd:=Int×Int
def asks(t n:Int):Int×Int :=
 if t=2 then(0,1) else if t=3 then(0,11) else if t=4∨t=21 then(1,11) else if t=22 then(2,11)
 else if t=5∨t=6∨t=25 then(1,0) else if 7≤t∧t≤19∨t=24 then(2,0) else if t=20 then(n,200)
 else if t=23 then(3,0) else if t=26 then(0,0) else(-1,0)
def ar(x:Nd):Int:=if x.1=1 then 0 else if x.2<0∨(asks x.1 x.2).2<x.2 then -1 else(asks x.1 x.2).1
theorem ar_le(x:Nd) : -1≤ar x∧ar x≤200:=by
 unfold ar asks
 repeat' split
 all_goals first | omega | (simp only at *;omega)
def scan:Nat→List Nd→Option Nat
 | 0,_=>some 0
 | _+1,[]=>none
 | c+1,x::l=>if ar x<0 then none else(scan (c+(ar x).toNat) l).map (· + 1)
termination_by c l=>(l.length,c)
theorem scan_0(l:List Nd):scan 0 l=some 0:=by unfold scan;rfl
theorem scan_nil(c:Nat):scan (c+1) []=none:=by unfold scan;rfl
theorem scan_cons(c:Nat)(x:Nd)(l:List Nd):scan (c+1) (x::l)=if ar x<0 then none else(scan (c+(ar x).toNat) l).map (· + 1):=by
 conv=>lhs;unfold scan
theorem scan_bad{c:Nat}{x:Nd}{l:List Nd}(h:ar x<0):scan (c+1) (x::l)=none:=by rw [scan_cons,if_pos h]
theorem scan_good{c:Nat}{x:Nd}{l:List Nd}(h:0≤ar x):scan (c+1) (x::l)=(scan (c+(ar x).toNat) l).map (· + 1):=by rw [scan_cons,if_neg (by omega)]
theorem scan_le:∀ (l:List Nd) (c n:Nat),scan c l=some n→c≤n∧n≤l.length
 | [],0,n,h=>by rw [scan_0] at h;simp at h;omega
 | [],c+1,n,h=>by rw [scan_nil] at h;cases h
 | x::l,0,n,h=>by rw [scan_0] at h;simp at h;omega
 | x::l,c+1,n,h=>by
  by_cases hx:ar x<0
  ·rw [scan_bad hx] at h;cases h
  ·rw [scan_good (by omega),Option.map_eq_some_iff] at h
   obtain⟨m,h,rfl⟩:=h
   have:=scan_le l _ _ h
   rw [List.length_cons]
   omega
theorem scan_add:∀ (l:List Nd) (a b:Nat),scan (a+b) l=(scan a l).bind fun n=>(scan b (l.drop n)).map (n+·)
 | l,0,b=>by rw [scan_0,Nat.zero_add];simp
 | [],a+1,b=>by rw [show a+1+b=(a+b)+1 by omega,scan_nil,scan_nil];rfl
 | x::l,a+1,b=>by
  rw [show a+1+b=(a+b)+1 by omega]
  by_cases hx:ar x<0
  ·rw [scan_bad hx,scan_bad hx];rfl
  ·rw [scan_good (by omega),scan_good (by omega),show a+b+(ar x).toNat=(a+(ar x).toNat)+b by omega,scan_add l (a+(ar x).toNat) b]
   cases scan (a+(ar x).toNat) l with
   | none=>rfl
   | some n =>
    simp only [Option.bind_some,Option.map_some,List.drop_succ_cons]
    cases scan b (l.drop n) with
    | none=>rfl
    | some m=>simp only [Option.map_some];congr 1;omega
theorem scan_prefix:∀ (l:List Nd) (c n:Nat) (m:List Nd),scan c l=some n→scan c (l.take n++m)=some n
 | l,0,n,m,h=>by rw [scan_0] at h ⊢;exact h
 | [],c+1,n,m,h=>by rw [scan_nil] at h;cases h
 | x::l,c+1,n,m,h=>by
  by_cases hx:ar x<0
  ·rw [scan_bad hx] at h;cases h
  ·rw [scan_good (by omega),Option.map_eq_some_iff] at h
   obtain⟨k,h,rfl⟩:=h
   rw [List.take_succ_cons,List.cons_append,scan_good (by omega),scan_prefix l _ k m h]
   rfl
def aend(l:List Nd)(a:Int):Int:=if a<0 then -1 else match scan 1 (l.drop a.toNat) with | none => -1 | some n=>a+n
theorem aend_neg{l:List Nd}{a:Int}(h:a<0):aend l a = -1:=if_pos h
theorem aend_some{l:List Nd}{a n:Nat}(h:scan 1 (l.drop a)=some n):aend l a=(a:Int)+n:=by
 unfold aend;rw [if_neg (by omega),Int.toNat_natCast,h]
theorem aend_none{l:List Nd}{a:Nat}(h:scan 1 (l.drop a)=none):aend l a = -1:=by
 unfold aend;rw [if_neg (by omega),Int.toNat_natCast,h]
theorem aend_cases(l:List Nd)(a:Int):aend l a = -1∨∃ (k n:Nat),a=k∧scan 1 (l.drop k)=some n∧aend l a=(k:Int)+n∧1≤n∧k+n≤l.length:=by
 by_cases h:a<0
 ·exact .inl (aend_neg h)
 ·obtain⟨k,rfl⟩:=Int.eq_ofNat_of_zero_le (show 0≤a by omega)
  cases hs:scan 1 (l.drop k) with
  | none=>exact .inl (aend_none hs)
  | some n =>
   have:=scan_le _ _ _ hs
   rw [List.length_drop] at this
   exact .inr ⟨k,n,rfl,hs,aend_some hs,this.1,by omega⟩
def kidsFrom(l:List Nd):Nat→Int→List Int
 | 0,_=>[]
 | c+1,k=>k::kidsFrom l c (aend l k)
def akids(l:List Nd)(a:Int):List Int:=if aend l a<0 then [] else kidsFrom l (ar (l.getD a.toNat (0,0))).toNat (a+1)
theorem kids_len(l:List Nd):∀ (c:Nat) (k:Int),(kidsFrom l c k).length=c
 | 0,_=>rfl
 | c+1,k=>by rw [kidsFrom,List.length_cons,kids_len l c]
def apart(l:List Nd)(a:Int):List Nd:=if aend l a<0 then [] else(l.drop a.toNat).take ((aend l a).toNat-a.toNat)
def arep(l:List Nd)(a:Int)(m:List Nd):List Nd:=if aend l a<0 then l else l.take a.toNat++m++l.drop (aend l a).toNat
theorem kids_row(l:List Nd):∀ (c k n:Nat),scan c (l.drop k)=some n →
  (∀ q∈kidsFrom l c k,0≤q∧(k:Int)≤q∧q<(k:Int)+n∧0≤aend l q)∧(l.drop k).take n=(kidsFrom l c k).flatMap (apart l)
 | 0,k,n,h=>by rw [scan_0] at h;simp at h;subst h;simp [kidsFrom]
 | c+1,k,n,h=>by
  rw [Nat.add_comm,scan_add] at h
  cases h1:scan 1 (l.drop k) with
  | none=>rw [h1] at h;cases h
  | some n1 =>
   rw [h1] at h
   simp only [Option.bind_some,Option.map_eq_some_iff,List.drop_drop] at h
   obtain⟨m,h2,rfl⟩:=h
   have e:=aend_some h1
   have hl:=scan_le _ _ _ h1
   obtain⟨r1,r2⟩:=kids_row l c (k+n1) m h2
   have ek:aend l (k:Int)=((k+n1:Nat):Int):=by rw [e];omega
   rw [kidsFrom,ek]
   constructor
   ·intro q hq
    rcases List.mem_cons.1 hq with rfl | hq
    ·refine⟨by omega,by omega,by omega,by rw [ek];omega⟩
    ·obtain⟨s0,s1,s2,s3⟩:=r1 q hq
     exact⟨s0,by omega,by omega,s3⟩
   ·rw [List.flatMap_cons,← r2]
    unfold apart
    rw [if_neg (by rw [ek];omega),ek,Int.toNat_natCast,Int.toNat_natCast,Nat.add_sub_cancel_left]
    rw [← List.drop_drop,List.take_add]
theorem node_kids{l:List Nd}{k n:Nat}(h:scan 1 (l.drop k)=some n) :
  ∃ x,l[k]? = some x∧0≤ar x∧akids l k=kidsFrom l (ar x).toNat ((k+1:Nat):Int)∧scan (ar x).toNat (l.drop (k+1))=some (n-1)∧1≤n∧k+n≤l.length:=by
 have hl:=scan_le _ _ _ h
 rw [List.length_drop] at hl
 have hk:k<l.length:=by omega
 have hd:l.drop k=l[k]::l.drop (k+1):=List.drop_eq_getElem_cons hk
 have hx:0≤ar l[k]:=by
  rcases Int.lt_or_le (ar l[k]) 0 with q | q
  ·rw [hd,show(1:Nat)=0+1 from rfl,scan_bad q] at h;cases h
  ·exact q
 have e:=aend_some h
 rw [hd,show(1:Nat)=0+1 from rfl,scan_good hx,Option.map_eq_some_iff,Nat.zero_add] at h
 obtain⟨m,h,rfl⟩:=h
 refine⟨l[k],List.getElem?_eq_getElem hk,hx,?_,by rw [h];simp,by omega,by omega⟩
 unfold akids
 rw [if_neg (by rw [e];omega),Int.toNat_natCast,List.getD_eq_getElem?_getD,List.getElem?_eq_getElem hk]
 rfl
theorem kids_in{l:List Nd}{k n:Nat}(h:scan 1 (l.drop k)=some n):∀ q∈akids l k,(k:Int)<q∧q<(k:Int)+n∧0≤aend l q:=by
 obtain⟨x,-,-,e,hs,h1,-⟩:=node_kids h
 intro q hq
 rw [e] at hq
 obtain⟨s0,s1,s2,s3⟩:=(kids_row l _ _ _ hs).1 q hq
 exact⟨by omega,by omega,s3⟩
theorem kids_neg{l:List Nd}{a:Int}(h:aend l a<0):akids l a=[]:=if_pos h
theorem part_kids{l:List Nd}{k n:Nat}(h:scan 1 (l.drop k)=some n):∃ x,l[k]? = some x∧(akids l k).length=(ar x).toNat∧0≤ar x∧apart l k=x::(akids l k).flatMap (apart l):=by
 obtain⟨x,hx,h0,e,hs,h1,h2⟩:=node_kids h
 refine⟨x,hx,by rw [e,kids_len],h0,?_⟩
 have hr:=(kids_row l _ _ _ hs).2
 obtain⟨hk,rfl⟩:=List.getElem?_eq_some_iff.1 hx
 rw [e,← hr]
 unfold apart
 rw [if_neg (by rw [aend_some h];omega),aend_some h,Int.toNat_natCast,show((k:Int)+n).toNat-k=n by omega,List.drop_eq_getElem_cons hk]
 obtain⟨j,rfl⟩:∃ j,n=j+1:=⟨n-1,by omega⟩
 rw [List.take_succ_cons,Nat.add_sub_cancel]
theorem part_len{l:List Nd}{k n:Nat}(h:scan 1 (l.drop k)=some n):(apart l k).length=n:=by
 have hl:=scan_le _ _ _ h
 unfold apart
 rw [if_neg (by rw [aend_some h];omega),aend_some h,Int.toNat_natCast,show((k:Int)+n).toNat-k=n by omega,List.length_take,List.length_drop]
 rw [List.length_drop] at hl
 omega
theorem part_scan{l:List Nd}{k n:Nat}(h:scan 1 (l.drop k)=some n):scan 1 (apart l k)=some n:=by
 have:=scan_prefix _ _ _ [] h
 rw [List.append_nil] at this
 unfold apart
 rw [if_neg (by rw [aend_some h];omega),aend_some h,Int.toNat_natCast,show((k:Int)+n).toNat-k=n by omega]
 exact this
def most(l:List Nat):Nat:=l.foldr max 0
theorem most_le{l:List Nat}{x:Nat}(h:x∈l):x≤most l:=by
 induction l with
 | nil=>cases h
 | cons y l ih =>
  show x≤max y (most l)
  rcases List.mem_cons.1 h with rfl | h
  ·omega
  ·have:=ih h;omega
def dep:Nat→List Nd→Int→Nat
 | 0,_,_=>0
 | f+1,l,a=>if aend l a<0 then 0 else most ((akids l a).map (dep f l))+1
theorem dep_fuel(l:List Nd):∀ (f g:Nat) (a:Int),(l.length:Int)-a≤f→(l.length:Int)-a≤g→dep f l a=dep g l a
 | 0,0,_,_,_=>rfl
 | 0,g+1,a,hf,_=>by
  exact zArenaG2
 | f+1,0,a,_,hg=>by
  exact zArenaG2
 | f+1,g+1,a,hf,hg=>by
  rw [dep,dep]
  rcases aend_cases l a with h | ⟨k,n,rfl,hs,he,h1,h2⟩
  ·rw [if_pos (by omega),if_pos (by omega)]
  ·rw [if_neg (by omega),if_neg (by omega)]
   congr 2
   apply List.map_congr_left
   intro q hq
   have:=kids_in hs q hq
   exact dep_fuel l f g q (by omega) (by omega)
def adep(l:List Nd)(a:Int):Nat:=dep (l.length+1) l a
theorem dep_ge{l:List Nd}{f:Nat}{a:Int}(h0:0≤a)(h:(l.length:Int)-a≤f):dep f l a=adep l a:=dep_fuel l f _ a h (by omega)
theorem adep_bad{l:List Nd}{a:Int}(h:aend l a<0):adep l a=0:=by unfold adep;rw [dep,if_pos h]
theorem adep_good{l:List Nd}{k n:Nat}(h:scan 1 (l.drop k)=some n):adep l k=most ((akids l k).map (adep l))+1:=by
 have he:=aend_some h
 unfold adep
 rw [dep,if_neg (by omega)]
 congr 2
 apply List.map_congr_left
 intro q hq
 have:=kids_in h q hq
 exact dep_fuel l _ _ q (by omega) (by omega)
theorem adep_kid{l:List Nd}{k n:Nat}(h:scan 1 (l.drop k)=some n){q:Int}(hq:q∈akids l k):adep l q<adep l k:=by
 rw [adep_good h]
 have:=most_le (List.mem_map.2 ⟨q,hq,rfl⟩:adep l q∈(akids l k).map (adep l))
 omega
theorem scan_swap{P M:List Nd}(hP:scan 1 P=some P.length)(hM:scan 1 M=some M.length)(Z:List Nd):∀ (X:List Nd) (c N:Nat),scan c (X++(P++Z))=some N→X.length<N →
  P.length+X.length≤N∧scan c (X++(M++Z))=some (N-P.length+M.length)
 | X,0,N,h,hN=>by rw [scan_0] at h;simp at h;omega
 | [],c+1,N,h,_=>by
  rw [List.nil_append,Nat.add_comm,scan_add] at h
  have e1:=scan_prefix P 1 _ Z hP
  rw [List.take_length] at e1
  rw [e1] at h
  simp only [Option.bind_some,List.drop_left,Option.map_eq_some_iff] at h
  obtain⟨m,h,rfl⟩:=h
  have e2:=scan_prefix M 1 _ Z hM
  rw [List.take_length] at e2
  refine⟨by simp,?_⟩
  rw [List.nil_append,Nat.add_comm,scan_add,e2]
  simp only [Option.bind_some,List.drop_left,h,Option.map_some]
  congr 1
  omega
 | x::X,c+1,N,h,hN=>by
  rw [List.cons_append] at h ⊢
  by_cases hx:ar x<0
  ·rw [scan_bad hx] at h;cases h
  ·rw [scan_good (by omega),Option.map_eq_some_iff] at h
   obtain⟨m,h,rfl⟩:=h
   obtain⟨i1,i2⟩:=scan_swap hP hM Z X _ _ h (by rw [List.length_cons] at hN;omega)
   rw [scan_good (by omega),i2]
   rw [List.length_cons]
   refine⟨by omega,?_⟩
   rw [Option.map_some]
   congr 1
   omega
theorem split3{l:List Nd}{k n:Nat}(h:scan 1 (l.drop k)=some n):l=l.take k++(apart l k++l.drop (k+n))∧(l.take k).length=k:=by
 have hl:=scan_le _ _ _ h
 rw [List.length_drop] at hl
 constructor
 ·unfold apart
  rw [if_neg (by rw [aend_some h];omega),aend_some h,Int.toNat_natCast,show((k:Int)+n).toNat-k=n by omega,← List.drop_drop,List.take_append_drop,List.take_append_drop]
 ·rw [List.length_take];omega
theorem rep_is{l:List Nd}{k n:Nat}(h:scan 1 (l.drop k)=some n)(m:List Nd):arep l k m=l.take k++(m++l.drop (k+n)):=by
 unfold arep
 rw [if_neg (by rw [aend_some h];omega),aend_some h,Int.toNat_natCast,show((k:Int)+n).toNat=k+n by omega,List.append_assoc]
theorem rep_there{l m:List Nd}{k n:Nat}(h:scan 1 (l.drop k)=some n)(hm:scan 1 m=some m.length):scan 1 ((arep l k m).drop k)=some m.length∧apart (arep l k m) k=m∧arep (arep l k m) k (apart l k)=l:=by
 obtain⟨hs,ht⟩:=split3 h
 have hd:(arep l k m).drop k=m++l.drop (k+n):=by
  rw [rep_is h,List.drop_left' ht]
 have e:scan 1 ((arep l k m).drop k)=some m.length:=by
  rw [hd]
  have:=scan_prefix m 1 _ (l.drop (k+n)) hm
  rw [List.take_length] at this
  exact this
 refine⟨e,?_,?_⟩
 ·unfold apart
  rw [if_neg (by rw [aend_some e];omega),aend_some e,Int.toNat_natCast,show((k:Int)+m.length).toNat-k=m.length by omega,hd,List.take_left]
 ·rw [rep_is e,← List.drop_drop,hd,List.drop_left,rep_is h,List.take_left' ht]
  exact hs.symm
theorem rep_whole{l m:List Nd}{k n:Nat}(hw:scan 1 l=some l.length)(h:scan 1 (l.drop k)=some n)(hm:scan 1 m=some m.length):scan 1 (arep l k m)=some (arep l k m).length∧(arep l k m).length+n=l.length+m.length:=by
 obtain⟨hs,ht⟩:=split3 h
 have hl:=scan_le _ _ _ h
 rw [List.length_drop] at hl
 have hp:=part_scan h
 rw [← part_len h] at hp
 have hlen:(arep l k m).length+n=l.length+m.length:=by
  rw [rep_is h,List.length_append,List.length_append,ht,List.length_drop]
  omega
 rw [hs] at hw
 obtain⟨h1,h2⟩:=scan_swap hp hm (l.drop (k+n)) (l.take k) 1 _ hw (by rw [← hs,ht];omega)
 rw [← rep_is h,← hs,part_len h] at h2
 refine⟨?_,hlen⟩
 rw [h2]
 congr 1
 omega
theorem rep_else{l m:List Nd}{k n:Nat}(h:scan 1 (l.drop k)=some n)(i:Nat):(i<k→(arep l k m)[i]? = l[i]?)∧(k+n≤i→(arep l k m)[i-(k+n)+k+m.length]? = l[i]?):=by
 obtain⟨hs,ht⟩:=split3 h
 rw [rep_is h]
 constructor
 ·intro hi
  rw [List.getElem?_append_left (by rw [ht];exact hi),List.getElem?_take,if_pos hi]
 ·intro hi
  rw [List.getElem?_append_right (by rw [ht];omega),ht,List.getElem?_append_right (by omega),List.getElem?_drop]
  congr 1
  omega
end Go.Proofs.YtekogckmgkodfaaGreatDoor.Arena
namespace Go.Proofs.YtekogckmgkodfaaGreatDoor.Arena
open Go.RowKit Mem
theorem ar_else{t n:Int}(h:t<1∨26<t):ar (t,n) = -1:=by
 have ha:asks t n=(-1,0):=by
  unfold asks
  rw [if_neg (by omega),if_neg (by omega),if_neg (by omega),if_neg (by omega),if_neg (by omega),if_neg (by omega),if_neg (by omega),if_neg (by omega),if_neg (by omega)]
 unfold ar
 rw [if_neg (by simp only;omega)]
 simp only
 rw [ha]
 split<;>rfl
def Nodes(w:World)(B:Nat)(A:Option Addr)(xs:List Nd):Prop :=
 ∀ i x,xs[i]? = some x→∃ ad,A=some ad∧ad.block<B∧w.cell? (ad.add (i*2))=some (.int .i64 x.1)∧w.cell? ⟨(ad.add (i*2)).block,(ad.add (i*2)).off+1,none⟩=some (.int .i64 x.2)
theorem add_blockN(a:Addr)(n:Nat):(a.add n).block=a.block:=by unfold Addr.add;split<;>rfl
theorem Nodes.keep{w w':World}{B:Nat}{A:Option Addr}{xs:List Nd}(h:Nodes w B A xs)(hb:∀ k,k<B→w'.heap[k]? = w.heap[k]?):Nodes w' B A xs:=by
 intro i x hx
 obtain⟨ad,h0,h1,h3,h4⟩:=h i x hx
 have hk:∀ q:Addr,q.block=ad.block→w'.cell? q=w.cell? q:=fun q hq=>by
  unfold World.cell?
  rw [hb q.block (by omega)]
 exact⟨ad,h0,h1,(hk _ (add_blockN _ _)).trans h3,(hk ⟨(ad.add (i*2)).block,(ad.add (i*2)).off+1,none⟩ (show(ad.add (i*2)).block=ad.block from add_blockN _ _)).trans h4⟩
theorem Nodes.below{w w':World}{B:Nat}{A:Option Addr}{xs:List Nd}(h:Nodes w B A xs)(hb:Below B w w'):Nodes w' B A xs:=h.keep hb.block
theorem Nodes.at{w w':World}{A:Option Addr}{xs:List Nd}(h:Nodes w w.heap.size A xs)(hb:Below w.heap.size w w'):Nodes w' w'.heap.size A xs:=by
 intro i x hx
 obtain⟨ad,e,hlt,r⟩:=(Nodes.below h hb) i x hx
 exact⟨ad,e,Nat.lt_of_lt_of_le hlt hb.size,r⟩
def from_(l:List Nd)(c k:Nat):Int:=match scan c (l.drop k) with | none => -1 | some n=>(k:Int)+n
theorem aend_from(l:List Nd)(k:Nat):aend l k=from_ l 1 k:=by unfold aend from_;rw [if_neg (by omega),Int.toNat_natCast]<;>(cases scan 1 (l.drop k)<;>rfl)
theorem from_end{l:List Nd}{c k:Nat}(h:l.length≤k):from_ l (c+1) k = -1:=by unfold from_;rw [List.drop_eq_nil_of_le h,scan_nil]
theorem from_bad{l:List Nd}{c k:Nat}{x:Nd}(h:l[k]? = some x)(hx:ar x<0):from_ l (c+1) k = -1:=by
 obtain⟨hk,rfl⟩:=List.getElem?_eq_some_iff.1 h
 unfold from_;rw [List.drop_eq_getElem_cons hk,scan_bad hx]
theorem from_step{l:List Nd}{c k:Nat}{x:Nd}(h:l[k]? = some x)(hx:0≤ar x):from_ l (c+1) k=from_ l (c+(ar x).toNat) (k+1):=by
 obtain⟨hk,rfl⟩:=List.getElem?_eq_some_iff.1 h
 unfold from_
 rw [List.drop_eq_getElem_cons hk,scan_good hx]
 cases scan (c+(ar l[k]).toNat) (l.drop (k+1)) with
 | none=>rfl
 | some n=>simp only [Option.map_some];omega
theorem from_0(l:List Nd)(k:Nat):from_ l 0 k=k:=by unfold from_;rw [scan_0];simp
theorem info_int:(Tryz.prog.info? 3).map (fun i=>(i.zero,i.size,i.bytes))=some (some (.int .i64 0),1,8):=by kernel_rfl
def icells(ks:List Int):List Value:=ks.map (Value.int .i64)
theorem icells_snoc(ks:List Int)(q:Int):icells (ks++[q])=icells ks++[.int .i64 q]:=by simp [icells]
theorem own_of_block{w w':World}{base:Nat}{e:TypeId}{size:Nat}{v:Value}{n:Nat}{xs:List Value}(h:w.ownsRow base e size v n xs)(hb:∀ k,v.ownBlock=some k→w'.heap[k]? = w.heap[k]?):w'.ownsRow base e size v n xs:=by
 refine⟨h.1,?_⟩
 rcases h.2 with hn | ⟨g,cap,cur,rfl,hbg,hgg,rest⟩
 ·exact .inl hn
 ·exact .inr ⟨g,cap,cur,rfl,hbg,(hb g rfl).trans hgg,rest⟩
def KidsEnds(ks:List Int)(w:World)(e:Ending)(w':World):Prop :=
 Below w.heap.size w w'∧∃ v,e=.returned v∧w'.ownsRow w.heap.size 3 1 v ks.length (icells ks)
def upto(most n kids:Int):Int:=if n<0∨most<n then -1 else kids
theorem upTo_any(most t n kids:Int)(w:World):Calls Tryz.prog 88 #[.int .i64 most,.agg #[.int .i64 t,.int .i64 n],.int .i64 kids] w fun e w'=>e=.returned (.int .i64 (upto most n kids))∧Below w.heap.size w w':=by
 have hB0:Below w.heap.size w (w.alloc (.cells #[.int .i64 t,.int .i64 n] 105)):=(Below.refl _ _).alloc (Nat.le_refl _) _
 by_cases h1:n<0
 ·have hE:=Lib.hid (show upto most n kids = -1 by unfold upto;rw [if_pos (.inl h1)])
  go_enter Tryz.func88,Tryz.ntmps88
  go_wp2
  go_ret
  exact⟨by rw [hE.out];rfl,hB0⟩
 ·by_cases h2:most<n
  ·have hE:=Lib.hid (show upto most n kids = -1 by unfold upto;rw [if_pos (.inr h2)])
   go_enter Tryz.func88,Tryz.ntmps88
   go_wp2
   go_ret
   exact⟨by rw [hE.out];rfl,hB0⟩
  ·have hE:=Lib.hid (show upto most n kids=kids by unfold upto;rw [if_neg (by omega)])
   go_enter Tryz.func88,Tryz.ntmps88
   go_wp2
   go_ret
   exact⟨by rw [hE.out];rfl,hB0⟩
theorem arity_1(n:Int)(w:World):Calls Tryz.prog 49 #[.agg #[.int .i64 1,.int .i64 n]] w fun e w'=>e=.returned (.int .i64 (ar (1,n)))∧Below w.heap.size w w':=by
 have hB0:Below w.heap.size w (w.alloc (.cells #[.int .i64 1,.int .i64 n] 105)):=(Below.refl _ _).alloc (Nat.le_refl _) _
 go_enter Tryz.func49,Tryz.ntmps49
 go_wp2
 go_ret
 exact⟨rfl,hB0⟩
theorem arity_2(n:Int)(w:World):Calls Tryz.prog 49 #[.agg #[.int .i64 2,.int .i64 n]] w fun e w'=>e=.returned (.int .i64 (ar (2,n)))∧Below w.heap.size w w':=by
 have hB0:Below w.heap.size w (w.alloc (.cells #[.int .i64 2,.int .i64 n] 105)):=(Below.refl _ _).alloc (Nat.le_refl _) _
 have hE:ar (2,n)=upto 1 n 0:=by unfold ar asks upto;simp
 exact zArenaG0
theorem arity_3(n:Int)(w:World):Calls Tryz.prog 49 #[.agg #[.int .i64 3,.int .i64 n]] w fun e w'=>e=.returned (.int .i64 (ar (3,n)))∧Below w.heap.size w w':=by
 have hB0:Below w.heap.size w (w.alloc (.cells #[.int .i64 3,.int .i64 n] 105)):=(Below.refl _ _).alloc (Nat.le_refl _) _
 have hE:ar (3,n)=upto 11 n 0:=by unfold ar asks upto;simp
 exact zArenaG0
theorem arity_4(n:Int)(w:World):Calls Tryz.prog 49 #[.agg #[.int .i64 4,.int .i64 n]] w fun e w'=>e=.returned (.int .i64 (ar (4,n)))∧Below w.heap.size w w':=by
 have hB0:Below w.heap.size w (w.alloc (.cells #[.int .i64 4,.int .i64 n] 105)):=(Below.refl _ _).alloc (Nat.le_refl _) _
 have hE:ar (4,n)=upto 11 n 1:=by unfold ar asks upto;simp
 exact zArenaG0
theorem arity_5(n:Int)(w:World):Calls Tryz.prog 49 #[.agg #[.int .i64 5,.int .i64 n]] w fun e w'=>e=.returned (.int .i64 (ar (5,n)))∧Below w.heap.size w w':=by
 have hB0:Below w.heap.size w (w.alloc (.cells #[.int .i64 5,.int .i64 n] 105)):=(Below.refl _ _).alloc (Nat.le_refl _) _
 have hE:ar (5,n)=upto 0 n 1:=by unfold ar asks upto;simp
 exact zArenaG0
theorem arity_6(n:Int)(w:World):Calls Tryz.prog 49 #[.agg #[.int .i64 6,.int .i64 n]] w fun e w'=>e=.returned (.int .i64 (ar (6,n)))∧Below w.heap.size w w':=by
 have hB0:Below w.heap.size w (w.alloc (.cells #[.int .i64 6,.int .i64 n] 105)):=(Below.refl _ _).alloc (Nat.le_refl _) _
 have hE:ar (6,n)=upto 0 n 1:=by unfold ar asks upto;simp
 exact zArenaG0
theorem arity_7(n:Int)(w:World):Calls Tryz.prog 49 #[.agg #[.int .i64 7,.int .i64 n]] w fun e w'=>e=.returned (.int .i64 (ar (7,n)))∧Below w.heap.size w w':=by
 have hB0:Below w.heap.size w (w.alloc (.cells #[.int .i64 7,.int .i64 n] 105)):=(Below.refl _ _).alloc (Nat.le_refl _) _
 have hE:ar (7,n)=upto 0 n 2:=by unfold ar asks upto;simp
 exact zArenaG0
theorem arity_8(n:Int)(w:World):Calls Tryz.prog 49 #[.agg #[.int .i64 8,.int .i64 n]] w fun e w'=>e=.returned (.int .i64 (ar (8,n)))∧Below w.heap.size w w':=by
 have hB0:Below w.heap.size w (w.alloc (.cells #[.int .i64 8,.int .i64 n] 105)):=(Below.refl _ _).alloc (Nat.le_refl _) _
 have hE:ar (8,n)=upto 0 n 2:=by unfold ar asks upto;simp
 exact zArenaG0
theorem arity_9(n:Int)(w:World):Calls Tryz.prog 49 #[.agg #[.int .i64 9,.int .i64 n]] w fun e w'=>e=.returned (.int .i64 (ar (9,n)))∧Below w.heap.size w w':=by
 have hB0:Below w.heap.size w (w.alloc (.cells #[.int .i64 9,.int .i64 n] 105)):=(Below.refl _ _).alloc (Nat.le_refl _) _
 have hE:ar (9,n)=upto 0 n 2:=by unfold ar asks upto;simp
 exact zArenaG0
theorem arity_10(n:Int)(w:World):Calls Tryz.prog 49 #[.agg #[.int .i64 10,.int .i64 n]] w fun e w'=>e=.returned (.int .i64 (ar (10,n)))∧Below w.heap.size w w':=by
 have hB0:Below w.heap.size w (w.alloc (.cells #[.int .i64 10,.int .i64 n] 105)):=(Below.refl _ _).alloc (Nat.le_refl _) _
 have hE:ar (10,n)=upto 0 n 2:=by unfold ar asks upto;simp
 exact zArenaG0
theorem arity_11(n:Int)(w:World):Calls Tryz.prog 49 #[.agg #[.int .i64 11,.int .i64 n]] w fun e w'=>e=.returned (.int .i64 (ar (11,n)))∧Below w.heap.size w w':=by
 have hB0:Below w.heap.size w (w.alloc (.cells #[.int .i64 11,.int .i64 n] 105)):=(Below.refl _ _).alloc (Nat.le_refl _) _
 have hE:ar (11,n)=upto 0 n 2:=by unfold ar asks upto;simp
 exact zArenaG0
theorem arity_12(n:Int)(w:World):Calls Tryz.prog 49 #[.agg #[.int .i64 12,.int .i64 n]] w fun e w'=>e=.returned (.int .i64 (ar (12,n)))∧Below w.heap.size w w':=by
 have hB0:Below w.heap.size w (w.alloc (.cells #[.int .i64 12,.int .i64 n] 105)):=(Below.refl _ _).alloc (Nat.le_refl _) _
 have hE:ar (12,n)=upto 0 n 2:=by unfold ar asks upto;simp
 exact zArenaG0
theorem arity_13(n:Int)(w:World):Calls Tryz.prog 49 #[.agg #[.int .i64 13,.int .i64 n]] w fun e w'=>e=.returned (.int .i64 (ar (13,n)))∧Below w.heap.size w w':=by
 have hB0:Below w.heap.size w (w.alloc (.cells #[.int .i64 13,.int .i64 n] 105)):=(Below.refl _ _).alloc (Nat.le_refl _) _
 have hE:ar (13,n)=upto 0 n 2:=by unfold ar asks upto;simp
 exact zArenaG0
theorem arity_14(n:Int)(w:World):Calls Tryz.prog 49 #[.agg #[.int .i64 14,.int .i64 n]] w fun e w'=>e=.returned (.int .i64 (ar (14,n)))∧Below w.heap.size w w':=by
 have hB0:Below w.heap.size w (w.alloc (.cells #[.int .i64 14,.int .i64 n] 105)):=(Below.refl _ _).alloc (Nat.le_refl _) _
 have hE:ar (14,n)=upto 0 n 2:=by unfold ar asks upto;simp
 exact zArenaG0
theorem arity_15(n:Int)(w:World):Calls Tryz.prog 49 #[.agg #[.int .i64 15,.int .i64 n]] w fun e w'=>e=.returned (.int .i64 (ar (15,n)))∧Below w.heap.size w w':=by
 have hB0:Below w.heap.size w (w.alloc (.cells #[.int .i64 15,.int .i64 n] 105)):=(Below.refl _ _).alloc (Nat.le_refl _) _
 have hE:ar (15,n)=upto 0 n 2:=by unfold ar asks upto;simp
 exact zArenaG0
theorem arity_16(n:Int)(w:World):Calls Tryz.prog 49 #[.agg #[.int .i64 16,.int .i64 n]] w fun e w'=>e=.returned (.int .i64 (ar (16,n)))∧Below w.heap.size w w':=by
 have hB0:Below w.heap.size w (w.alloc (.cells #[.int .i64 16,.int .i64 n] 105)):=(Below.refl _ _).alloc (Nat.le_refl _) _
 have hE:ar (16,n)=upto 0 n 2:=by unfold ar asks upto;simp
 exact zArenaG0
theorem arity_17(n:Int)(w:World):Calls Tryz.prog 49 #[.agg #[.int .i64 17,.int .i64 n]] w fun e w'=>e=.returned (.int .i64 (ar (17,n)))∧Below w.heap.size w w':=by
 have hB0:Below w.heap.size w (w.alloc (.cells #[.int .i64 17,.int .i64 n] 105)):=(Below.refl _ _).alloc (Nat.le_refl _) _
 have hE:ar (17,n)=upto 0 n 2:=by unfold ar asks upto;simp
 exact zArenaG0
theorem arity_18(n:Int)(w:World):Calls Tryz.prog 49 #[.agg #[.int .i64 18,.int .i64 n]] w fun e w'=>e=.returned (.int .i64 (ar (18,n)))∧Below w.heap.size w w':=by
 have hB0:Below w.heap.size w (w.alloc (.cells #[.int .i64 18,.int .i64 n] 105)):=(Below.refl _ _).alloc (Nat.le_refl _) _
 have hE:ar (18,n)=upto 0 n 2:=by unfold ar asks upto;simp
 exact zArenaG0
theorem arity_19(n:Int)(w:World):Calls Tryz.prog 49 #[.agg #[.int .i64 19,.int .i64 n]] w fun e w'=>e=.returned (.int .i64 (ar (19,n)))∧Below w.heap.size w w':=by
 have hB0:Below w.heap.size w (w.alloc (.cells #[.int .i64 19,.int .i64 n] 105)):=(Below.refl _ _).alloc (Nat.le_refl _) _
 have hE:ar (19,n)=upto 0 n 2:=by unfold ar asks upto;simp
 exact zArenaG0
theorem arity_20(n:Int)(w:World):Calls Tryz.prog 49 #[.agg #[.int .i64 20,.int .i64 n]] w fun e w'=>e=.returned (.int .i64 (ar (20,n)))∧Below w.heap.size w w':=by
 have hB0:Below w.heap.size w (w.alloc (.cells #[.int .i64 20,.int .i64 n] 105)):=(Below.refl _ _).alloc (Nat.le_refl _) _
 have hE:ar (20,n)=upto 200 n n:=by unfold ar asks upto;simp
 exact zArenaG0
theorem arity_21(n:Int)(w:World):Calls Tryz.prog 49 #[.agg #[.int .i64 21,.int .i64 n]] w fun e w'=>e=.returned (.int .i64 (ar (21,n)))∧Below w.heap.size w w':=by
 have hB0:Below w.heap.size w (w.alloc (.cells #[.int .i64 21,.int .i64 n] 105)):=(Below.refl _ _).alloc (Nat.le_refl _) _
 have hE:ar (21,n)=upto 11 n 1:=by unfold ar asks upto;simp
 exact zArenaG0
theorem arity_22(n:Int)(w:World):Calls Tryz.prog 49 #[.agg #[.int .i64 22,.int .i64 n]] w fun e w'=>e=.returned (.int .i64 (ar (22,n)))∧Below w.heap.size w w':=by
 have hB0:Below w.heap.size w (w.alloc (.cells #[.int .i64 22,.int .i64 n] 105)):=(Below.refl _ _).alloc (Nat.le_refl _) _
 have hE:ar (22,n)=upto 11 n 2:=by unfold ar asks upto;simp
 exact zArenaG0
theorem arity_23(n:Int)(w:World):Calls Tryz.prog 49 #[.agg #[.int .i64 23,.int .i64 n]] w fun e w'=>e=.returned (.int .i64 (ar (23,n)))∧Below w.heap.size w w':=by
 have hB0:Below w.heap.size w (w.alloc (.cells #[.int .i64 23,.int .i64 n] 105)):=(Below.refl _ _).alloc (Nat.le_refl _) _
 have hE:ar (23,n)=upto 0 n 3:=by unfold ar asks upto;simp
 exact zArenaG0
theorem arity_24(n:Int)(w:World):Calls Tryz.prog 49 #[.agg #[.int .i64 24,.int .i64 n]] w fun e w'=>e=.returned (.int .i64 (ar (24,n)))∧Below w.heap.size w w':=by
 have hB0:Below w.heap.size w (w.alloc (.cells #[.int .i64 24,.int .i64 n] 105)):=(Below.refl _ _).alloc (Nat.le_refl _) _
 have hE:ar (24,n)=upto 0 n 2:=by unfold ar asks upto;simp
 exact zArenaG0
theorem arity_25(n:Int)(w:World):Calls Tryz.prog 49 #[.agg #[.int .i64 25,.int .i64 n]] w fun e w'=>e=.returned (.int .i64 (ar (25,n)))∧Below w.heap.size w w':=by
 have hB0:Below w.heap.size w (w.alloc (.cells #[.int .i64 25,.int .i64 n] 105)):=(Below.refl _ _).alloc (Nat.le_refl _) _
 have hE:ar (25,n)=upto 0 n 1:=by unfold ar asks upto;simp
 exact zArenaG0
theorem arity_26(n:Int)(w:World):Calls Tryz.prog 49 #[.agg #[.int .i64 26,.int .i64 n]] w fun e w'=>e=.returned (.int .i64 (ar (26,n)))∧Below w.heap.size w w':=by
 have hB0:Below w.heap.size w (w.alloc (.cells #[.int .i64 26,.int .i64 n] 105)):=(Below.refl _ _).alloc (Nat.le_refl _) _
 have hE:ar (26,n)=upto 0 n 0:=by unfold ar asks upto;simp
 exact zArenaG0
theorem arity_else(t n:Int)(h:t<1∨26<t)(w:World):Calls Tryz.prog 49 #[.agg #[.int .i64 t,.int .i64 n]] w fun e w'=>e=.returned (.int .i64 (ar (t,n)))∧Below w.heap.size w w':=by
 have hB0:Below w.heap.size w (w.alloc (.cells #[.int .i64 t,.int .i64 n] 105)):=(Below.refl _ _).alloc (Nat.le_refl _) _
 have e1:(t==1)=false:=by rw [beq_eq_false_iff_ne];omega
 have e2:(t==2)=false:=by rw [beq_eq_false_iff_ne];omega
 have e3:(t==3)=false:=by rw [beq_eq_false_iff_ne];omega
 have e4:(t==4)=false:=by rw [beq_eq_false_iff_ne];omega
 have e5:(t==5)=false:=by rw [beq_eq_false_iff_ne];omega
 have e6:(t==6)=false:=by rw [beq_eq_false_iff_ne];omega
 have e7:(t==7)=false:=by rw [beq_eq_false_iff_ne];omega
 have e8:(t==8)=false:=by rw [beq_eq_false_iff_ne];omega
 have e9:(t==9)=false:=by rw [beq_eq_false_iff_ne];omega
 have e10:(t==10)=false:=by rw [beq_eq_false_iff_ne];omega
 have e11:(t==11)=false:=by rw [beq_eq_false_iff_ne];omega
 have e12:(t==12)=false:=by rw [beq_eq_false_iff_ne];omega
 have e13:(t==13)=false:=by rw [beq_eq_false_iff_ne];omega
 have e14:(t==14)=false:=by rw [beq_eq_false_iff_ne];omega
 have e15:(t==15)=false:=by rw [beq_eq_false_iff_ne];omega
 have e16:(t==16)=false:=by rw [beq_eq_false_iff_ne];omega
 have e17:(t==17)=false:=by rw [beq_eq_false_iff_ne];omega
 have e18:(t==18)=false:=by rw [beq_eq_false_iff_ne];omega
 have e19:(t==19)=false:=by rw [beq_eq_false_iff_ne];omega
 have e20:(t==20)=false:=by rw [beq_eq_false_iff_ne];omega
 have e21:(t==21)=false:=by rw [beq_eq_false_iff_ne];omega
 have e22:(t==22)=false:=by rw [beq_eq_false_iff_ne];omega
 have e23:(t==23)=false:=by rw [beq_eq_false_iff_ne];omega
 have e24:(t==24)=false:=by rw [beq_eq_false_iff_ne];omega
 have e25:(t==25)=false:=by rw [beq_eq_false_iff_ne];omega
 have e26:(t==26)=false:=by rw [beq_eq_false_iff_ne];omega
 rw [ar_else h]
 clear h
 go_enter Tryz.func49,Tryz.ntmps49
 go_wp2
 all_goals go_ret
 all_goals exact⟨rfl,hB0⟩
theorem Arity_any(t n:Int)(w:World):Calls Tryz.prog 49 #[.agg #[.int .i64 t,.int .i64 n]] w fun e w'=>e=.returned (.int .i64 (ar (t,n)))∧Below w.heap.size w w':=by
 by_cases h:t<1∨26<t
 ·exact arity_else t n h w
 ·obtain⟨k,rfl⟩:=Int.eq_ofNat_of_zero_le (show 0≤t by omega)
  rcases (show k=1∨k=2∨k=3∨k=4∨k=5∨k=6∨k=7∨k=8∨k=9∨k=10∨k=11∨k=12∨k=13∨k=14∨k=15∨k=16∨k=17∨k=18∨k=19∨k=20∨k=21∨k=22∨k=23∨k=24∨k=25∨k=26 by omega) with rfl | rfl | rfl | rfl | rfl | rfl | rfl | rfl | rfl | rfl | rfl | rfl | rfl | rfl | rfl | rfl | rfl | rfl | rfl | rfl | rfl | rfl | rfl | rfl | rfl | rfl
  ·exact arity_1 n w
  ·exact arity_2 n w
  ·exact arity_3 n w
  ·exact arity_4 n w
  ·exact arity_5 n w
  ·exact arity_6 n w
  ·exact arity_7 n w
  ·exact arity_8 n w
  ·exact arity_9 n w
  ·exact arity_10 n w
  ·exact arity_11 n w
  ·exact arity_12 n w
  ·exact arity_13 n w
  ·exact arity_14 n w
  ·exact arity_15 n w
  ·exact arity_16 n w
  ·exact arity_17 n w
  ·exact arity_18 n w
  ·exact arity_19 n w
  ·exact arity_20 n w
  ·exact arity_21 n w
  ·exact arity_22 n w
  ·exact arity_23 n w
  ·exact arity_24 n w
  ·exact arity_25 n w
  ·exact arity_26 n w
theorem strange_any(x:Nd)(w:World):Calls Tryz.prog 102 #[.agg #[.int .i64 x.1,.int .i64 x.2]] w fun e w'=>e=.returned (.bool (decide (ar x<0)))∧Below w.heap.size w w':=by
 have hB0:Below w.heap.size w (w.alloc (.cells #[.int .i64 x.1,.int .i64 x.2] 105)):=(Below.refl _ _).alloc (Nat.le_refl _) _
 have hE:=Lib.hid (show(ar x == -1)=decide (ar x<0) by have:=ar_le x;by_cases h:ar x<0<;>simp [h]<;>omega)
 obtain⟨t,n⟩:=x
 obtain⟨r,hr⟩:∃ r,ar (t,n)=r:=⟨_,rfl⟩
 have HA:=Lib.hid (fun W=>Arity_any t n W)
 rw [hr] at HA hE ⊢
 clear hr
 go_enter Tryz.func102,Tryz.ntmps102
 go_wp2_with (go_at_call 49;(with_reducible refine(HA.out _).mono ?_);rintro e w2 ⟨rfl,hb2⟩)
 go_ret
 exact⟨by rw [hE.out];rfl,hB0.trans (hb2.mono hB0.size)⟩
end Go.Proofs.YtekogckmgkodfaaGreatDoor.Arena
namespace Go.Proofs.YtekogckmgkodfaaGreatDoor.Jumps
variable {F:Fence} {n:Nat} {P:Program}
theorem stepR_scope{b:Frame}{a:Act}{k:List Item}{cs:List Frame}{w:World}{c:Code}:step P (lone (b.atR a (.code (.scope c)::k)) cs w)=.next (lone (b.atR a (.code c::.inScope c::k)) cs w) :=
 step_lone_go (by simp [stepG,stepG.exec,Frame.atR])
theorem stepR_inScope{b:Frame}{a:Act}{k:List Item}{cs:List Frame}{w:World}{c:Code}:step P (lone (b.atR a (.inScope c::k)) cs w)=.next (lone (b.atR a k) cs w) :=
 step_lone_go (by simp [stepG,stepG.exec,Frame.atR])
theorem wpIn_scope_jumps{Q:Exit→Act→World→Prop}{a:Act}{w:World}{c rest:Code}(l:Nat)(J:Act→World→Prop)(μ:Act→World→Nat)(hf:findLabel c l=some rest)
  (first:c.wpIn F n P (Exit.jump l J Q) a w)
  (pass:∀ a w,J a w→rest.wpIn F n P (Exit.jump l (fun a' w'=>J a' w'∧μ a' w'<μ a w) Q) a w):(Code.scope c).wpIn F n P Q a w:=by
 intro b k cs hro hb hr
 have h0:(lone (b.atR a (.code (.scope c)::k)) cs w).fenced P F:=fenced_calm hb hr rfl
 have hg:gotoIn l (.inScope c::k)=some (.code rest::.inScope c::k):=by simp [gotoIn,hf]
 have hx:∀ id,exitTo id (.inScope c::k)=exitTo id k:=fun id=>by simp [exitTo]
 have key:∀ m a w,μ a w=m→J a w→∃ e a' w',Q e a' w'∧ArrivesIn (Machine.fenced P F) P (lone (b.atR a (.code rest::.inScope c::k)) cs w) b k cs e a' w':=by
  intro m
  induction m using Nat.strongRecOn with
  | _ m ih =>
   intro a w hn hJ
   obtain⟨e,a₁,w₁,hq,harr⟩:=pass a w hJ b (.inScope c::k) cs hro hb hr
   cases e with
   | normal=>exact⟨.normal,a₁,w₁,hq,StepsIn.trans harr (.one (fenced_calm hb hr rfl) stepR_inScope)⟩
   | exit id=>exact⟨.exit id,a₁,w₁,hq,fun k' hk=>harr.1 k' (by rw [hx];exact hk),fun hr' hk=>harr.2 hr' (by rw [hx];exact hk)⟩
   | goto l' =>
    obtain⟨rfl,hJ',hlt⟩:=hq
    obtain⟨e₂,a₂,w₂,hq₂,harr₂⟩:=ih _ (by omega) a₁ w₁ rfl hJ'
    exact⟨e₂,a₂,w₂,hq₂,.of_steps (harr.1 _ hg) harr₂⟩
   | ret=>exact⟨_,a₁,w₁,hq,harr⟩
   | panic ch=>exact⟨_,a₁,w₁,hq,harr⟩
   | outgrown=>exact⟨_,a₁,w₁,hq,harr⟩
 obtain⟨e,a₁,w₁,hq,harr⟩:=first b (.inScope c::k) cs hro hb hr
 cases e with
 | normal=>exact⟨.normal,a₁,w₁,hq,.head h0 stepR_scope (StepsIn.trans harr (.one (fenced_calm hb hr rfl) stepR_inScope))⟩
 | exit id=>exact⟨.exit id,a₁,w₁,hq,fun k' hk=>.head h0 stepR_scope (harr.1 k' (by rw [hx];exact hk)),fun hr' hk=>let ⟨k₁,h1,h2⟩:=harr.2 hr' (by rw [hx];exact hk);⟨k₁,h1,.head h0 stepR_scope h2⟩⟩
 | goto l' =>
  obtain⟨rfl,hJ'⟩:=hq
  obtain⟨e₂,a₂,w₂,hq₂,harr₂⟩:=key _ a₁ w₁ rfl hJ'
  exact⟨e₂,a₂,w₂,hq₂,.of_steps (.head h0 stepR_scope (harr.1 _ hg)) harr₂⟩
 | ret=>exact⟨_,a₁,w₁,hq,.of_steps (.one h0 stepR_scope) harr⟩
 | panic ch=>exact⟨_,a₁,w₁,hq,.of_steps (.one h0 stepR_scope) harr⟩
 | outgrown=>exact⟨_,a₁,w₁,hq,.of_steps (.one h0 stepR_scope) harr⟩
theorem wpIn_scope_label{Q:Exit→Act→World→Prop}{a:Act}{w:World}{x rest:Code}(l:Nat)(J:Act→World→Prop)(μ:Act→World→Nat)(hf:findLabel (x.seq ((Code.label l).seq rest)) l=some (Code.skip.seq rest))
  (first:x.wpIn F n P (Exit.then J (Exit.jump l J Q)) a w)
  (pass:∀ a w,J a w→rest.wpIn F n P (Exit.jump l (fun a' w'=>J a' w'∧μ a' w'<μ a w) Q) a w):(Code.scope (x.seq ((Code.label l).seq rest))).wpIn F n P Q a w:=by
 have weak:∀ (e:Exit) (a₀:Act) (w₀:World) (a:Act) (w:World),Exit.jump l (fun a' w'=>J a' w'∧μ a' w'<μ a₀ w₀) Q e a w→Exit.jump l J Q e a w:=by
  intro e a₀ w₀ a w h
  cases e with
  | goto l'=>exact⟨h.1,h.2.1⟩
  | _=>exact h
 refine wpIn_scope_jumps l J μ hf (wpIn_seq (wpIn_mono first ?_)) (fun a w h=>wpIn_seq (wpIn_skip (pass a w h)))
 intro e a₁ w₁ h
 cases e with
 | normal=>exact wpIn_seq (wpIn_label (wpIn_mono (pass a₁ w₁ h) (fun e a w q=>weak e a₁ w₁ a w q)))
 | _=>exact h
end Go.Proofs.YtekogckmgkodfaaGreatDoor.Jumps
namespace Go.Proofs.YtekogckmgkodfaaGreatDoor.Arena
open Go.RowKit Go.Shelf Mem Jumps
attribute [local go_sem] Oper.semAt_some
def row:List Nd→Nat→Nat→List (Int×Int)
 | [],_,_=>[]
 | _::_,0,_=>[]
 | x::l,c+1,k=>if ar x<0 then [] else((k:Int)+1,(c:Int)+ar x)::row l (c+(ar x).toNat) (k+1)
theorem row_0(l:List Nd)(k:Nat):row l 0 k=[]:=by cases l<;>rfl
theorem row_bad{x:Nd}{l:List Nd}{c k:Nat}(h:ar x<0):row (x::l) (c+1) k=[]:=by rw [row,if_pos h]
theorem row_good{x:Nd}{l:List Nd}{c k:Nat}(h:¬ ar x<0):row (x::l) (c+1) k=((k:Int)+1,(c:Int)+ar x)::row l (c+(ar x).toNat) (k+1):=by rw [row,if_neg h]
def rows(xs:List Nd)(a:Int):List (Int×Int):=if a<0 then [] else row (xs.drop a.toNat) 1 a.toNat
def rowsC(xs:List Nd)(i:Int)(c:Nat):List (Int×Int):=if i<0 then [] else row (xs.drop i.toNat) c i.toNat
theorem rows_nat(xs:List Nd)(k:Nat):rows xs k=row (xs.drop k) 1 k:=by unfold rows;rw [if_neg (by omega),Int.toNat_natCast]
theorem row_last:∀ (l:List Nd) (c k:Nat) (pre:List (Int×Int)) (b:Int),pre++[(b,0)] <+: row l (c+1) k→∃ n,scan (c+1) l=some n∧b=(k:Int)+n
 | [],c,k,pre,b,h=>by have:=h.length_le;simp [row] at this
 | x::l,c,k,pre,b,h=>by
  by_cases hx:ar x<0
  ·rw [row_bad hx] at h;have:=h.length_le;simp at this
  ·rw [row_good hx] at h
   rw [scan_good (by omega)]
   cases pre with
   | nil =>
    rw [List.nil_append,List.cons_prefix_cons] at h
    obtain⟨h1,-⟩:=h
    rw [Prod.mk.injEq] at h1
    obtain⟨rfl,h2⟩:=h1
    rw [show c+(ar x).toNat=0 by omega,scan_0]
    exact⟨1,rfl,by omega⟩
   | cons y pre =>
    rw [List.cons_append,List.cons_prefix_cons] at h
    obtain⟨-,h⟩:=h
    obtain⟨j,hj⟩:∃ j,c+(ar x).toNat=j+1:=by
     rcases Nat.eq_zero_or_pos (c+(ar x).toNat) with q | q
     ·rw [q,row_0] at h;have:=h.length_le;simp at this
     ·exact⟨c+(ar x).toNat-1,by omega⟩
    rw [hj] at h ⊢
    obtain⟨n,h1,h2⟩:=row_last l j (k+1) pre b h
    exact⟨n+1,by rw [h1];rfl,by omega⟩
theorem row_none:∀ (l:List Nd) (c k:Nat),(∀ p∈row l (c+1) k,p.2≠0)→scan (c+1) l=none
 | [],c,k,_=>scan_nil c
 | x::l,c,k,h=>by
  by_cases hx:ar x<0
  ·exact scan_bad hx
  ·rw [row_good hx] at h
   rw [scan_good (by omega)]
   have h0:=h _ (List.mem_cons_self ..)
   simp only at h0
   obtain⟨j,hj⟩:∃ j,c+(ar x).toNat=j+1:=⟨c+(ar x).toNat-1,by omega⟩
   rw [hj] at h ⊢
   rw [row_none l j (k+1) (fun p hp=>h p (List.mem_cons_of_mem _ hp))]
   rfl
theorem rows_last{xs:List Nd}{a:Int}{pre:List (Int×Int)}{b:Int}(h:pre++[(b,0)] <+: rows xs a):aend xs a=b:=by
 by_cases ha:a<0
 ·unfold rows at h;rw [if_pos ha] at h;have:=h.length_le;simp at this
 ·obtain⟨k,rfl⟩:=Int.eq_ofNat_of_zero_le (show 0≤a by omega)
  rw [rows_nat] at h
  obtain⟨n,h1,rfl⟩:=row_last _ _ _ _ _ h
  exact aend_some h1
theorem rows_none{xs:List Nd}{a:Int}(h:∀ p∈rows xs a,p.2≠0):aend xs a = -1:=by
 by_cases ha:a<0
 ·exact aend_neg ha
 ·obtain⟨k,rfl⟩:=Int.eq_ofNat_of_zero_le (show 0≤a by omega)
  rw [rows_nat] at h
  exact aend_none (row_none _ _ _ h)
def told(x:Int×Int):Array Value:=#[.int .i64 x.1,.int .i64 x.2]
theorem grown_below{W W':World}(h:Below W.heap.size W W'):W.grownBy W' none:=⟨h.os,h.tape,h.output,h.size,fun k hk _=>h.block k hk⟩
theorem walk1_stops(R Bl Ba B:Nat)(A:Option Addr)(cap:Nat)(xs:List Nd)(a:Int)(w:World)(hl:xs.length≤10000000000000)(hx:Nodes w B A xs)(hB:B≤w.heap.size)(hRB:B≤R)(hBl:Bl<w.heap.size)(hBa:Ba<w.heap.size)(hRl:Bl≠R)(hRa:Ba≠R)
  (hcl:w.cell? ⟨Bl,0,none⟩=some (.slice A xs.length cap)) (hca:w.cell? ⟨Ba,0,none⟩=some (.int .i64 a)) :
  SeqStopsK Fence.wide 3 Tryz.prog 101 #[.pointer (some ⟨Ba,0,none⟩),.pointer (some ⟨Bl,0,none⟩)] told (Kept (fun k=>k=R∨w.heap.size≤k)) (fun ys=>ys=rows xs a) (fun pre=>pre <+: rows xs a) 10000000000001 w:=by
 intro l J Jx W hW hJ _ hY h0
 have hJ':∀ s W1 W2,J s W1→Below W1.heap.size W1 W2→J s W2:=fun s W1 W2 h hb=>hJ s W1 W2 none h (grown_below hb) (fun r e=>by cases e)
 have hKW:Kept (fun k=>k=R∨w.heap.size≤k) w W:=Kept.of_below hW (Nat.le_refl _)
 have HX:=Lib.hid (fun W1 (h:Kept (fun k=>k=R∨w.heap.size≤k) w W1)=>hx.keep (w':=W1) (fun k hk=>h.block k (by omega) (by rintro(e | e)<;>omega)))
 have HL:=Lib.hid (fun W1 (h:Kept (fun k=>k=R∨w.heap.size≤k) w W1)=>(h.cell (p:=⟨Bl,0,none⟩) hBl (by rintro(e | e)<;>simp at e<;>omega)).trans hcl)
 have hA0:=(hKW.cell (p:=⟨Ba,0,none⟩) hBa (by rintro(e | e)<;>simp at e<;>omega)).trans hca
 clear hx hJ hcl hca
 refine callsIn_of_wp Tryz.func101 rfl trivial ?_ rfl
 simp only [Tryz.ntmps101,List.size_toArray,List.length_cons,List.length_nil,Nat.reduceAdd,Nat.reduceSub,Array.replicate_succ,Array.replicate_zero,List.push_toArray,List.append_toArray,List.nil_append,List.cons_append]
 gi_wp2
 have H0:=Lib.hid h0
 have hf1:Fence.wide.fn 102:=trivial
 have hf2:Fence.wide.fn 49:=trivial
 clear h0
 refine wpIn_scope_label 0 (fun a' w'=>∃ (pre:List (Int×Int)) (i:Int) (c:Nat) (u6 u7 u8 u9 u10 u11 u12 u13 u14 u15 u16 u17 u18 u19 u20 u21 u22 u23 u24 u25 u26 u27 u28 u29 u30 u31 u32 u33 u34 u35 u36 u37 u38 u39:Value),a'={ tmps:=#[.func (.yield l) #[] #[],.pointer (some ⟨Ba,0,none⟩),.pointer (some ⟨Bl,0,none⟩),undef,.int .i64 i,.int .i64 ((c:Int)+1),u6,u7,u8,u9,u10,u11,u12,u13,u14,u15,u16,u17,u18,u19,u20,u21,u22,u23,u24,u25,u26,u27,u28,u29,u30,u31,u32,u33,u34,u35,u36,u37,u38,u39],defers:=[] } ∧
   rows xs a=pre++rowsC xs i (c+1)∧c≤200*pre.length∧i=a+pre.length∧(pre=[]∨0≤a)∧J pre w'∧Kept (fun k=>k=R∨w.heap.size≤k) w w') (fun a' _=>xs.length-(intOf (a'.tmps.getD 4 undef)).toNat) rfl ?_ ?_
 ·gi_wp2
  exact⟨[],a,0,_,_,_,_,_,_,_,_,_,_,_,_,_,_,_,_,_,_,_,_,_,_,_,_,_,_,_,_,_,_,_,_,_,_,rfl,rfl,by simp,by simp,.inl rfl,H0.out,hKW⟩
 ·rintro a' w' ⟨pre,i,c,u6,u7,u8,u9,u10,u11,u12,u13,u14,u15,u16,u17,u18,u19,u20,u21,u22,u23,u24,u25,u26,u27,u28,u29,u30,u31,u32,u33,u34,u35,u36,u37,u38,u39,rfl,hrow,hc,hi,hpa,hJp,hK⟩
  have hBw:B≤w'.heap.size:=Nat.le_trans hB hK.size
  have hL:=HL.out _ hK
  by_cases hi0:i<0
  ·have hE:=Lib.hid (show rows xs a=pre by rw [hrow];unfold rowsC;rw [if_pos hi0,List.append_nil])
   clear hrow hi
   exact zArenaG1
  obtain⟨k,rfl⟩:=Int.eq_ofNat_of_zero_le (show 0≤i by omega)
  have hrow':rows xs a=pre++row (xs.drop k) (c+1) k:=by rw [hrow];unfold rowsC;rw [if_neg hi0,Int.toNat_natCast]
  clear hrow
  by_cases hlt:k<xs.length
  ·obtain⟨x,hxk⟩:∃ x,xs[k]? = some x:=⟨_,List.getElem?_eq_getElem hlt⟩
   have hd:xs.drop k=x::xs.drop (k+1):=by
    obtain⟨h1,rfl⟩:=List.getElem?_eq_some_iff.1 hxk
    exact List.drop_eq_getElem_cons h1
   rw [hd] at hrow'
   obtain⟨ad,rfl,hbk,g0,g1⟩:=(HX.out _ hK) k x hxk
   have i1:(k:Int)<(xs.length:Int):=by omega
   have i2:(0:Int)≤(k:Int):=by omega
   have HS:=Lib.hid (fun W=>strange_any x W)
   by_cases hbad:ar x<0
   ·have hE:=Lib.hid (show rows xs a=pre by rw [hrow',row_bad hbad,List.append_nil])
    rw [decide_eq_true hbad] at HS
    clear hrow' hi hd hxk
    gi_wp2_with (gi_at_call 102;refine((callsIn_wide (n:=2)).2 (HS.out _)).mono ?_;rintro e w2 ⟨rfl,hb2⟩)
    simp only [Exit.jump]
    refine bodyPost_ret (results_none rfl _ _ _) rfl ?_
    exact⟨⟨_,rfl⟩,.inl ⟨_,hE.out.symm,hJ' _ _ _ hJp hb2⟩⟩
   ·obtain⟨m,hm⟩:=Int.eq_ofNat_of_zero_le (show 0≤ar x by omega)
    have har:=(ar_le x).2
    rw [decide_eq_false hbad] at HS
    rw [row_good hbad,hm,Int.toNat_natCast] at hrow'
    have hpl:pre.length≤10000000000000:=by rcases hpa with rfl | h;simp;omega
    have HR:=Lib.hid hrow'
    have HI:=Lib.hid hi
    clear hi
    have HA:=Lib.hid (fun W=>Arity_any x.1 x.2 W)
    have hyld:=fun W1 (h:J pre W1)=>hY pre ((k:Int)+1,(c:Int)+(m:Int)) W1 h (by omega)
    rw [show ar (x.1,x.2)=(m:Int) from hm] at HA
    have v1:IntKind.i64.wrap ((m:Int)-1)=(m:Int)-1:=IntWalk.i64_in _ (by omega)
    have v2:IntKind.i64.wrap ((c:Int)+1+((m:Int)-1))=(c:Int)+(m:Int):=by rw [IntWalk.i64_in _ (by omega)];omega
    have v3:IntKind.i64.wrap ((k:Int)+1)=(k:Int)+1:=IntWalk.i64_in _ (by omega)
    have ht:told ((k:Int)+1,(c:Int)+(m:Int))=#[.int .i64 ((k:Int)+1),.int .i64 ((c:Int)+(m:Int))]:=rfl
    rw [ht] at hyld
    clear hrow' hd hY
    have HXK:=Lib.hid hxk
    clear hxk
    gi_wp2_with (first
     | (gi_at_call 102;refine((callsIn_wide (n:=2)).2 (HS.out _)).mono ?_;rintro e w2 ⟨rfl,hb2⟩;have hK2:=Kept.below hK hb2;have hJ2:=hJ' _ _ _ hJp hb2;have hL2:=HL.out _ hK2;obtain⟨ad2,q0,hbk2,g0',g1'⟩:=(HX.out _ hK2) k x HXK.out;cases q0)
     | (gi_at_call 49;refine((callsIn_wide (n:=2)).2 (HA.out _)).mono ?_;rintro e w3 ⟨rfl,hb3⟩;have hK3:=Kept.below hK2 hb3;have hJ3:=hJ' _ _ _ hJ2 hb3;obtain⟨fn,tmps,assign,body,hy,hR⟩:=hyld _ hJ3))
    refine hR.mono ?_
    rintro e W4 (⟨rfl,hJ4,hK4⟩ | ⟨rfl,hJx4⟩)
    ·by_cases hz:c+m=0
     ·have hz':¬ (0:Int)<(c:Int)+(m:Int):=by omega
      gi_wp2
      simp only [Exit.jump]
      go_end0
      refine⟨⟨_,rfl⟩,.inl ⟨_,?_,hJ4⟩⟩
      rw [HR.out,hz,row_0]
     ·have hz':(0:Int)<(c:Int)+(m:Int):=by omega
      gi_wp2
      obtain⟨j,hj⟩:∃ j,c+m=j+1:=⟨c+m-1,by omega⟩
      refine wpIn_goto ?_
      refine⟨rfl,?_,?_⟩
      ·have hcm:(c:Int)+(m:Int)=(j:Int)+1:=by omega
       have hlen:=HI.out
       rw [hcm]
       refine⟨pre++[((k:Int)+1,(c:Int)+(m:Int))],(k:Int)+1,j,_,_,_,_,_,_,_,_,_,_,_,_,_,_,_,_,_,_,_,_,_,_,_,_,_,_,_,_,_,_,_,_,_,_,rfl,?_,?_,?_,?_,?_,?_⟩
       ·rw [HR.out,List.append_assoc,hj]
        unfold rowsC
        rw [if_neg (by omega),show((k:Int)+1).toNat=k+1 by omega]
        rfl
       ·rw [List.length_append,List.length_singleton];omega
       ·rw [List.length_append,List.length_singleton];omega
       ·rcases hpa with rfl | h
        ·right;simp at hlen;omega
        ·exact .inr h
       ·exact hJ4
       ·exact hK3.then hK4 (fun i q=>.inl q)
      ·show xs.length-((k:Int)+1).toNat<xs.length-(k:Int).toNat
       omega
    ·gi_wp2
     simp only [Exit.jump]
     go_end0
     exact⟨⟨_,rfl⟩,.inr ⟨_,by rw [HR.out];exact⟨_,List.append_assoc _ _ _⟩,hJx4⟩⟩
  ·have hE:=Lib.hid (show rows xs a=pre by rw [hrow',List.drop_eq_nil_of_le (by omega),row,List.append_nil])
   have i1:(xs.length:Int)≤(k:Int):=by omega
   have i2:(0:Int)≤(k:Int):=by omega
   clear hrow' hi
   exact zArenaG1
end Go.Proofs.YtekogckmgkodfaaGreatDoor.Arena
namespace Go.Proofs.YtekogckmgkodfaaGreatDoor.Arena
open Go.RowKit Go.Shelf Mem
attribute [local go_sem] Oper.semAt_some
theorem walk_any(A:Option Addr)(k cap:Nat)(a:Int)(w:World):Calls Tryz.prog 84 #[.slice A k cap,.int .i64 a] w fun e w'=>e=.returned (.func (.func 101) #[] #[.pointer (some ⟨w.heap.size+1,0,none⟩),.pointer (some ⟨w.heap.size,0,none⟩)])∧w'=(w.alloc (.cells #[.slice A k cap] 23)).alloc (.cells #[.int .i64 a] 3):=by
 go_enter Tryz.func84,Tryz.ntmps84
 go_wp2
 go_ret
 exact⟨rfl,rfl⟩
theorem _root_.Go.Proofs.YtekogckmgkodfaaGreatDoor.Mem.Blk.apartObj{w:World}{g l:Nat}{t:TypeId}{cs:Array Value}(h:Blk w g t cs)(hne:g≠l)(o:Obj):Blk (w.putObj l o) g t cs:=(World.putObj_heap_other (fun e=>hne e)).trans h
theorem fold_told(t:Array Value)(x:Int×Int):Array.foldl (fun t (x:Nat×Value)=>t.setIfInBounds x.1 x.2) t (#[10,11].zip (told x))=(t.setIfInBounds 10 (.int .i64 x.1)).setIfInBounds 11 (.int .i64 x.2):=by
 simp [told]
theorem End_in(A:Option Addr)(cap:Nat)(xs:List Nd)(a:Int)(w:World)(hx:Nodes w w.heap.size A xs)(hl:xs.length≤10000000000000) :
  CallsIn Fence.wide 4 Tryz.prog 47 #[.slice A xs.length cap,.int .i64 a] w fun e w'=>e=.returned (.int .i64 (aend xs a))∧Below w.heap.size w w':=by
 have hf1:Fence.wide.fn 84:=trivial
 refine callsIn_of_wp_marks Tryz.func47 rfl trivial ?_ rfl
 simp only [Tryz.ntmps47,List.size_toArray,List.length_cons,List.length_nil,Nat.reduceAdd,Nat.reduceSub,Array.replicate_succ,Array.replicate_zero,List.push_toArray,List.append_toArray,List.nil_append,List.cons_append]
 have bR:=Blk.new w 3 #[.int .i64 0]
 have hB0:Below w.heap.size w (w.alloc (.cells #[.int .i64 0] 3)):=(Below.refl _ _).alloc (Nat.le_refl _) _
 gi_wp2_with (gi_at_call 84;refine((callsIn_wide (n:=3)).2 (walk_any A xs.length cap a _)).mono ?_;rintro e w' ⟨rfl,rfl⟩)
 have hsz:w.heap.size+3=(((w.alloc (.cells #[.int .i64 0] 3)).alloc (.cells #[.slice A xs.length cap] 23)).alloc (.cells #[.int .i64 a] 3)).heap.size:=by simp
 have bL:=(Blk.new (w.alloc (.cells #[.int .i64 0] 3)) 23 #[.slice A xs.length cap]).alloc (.cells #[.int .i64 a] 3)
 have bA:=Blk.new ((w.alloc (.cells #[.int .i64 0] 3)).alloc (.cells #[.slice A xs.length cap] 23)) 3 #[.int .i64 a]
 rw [World.size_alloc] at bL bA
 rw [World.size_alloc] at bA
 have bR1:=(bR.alloc (.cells #[.slice A xs.length cap] 23)).alloc (.cells #[.int .i64 a] 3)
 have hB1:Below w.heap.size w (((w.alloc (.cells #[.int .i64 0] 3)).alloc (.cells #[.slice A xs.length cap] 23)).alloc (.cells #[.int .i64 a] 3)):=(hB0.alloc (by simp) _).alloc (by simp;omega) _
 have hX1:=hx.below hB1
 clear hx hB0 bR
 generalize (((w.alloc (.cells #[.int .i64 0] 3)).alloc (.cells #[.slice A xs.length cap] 23)).alloc (.cells #[.int .i64 a] 3))=w1 at *
 have hOF:∀ (Pr:List (Int×Int)→Int→Prop),OwnFrom w1.heap.size (fun(pre:List (Int×Int)) W=>∃ v:Int,Pr pre v∧Blk W w.heap.size 3 #[.int .i64 v]∧Below w.heap.size w W):=by
  rintro Pr s W W' row ⟨v,h1,h2,h3⟩ hg hr
  exact⟨v,h1,h2.grown hg (fun e=>by have:=(hr _ e.symm).1;omega),h3.grown hg h3.size (fun i e=>by have:=(hr _ e).1;omega)⟩
 refine wpIn_rangeFunc_ownG rfl (by omega) (gf:=101) (lb:=#[.pointer (some ⟨w.heap.size+1+1,0,none⟩),.pointer (some ⟨w.heap.size+1,0,none⟩)]) rfl trivial (enters_of Tryz.func101 (by kernel_rfl) rfl)
  (walk1_stops w.heap.size (w.heap.size+1) (w.heap.size+1+1) w.heap.size A cap xs a w1 hl hX1 (by omega) (Nat.le_refl _) (by omega) (by omega) (by omega) (by omega) (bL.cell 0) (bA.cell 0)) (fun h k=>Kept.trans h k) ?hKb (Below.refl _ _) (fun _=>rfl)
  (fun(pre:List (Int×Int)) W=>∃ v:Int,(v=0∧∀ p∈pre,p.2≠0)∧Blk W w.heap.size 3 #[.int .i64 v]∧Below w.heap.size w W)
  (fun c pre W=>∃ v:Int,(c=.ret∧∃ pre',pre=pre'++[(v,0)])∧Blk W w.heap.size 3 #[.int .i64 v]∧Below w.heap.size w W)
  (hOF (fun pre v=>v=0∧∀ p∈pre,p.2≠0)) (fun c=>hOF (fun pre v=>c=.ret∧∃ pre',pre=pre'++[(v,0)]))
  ⟨0,⟨rfl,fun p hp=>by cases hp⟩,bR1,hB1⟩
  (fun x=>{ tmps:=#[.slice A xs.length cap,.int .i64 a,undef,undef,.pointer (some ⟨w.heap.size,0,none⟩),.int .i64 x.1,.int .i64 x.2,.slice A xs.length cap,.int .i64 a,.func (.func 101) #[] #[.pointer (some ⟨w.heap.size+1+1,0,none⟩),.pointer (some ⟨w.heap.size+1,0,none⟩)],.int .i64 x.1,.int .i64 x.2,undef,undef,undef],defers:=[] }) ?assign ?body ?done ?stop
 case hKb =>
  intro W l o o' h _ _ _
  exact Kept.grown (Kept.refl _ _) (grownBy_putObj' W l o') (fun k e=>by cases e;exact .inl (.inr h))
 case assign =>
  intro l x W K hK
  rw [fold_told]
  simp only [List.setIfInBounds_toArray,List.set_cons_succ,List.set_cons_zero]
  gi_wp2
  exact hK
 case body =>
  rintro l pre x W ⟨v,⟨rfl,hp⟩,bR,hB⟩ hlt
  have hc:=bR.cell 0
  have hfz:=bR.frozen 0
  by_cases h0:x.2=0
  ·obtain⟨b,q⟩:=x
   simp only at h0
   subst h0
   have hlt1:w.heap.size<w1.heap.size:=by omega
   gi_wp2
   refine⟨⟨by simp [World.setCell],fun k o hk ho _=>(Below.heap_setCell _ _ _ _ (fun e=>by simp at e;omega)).trans ho⟩,b,⟨rfl,pre,rfl⟩,bR.set 0 _,⟨hB.os,hB.tape,hB.output,by simpa [World.setCell] using hB.size,fun k hk=>(Below.heap_setCell _ _ _ _ (fun e=>by simp at e;omega)).trans (hB.block k hk)⟩⟩
  ·have h0':(x.2==0)=false:=by rw [beq_eq_false_iff_ne];exact h0
   gi_wp2
   refine⟨KeepsFrom.refl _ _,Kept.refl _ _,0,⟨rfl,fun p hm=>?_⟩,bR,hB⟩
   rcases List.mem_append.1 hm with hm | hm
   ·exact hp p hm
   ·rw [List.mem_singleton] at hm;subst hm;exact h0
 case done =>
  rintro D ys W hD rfl ⟨v,⟨rfl,hp⟩,bR,hB⟩ hK
  have hE:=Lib.hid (rows_none hp)
  have hc:=bR.cell 0
  have hfz:=bR.frozen 0
  clear hp
  gi_wp2
  have hK':(W.setCell ⟨w.heap.size,0,none⟩ (.int .i64 (-1))).heap[D]? = some (.deferred (some [])):=(Below.heap_setCell _ _ _ _ (fun e=>by simp at e;omega)).trans hK
  refine⟨by simp,.inl ⟨_,_,rfl,run_takeDeferred hK',?_⟩⟩
  have hDR:w.heap.size≠D:=by omega
  have hc2:=((bR.set 0 (.int .i64 (-1))).apartObj hDR (.deferred none)).cell 0
  have hcz:((#[Value.int .i64 0]:Array Value).setIfInBounds 0 (.int .i64 (-1)))[0]? = some (.int .i64 (-1)):=rfl
  rw [hcz] at hc2
  have hB2:Below w.heap.size w (W.setCell ⟨w.heap.size,0,none⟩ (.int .i64 (-1))):=⟨hB.os,hB.tape,hB.output,by simpa [World.setCell] using hB.size,fun k hk=>(Below.heap_setCell _ _ _ _ (fun e=>by simp at e;omega)).trans (hB.block k hk)⟩
  refine⟨.int .i64 (-1),by simp [results,Tryz.results47,go_sem,hc2],by rw [hE.out],hB2.trans (belowK_b (w:=w) (Nat.le_refl _) _ D _ _ (by omega) hK' rfl rfl)⟩
 case stop =>
  rintro D c pre W hD hpre ⟨v,⟨rfl,pre',rfl⟩,bR,hB⟩ hK
  have hE:=Lib.hid (rows_last hpre)
  have hc:=bR.cell 0
  refine wpIn_ret ?_
  gi_wp2
  refine⟨by simp,.inl ⟨_,_,rfl,run_takeDeferred hK,?_⟩⟩
  have hDR:w.heap.size≠D:=by omega
  have hc2:=(bR.apartObj hDR (.deferred none)).cell 0
  have hcz:(#[Value.int .i64 v]:Array Value)[0]? = some (.int .i64 v):=rfl
  rw [hcz] at hc2
  refine⟨.int .i64 v,by simp [results,Tryz.results47,go_sem,hc2],by rw [hE.out],hB.trans (belowK_b (w:=w) (Nat.le_refl _) _ D _ _ (by omega) hK rfl rfl)⟩
theorem End_anyL(A:Option Addr)(cap:Nat)(xs:List Nd)(a:Int)(w:World)(hx:Nodes w w.heap.size A xs)(hl:xs.length≤10000000000000) :
  Calls Tryz.prog 47 #[.slice A xs.length cap,.int .i64 a] w fun e w'=>e=.returned (.int .i64 (aend xs a))∧Below w.heap.size w w' :=
 (callsIn_wide (n:=4)).1 (End_in A cap xs a w hx hl)
theorem End_any(A:Option Addr)(cap:Nat)(xs:List Nd)(a:Int)(w:World)(hx:Nodes w w.heap.size A xs)(hl:xs.length≤1000000) :
  Calls Tryz.prog 47 #[.slice A xs.length cap,.int .i64 a] w fun e w'=>e=.returned (.int .i64 (aend xs a))∧Below w.heap.size w w' :=
 End_anyL A cap xs a w hx (by omega)
end Go.Proofs.YtekogckmgkodfaaGreatDoor.Arena
