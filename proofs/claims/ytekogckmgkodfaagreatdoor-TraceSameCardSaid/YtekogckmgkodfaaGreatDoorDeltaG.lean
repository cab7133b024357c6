/-
  Plain facts on programs that are changed in one place: what is told by kinds, and by whether a node is a block, stays. No program is met here.
  Plain facts on deltas: what is changed, and that a typed program stays typed. No program is met here.
  Plain facts on deltas as bytes: what is put is read back, whatever stands behind it; a delta has one form. No program is met here.
  Plain facts on deltas: one order; what is changed stands in one place; a tag or a number that is changed is changed back. No program is met here.
  What the functions of deltas come to.
  Arguments that are deltas by value: what they hold.
-/
import Derived.Test.YtekogckmgkodfaaGreatDoorKindsG
import Derived.Test.YtekogckmgkodfaaGreatDoorCodeG
import Derived.Test.YtekogckmgkodfaaGreatDoorPathG
set_option linter.unusedVariables false
namespace Go.Proofs.YtekogckmgkodfaaGreatDoor.Delta
open Arena Kinds
def kblk(y:Int×Int):Int×Bool:=(y.1,decide (y.2=20))
def blksB(ks:List (Int×Bool)):Bool:=(ks.drop 1).all Prod.snd
def ruleB(vs:List Int)(x:Nd)(ks:List (Int×Bool)):Int :=
 if x.1=1 then 0 else if x.1=2 then 1
 else if x.1=3 then ifso (vtyp vs x.2=0∨vtyp vs x.2=1) (vtyp vs x.2)
 else if x.1=4 then ifso (0<asz (vtyp vs x.2)∧ks.map Prod.fst=[0]) 0
 else if x.1=5 then ifso (ks.map Prod.fst=[0]) 0
 else if x.1=6 then ifso (ks.map Prod.fst=[1]) 1
 else if 7≤x.1∧x.1≤11 then ifso (ks.map Prod.fst=[0,0]) 0
 else if 12≤x.1∧x.1≤17 then ifso (ks.map Prod.fst=[0,0]) 1
 else if x.1=18∨x.1=19 then ifso (ks.map Prod.fst=[1,1]) 1
 else if x.1=20 then ifso (alltwo (ks.map Prod.fst)=true) 2
 else if x.1=21 then ifso ((vtyp vs x.2=0∨vtyp vs x.2=1)∧ks.map Prod.fst=[vtyp vs x.2]) 2
 else if x.1=22 then ifso (0<asz (vtyp vs x.2)∧ks.map Prod.fst=[0,0]) 2
 else if x.1=23 then ifso (ks.map Prod.fst=[1,2,2]∧blksB ks=true) 2
 else if x.1=24 then ifso (ks.map Prod.fst=[1,2]∧blksB ks=true) 2
 else if x.1=25 then ifso (ks.map Prod.fst=[0]) 2
 else 2
theorem rule_blk(vs:List Int)(x:Nd)(ks:List (Int×Int)):rule vs x ks=ruleB vs x (ks.map kblk):=by
 have h1:(ks.map kblk).map Prod.fst=ks.map Prod.fst:=by rw [List.map_map];rfl
 have h2:blksB (ks.map kblk)=blks ks:=by
  unfold blksB blks
  rw [← List.map_drop,List.all_map]
  rfl
 unfold rule ruleB
 rw [h1,h2]
def kb(vs:List Int)(x:Nd)(ks:List (Int×Bool)):Int×Bool:=(ruleB vs x ks,decide (x.1=20))
theorem kd_blk(vs:List Int)(x:Nd)(ks:List (Int×Int)):kblk (kd vs x ks)=kb vs x (ks.map kblk):=by
 unfold kblk kd kb
 simp only
 rw [rule_blk]
 rfl
theorem fold_blk(vs:List Int):∀ X:List Nd,fold (kb vs) X=(fold (kd vs) X).map kblk
 | []=>rfl
 | x::X=>by
  rw [fold_cons,fold_cons,fold_blk vs X,List.map_cons,kd_blk,List.map_take,List.map_drop]
theorem val_drop{β:Type}(f:Nd→List β→β)(d:β){l:List Nd}{k n:Nat}(h:scan 1 (l.drop k)=some n):val f d l k=(fold f (l.drop k)).headD d:=by
 have hs:l.drop k=apart l k++l.drop (k+n):=by
  unfold apart
  rw [if_neg (by rw [aend_some h];omega),aend_some h,Int.toNat_natCast,show((k:Int)+n).toNat-k=n by omega,← List.drop_drop,List.take_append_drop]
 have hp:=part_scan h
 rw [← part_len h] at hp
 rw [hs,fold_append f _ 1 _ hp,fold_part f d h]
 rfl
theorem okind_drop(vs:List Int){l:List Nd}{k n:Nat}(h:scan 1 (l.drop k)=some n):okind vs l k=((fold (kb vs) (l.drop k)).headD (-1,false)).1:=by
 unfold okind
 rw [val_drop _ _ h,fold_blk]
 cases fold (kd vs) (l.drop k)<;>rfl
theorem oblk_drop(vs:List Int){l:List Nd}{k n:Nat}(h:scan 1 (l.drop k)=some n):decide (otag l k=20)=((fold (kb vs) (l.drop k)).headD (-1,false)).2:=by
 have e:=val_tag (vs:=vs) h
 rw [val_drop _ _ h] at e
 rw [fold_blk]
 cases hf:fold (kd vs) (l.drop k) with
 | nil =>
  rw [hf] at e
  simp at e
  rw [← e.2];rfl
 | cons y Y =>
  rw [hf] at e
  simp at e
  rw [e];rfl
theorem same_at(vs:List Int){X A B:List Nd}(h:fold (kb vs) A=fold (kb vs) B){k n m:Nat}(hk:k≤X.length)(ha:scan 1 ((X++A).drop k)=some n)(hb:scan 1 ((X++B).drop k)=some m) :
  okind vs (X++B) k=okind vs (X++A) k∧(otag (X++B) k=20↔otag (X++A) k=20):=by
 have e:fold (kb vs) ((X++B).drop k)=fold (kb vs) ((X++A).drop k):=by
  rw [List.drop_append_of_le_length hk,List.drop_append_of_le_length hk]
  exact(fold_congr (kb vs) (X.drop k) h).symm
 constructor
 ·rw [okind_drop vs ha,okind_drop vs hb,e]
 ·have q1:=oblk_drop vs ha
  have q2:=oblk_drop vs hb
  rw [e,← q1] at q2
  rw [← decide_eq_true_iff (p:=otag (X++B) k=20),q2,decide_eq_true_iff]
def Less:List Nat→List Nat→Prop
 | [],[]=>True
 | x::p,y::q=>x≤y∧Less p q
 | _,_=>False
theorem less_refl:∀ p,Less p p
 | []=>trivial
 | _::p=>⟨Nat.le_refl _,less_refl p⟩
theorem less_take:∀ {p q:List Nat} (k:Nat),Less p q→Less (p.take k) (q.take k)∧Less (p.drop k) (q.drop k)
 | p,q,0,h=>by simp only [List.take_zero,List.drop_zero];exact⟨trivial,h⟩
 | [],[],k+1,h=>⟨trivial,trivial⟩
 | [],_::_,k+1,h=>h.elim
 | _::_,[],k+1,h=>h.elim
 | x::p,y::q,k+1,h=>by
  obtain⟨h1,h2⟩:=less_take k h.2
  rw [List.take_succ_cons,List.take_succ_cons,List.drop_succ_cons,List.drop_succ_cons]
  exact⟨⟨h.1,h1⟩,h2⟩
theorem less_most:∀ {p q:List Nat},Less p q→most p≤most q
 | [],[],_=>Nat.le_refl _
 | [],_::_,h=>h.elim
 | _::_,[],h=>h.elim
 | x::p,y::q,h=>by
  have:=less_most h.2
  have:=h.1
  show max x (most p)≤max y (most q)
  omega
theorem less_stk{A B:List Nd}(h:Less (stk A) (stk B)):∀ X:List Nd,Less (stk (X++A)) (stk (X++B))
 | []=>h
 | x::X=>by
  have ih:=less_stk h X
  obtain⟨h1,h2⟩:=less_take (ar x).toNat ih
  rw [List.cons_append,List.cons_append,stk,stk]
  exact⟨by have:=less_most h1;omega,h2⟩
theorem less_add{p q r s:List Nat}(h:Less p q)(k:Less r s):Less (p++r) (q++s):=by
 induction p generalizing q with
 | nil=>cases q with
  | nil=>exact k
  | cons y q=>exact h.elim
 | cons x p ih=>cases q with
  | nil=>exact h.elim
  | cons y q=>exact⟨h.1,ih h.2⟩
theorem depth_less{X A B:List Nd}(h:Less (stk B) (stk A))(ha:scan 1 (X++A)=some (X++A).length)(hb:scan 1 (X++B)=some (X++B).length):adep (X++B) 0≤adep (X++A) 0:=by
 have q1:=stk_whole (l:=X++A) (k:=0) ha
 have q2:=stk_whole (l:=X++B) (k:=0) hb
 rw [List.drop_zero,List.take_length] at q1 q2
 have:=less_stk h X
 rw [q1,q2] at this
 exact this.1
theorem stk_add{P:List Nd}(hP:scan 1 P=some P.length)(Z:List Nd):stk (P++Z)=adep P 0::stk Z:=by
 have e:∀ X:List Nd,stk X=fold (fun _ ks=>1+most ks) X:=by
  intro X
  induction X with
  | nil=>rfl
  | cons x X ih=>rw [stk,fold_cons,ih]
 have q:=stk_whole (l:=P) (k:=0) hP
 rw [List.drop_zero,List.take_length] at q
 rw [e,fold_append _ _ 1 _ hP,← e,← e,q]
 rfl
theorem adep_pos{P:List Nd}(hP:scan 1 P=some P.length):1≤adep P 0:=by
 have:=adep_good (l:=P) (k:=0) hP
 rw [show((0:Nat):Int)=0 from rfl] at this
 omega
theorem typed_of{ps:Int}{vs:List Int}{X A B:List Nd}(hc:pcheck ps vs (X++A)=0)(h:fold (kb vs) A=fold (kb vs) B)(hb:scan 1 (X++B)=some (X++B).length)(hl:(X++B).length≤200){k:Nat}(hk:k≤X.length)(hkb:k<(X++B).length)(hka:k<(X++A).length) :
  okind vs (X++B) 0=2∧okind vs (X++B) k=okind vs (X++A) k∧pcheck ps vs (X++B)=if 30<adep (X++B) 0 then 13 else 0:=by
 obtain⟨c1,c2,c3,c4⟩:=pcheck_zero hc
 obtain⟨-,hw⟩:=acheck_zero c1
 obtain⟨n,hn⟩:=scan_at _ 1 k hw hka
 obtain⟨m,hm⟩:=scan_at _ 1 k hb hkb
 obtain⟨e1,e2⟩:=same_at vs h (k:=0) (Nat.zero_le _) (n:=(X++A).length) (m:=(X++B).length) hw hb
 obtain⟨f1,-⟩:=same_at vs h hk hn hm
 rw [show((0:Nat):Int)=0 from rfl] at e1 e2
 refine⟨by omega,f1,?_⟩
 have ht:=e2.2 c3
 unfold pcheck
 rw [acheck_scan hb hl]
 by_cases hd:30<adep (X++B) 0
 ·rw [if_pos hd,if_pos (by omega)]
 ·rw [if_neg hd,if_neg (by omega),if_neg (by omega),if_neg (by omega)]
theorem typed_less{ps:Int}{vs:List Int}{X A B:List Nd}(hc:pcheck ps vs (X++A)=0)(h:fold (kb vs) A=fold (kb vs) B)(hs:Less (stk B) (stk A))(hb:scan 1 (X++B)=some (X++B).length)(hl:(X++B).length≤200){k:Nat}(hk:k≤X.length)(hkb:k<(X++B).length)(hka:k<(X++A).length) :
  okind vs (X++B) 0=2∧okind vs (X++B) k=okind vs (X++A) k∧pcheck ps vs (X++B)=0:=by
 obtain⟨t1,t2,t3⟩:=typed_of hc h hb hl hk hkb hka
 obtain⟨c1,c2,c3,c4⟩:=pcheck_zero hc
 obtain⟨l1,hw⟩:=acheck_zero c1
 have hd:=depth_less hs hw hb
 rw [acheck_scan hw l1] at c1
 have hd2:¬ 30<adep (X++A) 0:=fun q=>by rw [if_pos q] at c1;cases c1
 rw [if_neg (by omega)] at t3
 exact⟨t1,t2,t3⟩
def dmay(t op n:Int):Bool :=
 if op=1 then decide (7≤t∧t≤11) && decide (7≤n∧n≤11)
 else if op=2 then decide (12≤t∧t≤17) && decide (12≤n∧n≤17)
 else if op=3 then decide (18≤t∧t≤19) && decide (18≤n∧n≤19)
 else if op=4 then decide (t=1) || (decide (t=2) && decide (0≤n∧n≤1))
 else if op=5 then decide (t=21∨t=22∨t=23∨t=24∨t=25) && decide (n=0)
 else if op=6 then decide (t=23∨t=24) && decide (n=0)
 else if op=7 then decide (t=25) else false
def swap(l:List Nd)(a b:Nat)(m:List Nd):List Nd:=l.take a++m++l.drop b
def dch(l:List Nd)(a:Nat)(op n:Int):List Nd :=
 if op=1∨op=2∨op=3 then swap l a (a+1) [(n,(l.getD a (0,0)).2)]
 else if op=4 then swap l a (a+1) [((l.getD a (0,0)).1,n)]
 else if op=5 then swap l a (aend l a).toNat [(26,0)]
 else if op=6 then swap l (a+1) (a+1) [(6,0)]
 else swap l (a+1) (aend l ((a+1:Nat):Int)).toNat [(1,n)]
theorem at_split{l:List Nd}{a:Nat}{x:Nd}(h:l[a]? = some x):l=l.take a++(x::l.drop (a+1)):=by
 obtain⟨ha,e⟩:=List.getElem?_eq_some_iff.1 h
 conv=>lhs;rw [← List.take_append_drop a l,List.drop_eq_getElem_cons ha,e]
theorem getD_at{l:List Nd}{a:Nat}{x:Nd}(h:l[a]? = some x):l.getD a (0,0)=x:=by
 rw [List.getD_eq_getElem?_getD,h];rfl
theorem scan_root{x x':Nd}(h:ar x=ar x')(Y:List Nd):∀ (X:List Nd) (c:Nat),scan c (X++(x'::Y))=scan c (X++(x::Y))
 | [],0=>by rw [scan_0,scan_0]
 | [],c+1=>by rw [List.nil_append,List.nil_append,scan_cons,scan_cons,h]
 | y::X,0=>by rw [scan_0,scan_0]
 | y::X,c+1=>by rw [List.cons_append,List.cons_append,scan_cons,scan_cons,scan_root h Y X]
theorem fold_root(vs:List Int){x x':Nd}(h:ar x=ar x')(Y:List Nd)(hk:∀ K,kb vs x' K=kb vs x K):fold (kb vs) (x::Y)=fold (kb vs) (x'::Y):=by
 rw [fold_cons,fold_cons,← h,hk]
theorem stk_root{x x':Nd}(h:ar x=ar x')(Y:List Nd):Less (stk (x'::Y)) (stk (x::Y)):=by
 rw [stk,stk,h];exact less_refl _
theorem fold_part_add{β:Type}(f:Nd→List β→β){P:List Nd}(hP:scan 1 P=some P.length)(Z:List Nd)(d:β):fold f (P++Z)=val f d P 0::fold f Z:=by
 have e:=fold_part f d (l:=P) (k:=0) (n:=P.length) hP
 rw [show((0:Nat):Int)=0 from rfl,whole_part hP] at e
 rw [fold_append f _ 1 _ hP,e]
 rfl
theorem val_kb(vs:List Int){l:List Nd}{k n:Nat}(h:scan 1 (l.drop k)=some n):val (kb vs) (-1,false) l k=(okind vs l k,decide (otag l k=20)):=by
 have e1:=okind_drop vs h
 have e2:=oblk_drop vs h
 rw [val_drop _ _ h]
 rw [e1,e2]
theorem kind_of_tag{vs:List Int}{x:Nd}{ks:List (Int×Int)}(h:0≤rule vs x ks) :
  ((x.1=21∨x.1=22∨x.1=23∨x.1=24∨x.1=25)→rule vs x ks=2)∧(x.1=23→ks.map Prod.fst=[1,2,2])∧(x.1=24→ks.map Prod.fst=[1,2])∧(x.1=25→ks.map Prod.fst=[0])∧(x.1=20→rule vs x ks=2):=by
 refine⟨?_,?_,?_,?_,?_⟩
 ·rintro(q | q | q | q | q)<;>(unfold rule at h ⊢;simp only [q] at h ⊢;simp at h ⊢;have:=ifso_ge h;unfold ifso;rw [if_pos this])
 ·intro q;unfold rule at h;simp only [q] at h;simp at h;exact(ifso_ge h).1
 ·intro q;unfold rule at h;simp only [q] at h;simp at h;exact(ifso_ge h).1
 ·intro q;unfold rule at h;simp only [q] at h;simp at h;exact ifso_ge h
 ·intro q;unfold rule at h ⊢;simp only [q] at h ⊢;simp at h ⊢;have:=ifso_ge h;unfold ifso;rw [if_pos this]
theorem typed_at{ps:Int}{vs:List Int}{l:List Nd}(hc:pcheck ps vs l=0){a:Nat}(ha:a<l.length):∃ (x:Nd) (n:Nat),l[a]? = some x∧0≤ar x∧scan 1 (l.drop a)=some n∧0≤okind vs l a∧(akids l a).length=(ar x).toNat ∧
  okind vs l a=rule vs x ((akids l a).map fun q=>(okind vs l q,otag l q))∧otag l a=x.1∧scan 1 l=some l.length∧l.length≤200:=by
 obtain⟨c1,c2,c3,c4⟩:=pcheck_zero hc
 obtain⟨l1,hw⟩:=acheck_zero c1
 obtain⟨n,hn⟩:=scan_at l 1 a hw ha
 obtain⟨x,e1,e2,e3,e4⟩:=okind_kids (vs:=vs) hn
 refine⟨x,n,e1,e2,hn,okind_below hw (by omega) hn,e3,e4,?_,hw,l1⟩
 unfold otag
 rw [Int.toNat_natCast,getD_at e1]
theorem ar_two{t k:Int}(h:7≤t∧t≤19):ar (t,k)=if k<0∨0<k then -1 else 2:=by
 have ha:asks t k=(2,0):=by
  unfold asks
  rw [if_neg (by omega),if_neg (by omega),if_neg (by omega),if_neg (by omega),if_neg (by omega),if_pos (by omega)]
 unfold ar
 simp only
 rw [if_neg (by omega),ha]
def Told(ps:Int)(vs:List Int)(l l':List Nd)(a:Nat):Prop:=okind vs l' 0=2∧okind vs l' a=okind vs l a∧pcheck ps vs l'=0
theorem root_told{ps:Int}{vs:List Int}{l:List Nd}(hc:pcheck ps vs l=0){a:Nat}{x x':Nd}(hx:l[a]? = some x)(h:ar x=ar x')(hk:∀ K,kb vs x' K=kb vs x K):Told ps vs l (swap l a (a+1) [x']) a:=by
 have e:=at_split hx
 have ha:a<l.length:=(List.getElem?_eq_some_iff.1 hx).1
 obtain⟨c1,-,-,-⟩:=pcheck_zero hc
 obtain⟨l1,hw⟩:=acheck_zero c1
 have hlt:(l.take a).length=a:=by rw [List.length_take];omega
 have e2:swap l a (a+1) [x']=l.take a++(x'::l.drop (a+1)):=by unfold swap;simp
 have hlen:(l.take a++(x'::l.drop (a+1))).length=l.length:=by
  conv=>rhs;rw [e]
  simp
 rw [e2]
 unfold Told
 have hc':=hc
 rw [e] at hc'
 have hb:scan 1 (l.take a++(x'::l.drop (a+1)))=some (l.take a++(x'::l.drop (a+1))).length:=by
  rw [scan_root h,hlen,← e];exact hw
 have q:=typed_less hc' (fold_root vs h _ hk) (stk_root h _) hb (by rw [hlen];exact l1) (k:=a) (by omega) (by rw [hlen];exact ha) (by rw [← e];exact ha)
 rw [← e] at q
 exact q
theorem arith_told{ps:Int}{vs:List Int}{l:List Nd}(hc:pcheck ps vs l=0){a:Nat}{x:Nd}(hx:l[a]? = some x){n:Int}
  (h:(7≤x.1∧x.1≤11∧7≤n∧n≤11)∨(12≤x.1∧x.1≤17∧12≤n∧n≤17)∨(18≤x.1∧x.1≤19∧18≤n∧n≤19)):Told ps vs l (swap l a (a+1) [(n,x.2)]) a:=by
 refine root_told hc hx ?_ (fun K=>?_)
 ·obtain⟨t,k⟩:=x
  simp only at h ⊢
  rw [ar_two (by omega),ar_two (by omega)]
 ·unfold kb ruleB
  simp only
  rcases h with⟨h1,h2,h3,h4⟩ | ⟨h1,h2,h3,h4⟩ | ⟨h1,h2,h3,h4⟩
  ·rw [if_neg (by omega),if_neg (by omega),if_neg (by omega),if_neg (by omega),if_neg (by omega),if_neg (by omega),if_pos (by omega),if_neg (by omega),if_neg (by omega),if_neg (by omega),if_neg (by omega),if_neg (by omega),if_neg (by omega),if_pos (by omega),decide_eq_false (by omega),decide_eq_false (by omega)]
  ·rw [if_neg (by omega),if_neg (by omega),if_neg (by omega),if_neg (by omega),if_neg (by omega),if_neg (by omega),if_neg (by omega),if_pos (by omega),if_neg (by omega),if_neg (by omega),if_neg (by omega),if_neg (by omega),if_neg (by omega),if_neg (by omega),if_neg (by omega),if_pos (by omega),decide_eq_false (by omega),decide_eq_false (by omega)]
  ·rw [if_neg (by omega),if_neg (by omega),if_neg (by omega),if_neg (by omega),if_neg (by omega),if_neg (by omega),if_neg (by omega),if_neg (by omega),if_pos (by omega),if_neg (by omega),if_neg (by omega),if_neg (by omega),if_neg (by omega),if_neg (by omega),if_neg (by omega),if_neg (by omega),if_neg (by omega),if_pos (by omega),decide_eq_false (by omega),decide_eq_false (by omega)]
theorem const_told{ps:Int}{vs:List Int}{l:List Nd}(hc:pcheck ps vs l=0){a:Nat}{x:Nd}(hx:l[a]? = some x){n:Int}
  (h:x.1=1∨(x.1=2∧0≤n∧n≤1)):Told ps vs l (swap l a (a+1) [(x.1,n)]) a:=by
 have ha:a<l.length:=(List.getElem?_eq_some_iff.1 hx).1
 obtain⟨x2,m,e1,e2,-⟩:=typed_at hc ha
 rw [hx] at e1
 obtain rfl:=Option.some.inj e1
 obtain⟨t,k⟩:=x
 simp only at h
 rcases h with rfl | ⟨rfl,h1,h2⟩
 ·exact root_told hc hx rfl (fun K=>rfl)
 ·refine root_told hc hx ?_ (fun K=>rfl)
  have q:∀ z:Int,ar (2,z)=if z<0∨1<z then -1 else 0:=fun z=>by unfold ar asks;simp
  rw [q] at e2
  rw [q,q]
  split at e2
  ·omega
  ·rename_i c
   rw [if_neg c,if_neg (show ¬ (n<0∨1<n) by omega)]
theorem part_told{ps:Int}{vs:List Int}{l m:List Nd}(hc:pcheck ps vs l=0)(hl:l.length+m.length≤200){a k n:Nat}(ha:a≤k)(h:scan 1 (l.drop k)=some n)(hm:scan 1 m=some m.length)(hv:val (kb vs) (-1,false) m 0=val (kb vs) (-1,false) l k)(hd:adep m 0≤adep (apart l k) 0):Told ps vs l (l.take k++(m++l.drop (k+n))) a:=by
 obtain⟨hs,ht⟩:=split3 h
 obtain⟨c1,-,-,-⟩:=pcheck_zero hc
 obtain⟨l1,hw⟩:=acheck_zero c1
 obtain⟨r1,r2⟩:=rep_whole hw h hm
 rw [rep_is h] at r1 r2
 have hll:=scan_le _ _ _ h
 rw [List.length_drop] at hll
 have hp:=part_scan h
 rw [← part_len h] at hp
 have hm1:=(scan_le _ _ _ hm).1
 have hc':=hc
 rw [hs] at hc'
 unfold Told
 have q:=typed_less hc' (A:=apart l k++l.drop (k+n)) (B:=m++l.drop (k+n)) (by
   rw [fold_part_add _ hp _ (-1,false),fold_part_add _ hm _ (-1,false),hv,val_part _ _ h])
  (by rw [stk_add hp,stk_add hm];exact⟨hd,less_refl _⟩) r1 (by omega) (k:=a) (by omega) (by omega) (by rw [← hs];omega)
 rw [← hs] at q
 exact q
theorem leaf_scan{x:Nd}(h:ar x=0):scan 1 ([x]:List Nd)=some [x].length:=by
 rw [show(1:Nat)=0+1 from rfl,scan_good (by omega),h]
 show(scan 0 []).map (· + 1)=some 1
 rw [scan_0];rfl
theorem adep_leaf{x:Nd}(h:ar x=0):adep [x] 0=1:=by
 have hs:scan 1 ([x]:List Nd)=some 1:=leaf_scan h
 have q:=stk_whole (l:=[x]) (k:=0) hs
 rw [List.drop_zero,show([x]:List Nd).take 1=[x] from rfl,stk,h] at q
 simp [stk,most] at q
 exact q.symm
theorem leaf_val(vs:List Int){x:Nd}(h:ar x=0):val (kb vs) (-1,false) [x] 0=kb vs x []:=by
 have e:=val_drop (kb vs) (-1,false) (l:=[x]) (k:=0) (n:=1) (leaf_scan h)
 rw [show((0:Nat):Int)=0 from rfl] at e
 rw [e,List.drop_zero,fold_cons,h]
 rfl
theorem leaf_told{ps:Int}{vs:List Int}{l:List Nd}(hc:pcheck ps vs l=0)(hl:l.length≤199){a k n:Nat}(ha:a≤k)(h:scan 1 (l.drop k)=some n){x:Nd}(hx:ar x=0)(hv:kb vs x []=(okind vs l k,decide (otag l k=20))):Told ps vs l (l.take k++([x]++l.drop (k+n))) a:=by
 have hp:=part_scan h
 rw [← part_len h] at hp
 refine part_told hc (by simp;omega) ha h (leaf_scan hx) ?_ ?_
 ·rw [leaf_val vs hx,hv,val_kb vs h]
 ·rw [adep_leaf hx];exact adep_pos hp
theorem first_kid{vs:List Int}{l:List Nd}{a n:Nat}(h:scan 1 (l.drop a)=some n){k1:Int}{ks:List Int}(hk:((akids l a).map fun q=>(okind vs l q,otag l q)).map Prod.fst=k1::ks):okind vs l ((a+1:Nat):Int)=k1∧∃ n1,scan 1 (l.drop (a+1))=some n1:=by
 obtain⟨x,-,-,e,hs,-,-⟩:=node_kids h
 rw [e] at hk
 cases hc:(ar x).toNat with
 | zero=>rw [hc] at hk;simp [kidsFrom] at hk
 | succ c =>
  rw [hc,kidsFrom] at hk
  rw [hc,Nat.add_comm,scan_add] at hs
  simp only [List.map_cons,List.cons.injEq] at hk
  refine⟨hk.1,?_⟩
  cases h1:scan 1 (l.drop (a+1)) with
  | none=>rw [h1] at hs;cases hs
  | some n1=>exact⟨n1,rfl⟩
theorem no_block{ps:Int}{vs:List Int}{l:List Nd}(hc:pcheck ps vs l=0){k:Nat}(hk:k<l.length)(h:okind vs l k≠2):otag l k≠20:=by
 obtain⟨x,n,e1,e2,e3,e4,e5,e6,e7,-⟩:=typed_at hc hk
 intro q
 rw [e7] at q
 rw [e6] at e4 h
 exact h ((kind_of_tag e4).2.2.2.2 q)
theorem dch_typed{ps:Int}{vs:List Int}{l:List Nd}(hc:pcheck ps vs l=0)(hl:l.length≤199){a:Nat}{x:Nd}(hx:l[a]? = some x){op n:Int}(hm:dmay x.1 op n=true) :
  okind vs (dch l a op n) 0=2∧okind vs (dch l a op n) a=okind vs l a∧(pcheck ps vs (dch l a op n)=0∨(pcheck ps vs (dch l a op n)=13∧op=6)):=by
 have ha:a<l.length:=(List.getElem?_eq_some_iff.1 hx).1
 obtain⟨x2,nn,e1,e2,e3,e4,e5,e6,e7,hw,-⟩:=typed_at hc ha
 rw [hx] at e1
 obtain rfl:=Option.some.inj e1
 have hg:=getD_at hx
 have hT:∀ l',Told ps vs l l' a→okind vs l' 0=2∧okind vs l' a=okind vs l a∧(pcheck ps vs l'=0∨(pcheck ps vs l'=13∧op=6)):=fun l' t=>⟨t.1,t.2.1,.inl t.2.2⟩
 have e4':=e4
 rw [e6] at e4'
 have hkt:=kind_of_tag e4'
 unfold dmay at hm
 unfold dch
 rw [hg]
 by_cases o1:op=1
 ·rw [if_pos o1] at hm
  rw [if_pos (.inl o1)]
  simp at hm
  exact hT _ (arith_told hc hx (.inl ⟨hm.1.1,hm.1.2,hm.2.1,hm.2.2⟩))
 rw [if_neg o1] at hm
 by_cases o2:op=2
 ·rw [if_pos o2] at hm
  rw [if_pos (.inr (.inl o2))]
  simp at hm
  exact hT _ (arith_told hc hx (.inr (.inl ⟨hm.1.1,hm.1.2,hm.2.1,hm.2.2⟩)))
 rw [if_neg o2] at hm
 by_cases o3:op=3
 ·rw [if_pos o3] at hm
  rw [if_pos (.inr (.inr o3))]
  simp at hm
  exact hT _ (arith_told hc hx (.inr (.inr ⟨hm.1.1,hm.1.2,hm.2.1,hm.2.2⟩)))
 rw [if_neg o3] at hm
 rw [if_neg (by omega)]
 by_cases o4:op=4
 ·rw [if_pos o4] at hm
  rw [if_pos o4]
  simp at hm
  exact hT _ (const_told hc hx (hm.imp id (fun q=>⟨q.1,q.2.1,q.2.2⟩)))
 rw [if_neg o4] at hm
 rw [if_neg o4]
 by_cases o5:op=5
 ·rw [if_pos o5] at hm
  rw [if_pos o5]
  simp at hm
  have hk2:=hkt.1 hm.1
  have hd:(aend l a).toNat=a+nn:=by rw [aend_some e3];omega
  have q:=leaf_told hc hl (Nat.le_refl a) e3 (x:=(26,0)) (by unfold ar asks;simp) (by
   rw [e6,hk2,e7,decide_eq_false (by omega)]
   unfold kb ruleB
   simp)
  rw [hd]
  unfold swap
  rw [List.append_assoc]
  exact hT _ q
 rw [if_neg o5] at hm
 rw [if_neg o5]
 by_cases o6:op=6
 ·rw [if_pos o6] at hm
  rw [if_pos o6]
  simp at hm
  have hfk:∃ ks,((akids l a).map fun q=>(okind vs l q,otag l q)).map Prod.fst=1::ks:=by
   rcases hm.1 with q | q
   ·exact⟨_,hkt.2.1 q⟩
   ·exact⟨_,hkt.2.2.1 q⟩
  obtain⟨ks,hks⟩:=hfk
  obtain⟨k1,n1,hn1⟩:=first_kid e3 hks
  have hll:=scan_le _ _ _ hn1
  rw [List.length_drop] at hll
  have hnb:=no_block hc (k:=a+1) (by omega) (by rw [k1];omega)
  obtain⟨hs,ht⟩:=split3 hn1
  have hp:=part_scan hn1
  rw [← part_len hn1] at hp
  have hm6:scan 1 ((6,0)::apart l ((a+1:Nat):Int))=some ((6,0)::apart l ((a+1:Nat):Int)).length:=by
   have h6:ar (6,0)=1:=by unfold ar asks;simp
   rw [show(1:Nat)=0+1 from rfl,scan_good (by rw [h6];omega),h6]
   show(scan 1 (apart l ((a+1:Nat):Int))).map (· + 1)=_
   rw [hp];rfl
  obtain⟨r1,r2⟩:=rep_whole hw hn1 hm6
  rw [rep_is hn1] at r1 r2
  have e9:swap l (a+1) (a+1) [(6,0)]=l.take (a+1)++((6,0)::apart l ((a+1:Nat):Int)++l.drop (a+1+n1)):=by
   unfold swap
   have:l.drop (a+1)=apart l ((a+1:Nat):Int)++l.drop (a+1+n1):=by
    conv=>lhs;rw [hs,List.drop_left' ht]
   rw [this];simp
  rw [e9]
  have hpl:=part_len hn1
  simp only [List.length_cons] at r2
  have hc':=hc
  rw [hs] at hc'
  have hf:fold (kb vs) (apart l ((a+1:Nat):Int)++l.drop (a+1+n1))=fold (kb vs) ((6,0)::apart l ((a+1:Nat):Int)++l.drop (a+1+n1)):=by
   have h6:ar (6,0)=1:=by unfold ar asks;simp
   rw [List.cons_append,fold_cons,h6,fold_part_add _ hp _ (-1,false),val_part _ _ hn1,val_kb vs hn1,k1,decide_eq_false hnb]
   show _=kb vs (6,0) [(1,false)]::fold (kb vs) (l.drop (a+1+n1))
   unfold kb ruleB ifso
   simp
  have q:=typed_of hc' hf r1 (by omega) (k:=a) (by omega) (by omega) (by rw [← hs];omega)
  rw [← hs] at q
  obtain⟨q1,q2,q3⟩:=q
  refine⟨q1,q2,?_⟩
  rw [q3]
  split
  ·exact .inr ⟨rfl,o6⟩
  ·exact .inl rfl
 rw [if_neg o6] at hm
 rw [if_neg o6]
 by_cases o7:op=7
 ·rw [if_pos o7,decide_eq_true_eq] at hm
  obtain⟨k1,n1,hn1⟩:=first_kid e3 (hkt.2.2.2.1 hm)
  have hll:=scan_le _ _ _ hn1
  rw [List.length_drop] at hll
  have hnb:=no_block hc (k:=a+1) (by omega) (by rw [k1];omega)
  have hd:(aend l ((a+1:Nat):Int)).toNat=a+1+n1:=by rw [aend_some hn1];omega
  have q:=leaf_told hc hl (Nat.le_succ a) hn1 (x:=(1,n)) (by unfold ar;simp) (by
   rw [k1,decide_eq_false hnb]
   unfold kb ruleB
   simp)
  rw [hd]
  unfold swap
  rw [List.append_assoc]
  exact hT _ q
 ·rw [if_neg o7] at hm;cases hm
end Go.Proofs.YtekogckmgkodfaaGreatDoor.Delta
namespace Go.Proofs.YtekogckmgkodfaaGreatDoor.Delta
open Go.RowKit Leb Mem Wire Zig Arena Kinds _root_.Go.Proofs.YtekogckmgkodfaaGreatDoor.Code
structure Right (p:List Int) (op:Int):Prop where
 len:p.length≤30
 rng:∀ k∈p,0≤k∧k≤199
 op0:1≤op
 op1:op≤7
def pathb(p:List Int):List UInt8:=p.flatMap fun k=>lput k.toNat
def dput(p:List Int)(op n:Int):List UInt8:=lput p.length++(pathb p++(tb op::lput (zig n).toNat))
def rp(g:Int×Int→(Int×Int)×Int)(s:Int×Int):Nat→List Int×(Int×Int)
 | 0=>([],s)
 | i+1=>((rp g s i).1++[(g (rp g s i).2).2],(g (rp g s i).2).1)
def Asks(S:ByteArray)(g:Int×Int→(Int×Int)×Int):Prop:=∀ (x y:List UInt8) (n:Nat),n≤199→S.data.toList=x++(lput n++y)→g ((x.length:Int),0)=(((x.length:Int)+(lput n).length,0),(n:Int))
theorem rp_put{S:ByteArray}{g:Int×Int→(Int×Int)×Int}(hg:Asks S g){x y:List UInt8}{p:List Int}(hp:∀ k∈p,0≤k∧k≤199)(hS:S.data.toList=x++(pathb p++y)):∀ i,i≤p.length→rp g ((x.length:Int),0) i=(p.take i,((x.length:Int)+(pathb (p.take i)).length,0))
 | 0,_=>by simp [rp,pathb]
 | i+1,h=>by
  have ih:=rp_put hg hp hS i (by omega)
  obtain⟨t,ht⟩:∃ t,p[i]? = some t:=⟨_,List.getElem?_eq_getElem (by omega)⟩
  have hr:=hp t (List.mem_of_getElem? ht)
  have hsp:p=p.take i++(t::p.drop (i+1)):=by
   have:p.drop i=t::p.drop (i+1):=by
    have hi:i<p.length:=by omega
    rw [List.drop_eq_getElem_cons hi]
    rw [List.getElem?_eq_getElem hi] at ht
    rw [Option.some.inj ht]
   rw [← this,List.take_append_drop]
  have htk:p.take (i+1)=p.take i++[t]:=by rw [List.take_add_one,ht];rfl
  have hS2:S.data.toList=(x++pathb (p.take i))++(lput t.toNat++(pathb (p.drop (i+1))++y)):=by
   rw [hS]
   conv=>lhs;rw [hsp]
   simp [pathb]
  have ha:=hg _ _ t.toNat (by omega) hS2
  rw [List.length_append,Int.natCast_add,Int.toNat_of_nonneg hr.1] at ha
  rw [rp,ih]
  simp only
  rw [ha,htk]
  simp [pathb]
  omega
theorem rp_len(g:Int×Int→(Int×Int)×Int)(s:Int×Int):∀ i,(rp g s i).1.length=i
 | 0=>rfl
 | i+1=>by rw [rp,List.length_append,rp_len g s i];rfl
theorem asks_ask(S:ByteArray):Asks S fun s=>Code.ask S s 2:=fun _ _ _ hn hS=>ask_num (by omega) hS
theorem asks_askP(S:ByteArray){N:Int}(h0:199≤N)(h1:N≤1000000):Asks S fun s=>askP S s 2 N:=fun _ _ _ hn hS=>askP_num h1 (by omega) hS
def d1(S:ByteArray):(Int×Int)×Int:=Code.ask S (0,0) 2
def d2(S:ByteArray):List Int×(Int×Int):=rp (fun s=>Code.ask S s 2) (d1 S).1 (min (d1 S).2.toNat 31)
def d3(S:ByteArray):(Int×Int)×Int:=Code.ask S (d2 S).2 0
def d4(S:ByteArray):(Int×Int)×Int:=Code.ask S (d3 S).1 3
theorem d_put{p:List Int}{op n:Int}(g:Right p op)(h0 : -9223372036854775808≤n)(h1:n≤9223372036854775807){S:ByteArray}{y:List UInt8}(hS:S.data.toList=dput p op n++y) :
  (d2 S).1=p∧(d3 S).2=op∧(d4 S).2=n∧(d4 S).1=(((dput p op n).length:Int),0):=by
 have l1:S.data.toList=[]++(lput p.length++((pathb p++(tb op::lput (zig n).toNat))++y)):=by rw [hS];unfold dput;simp
 have a1:=ask_num (n:=p.length) (by have:=g.len;omega) l1
 have l2:S.data.toList=lput p.length++(pathb p++((tb op::lput (zig n).toNat)++y)):=by rw [hS];unfold dput;simp
 have a2:=rp_put (asks_ask S) g.rng l2 p.length (Nat.le_refl _)
 have l3:S.data.toList=(lput p.length++pathb p)++(tb op::(lput (zig n).toNat++y)):=by rw [hS];unfold dput;simp
 have a3:=ask_byte l3
 have l4:S.data.toList=(lput p.length++pathb p++[tb op])++(lput (zig n).toNat++y):=by rw [hS];unfold dput;simp
 have a4:=ask_int h0 h1 l4
 rw [tb_val (by have:=g.op0;omega) (by have:=g.op1;omega)] at a3
 have hl:=g.len
 simp only [List.length_append,List.length_nil,List.length_cons,Int.natCast_add,Int.natCast_zero,Int.natCast_one,Int.zero_add,List.take_length] at a1 a2 a3 a4
 have e1:d1 S=((((lput p.length).length:Int),0),(p.length:Int)):=by unfold d1;exact a1
 have e2:d2 S=(p,((lput p.length).length:Int)+(pathb p).length,0):=by unfold d2;rw [e1];simp only [Int.toNat_natCast];rw [Nat.min_eq_left (by omega)];exact a2
 have e3:d3 S=((((lput p.length).length:Int)+(pathb p).length+1,0),op):=by unfold d3;rw [e2];exact a3
 have e4:d4 S=((((lput p.length).length:Int)+(pathb p).length+1+(lput (zig n).toNat).length,0),n):=by unfold d4;rw [e3];exact a4
 refine⟨by rw [e2],by rw [e3],by rw [e4],?_⟩
 rw [e4]
 unfold dput
 simp only [List.length_append,List.length_cons,Int.natCast_add,Int.natCast_one,Prod.mk.injEq,and_true]
 omega
theorem dput_one{p p':List Int}{op op' n n':Int}(g:Right p op)(g':Right p' op')(h0 : -9223372036854775808≤n)(h1:n≤9223372036854775807)(h0' : -9223372036854775808≤n')(h1':n'≤9223372036854775807){y y':List UInt8}(h:dput p op n++y=dput p' op' n'++y') :
  (p=p'∧op=op'∧n=n')∧y=y':=by
 obtain⟨a1,a2,a3,-⟩:=d_put g h0 h1 (S:=strB (dput p op n++y)) (y:=y) (strB_list _)
 obtain⟨b1,b2,b3,-⟩:=d_put g' h0' h1' (S:=strB (dput p op n++y)) (y:=y') (by rw [strB_list,h])
 obtain rfl:p=p':=a1.symm.trans b1
 obtain rfl:op=op':=a2.symm.trans b2
 obtain rfl:n=n':=a3.symm.trans b3
 exact⟨⟨rfl,rfl,rfl⟩,List.append_cancel_left h⟩
def dfits(S:ByteArray):Prop:=Right (d2 S).1 (d3 S).2∧dput (d2 S).1 (d3 S).2 (d4 S).2=S.data.toList
theorem d4_rng(S:ByteArray) : -9223372036854775808≤(d4 S).2∧(d4 S).2≤9223372036854775807:=ask_rng S _ 3 (.inr rfl)
theorem dfits_put{p:List Int}{op n:Int}(g:Right p op)(h0 : -9223372036854775808≤n)(h1:n≤9223372036854775807){S:ByteArray}(hS:S.data.toList=dput p op n):dfits S∧(d2 S).1=p∧(d3 S).2=op∧(d4 S).2=n:=by
 obtain⟨a1,a2,a3,-⟩:=d_put g h0 h1 (S:=S) (y:=[]) (by rw [hS,List.append_nil])
 refine⟨?_,a1,a2,a3⟩
 unfold dfits
 rw [a1,a2,a3]
 exact⟨g,hS.symm⟩
def e1(S:ByteArray):(Int×Int)×Int:=askP S (0,0) 2 30
def e2(S:ByteArray):List Int×(Int×Int):=rp (fun s=>askP S s 2 199) (e1 S).1 (e1 S).2.toNat
def e3(S:ByteArray):(Int×Int)×Int:=askP S (e2 S).2 0 0
def e4(S:ByteArray):(Int×Int)×Int:=askP S (e3 S).1 3 0
theorem e_put{p:List Int}{op n:Int}(g:Right p op)(h0 : -9223372036854775808≤n)(h1:n≤9223372036854775807){S:ByteArray}{y:List UInt8}(hS:S.data.toList=dput p op n++y) :
  (e2 S).1=p∧(e3 S).2=op∧(e4 S).2=n∧(e4 S).1=(((dput p op n).length:Int),0):=by
 have l1:S.data.toList=[]++(lput p.length++((pathb p++(tb op::lput (zig n).toNat))++y)):=by rw [hS];unfold dput;simp
 have a1:=askP_num (N:=30) (n:=p.length) (by omega) (by have:=g.len;omega) l1
 have l2:S.data.toList=lput p.length++(pathb p++((tb op::lput (zig n).toNat)++y)):=by rw [hS];unfold dput;simp
 have a2:=rp_put (asks_askP S (N:=199) (by omega) (by omega)) g.rng l2 p.length (Nat.le_refl _)
 have l3:S.data.toList=(lput p.length++pathb p)++(tb op::(lput (zig n).toNat++y)):=by rw [hS];unfold dput;simp
 have a3:=askP_byte l3
 have l4:S.data.toList=(lput p.length++pathb p++[tb op])++(lput (zig n).toNat++y):=by rw [hS];unfold dput;simp
 have a4:=askP_int (N:=0) h0 h1 l4
 rw [tb_val (by have:=g.op0;omega) (by have:=g.op1;omega)] at a3
 simp only [List.length_append,List.length_nil,List.length_cons,Int.natCast_add,Int.natCast_zero,Int.natCast_one,Int.zero_add,List.take_length] at a1 a2 a3 a4
 have f1:e1 S=((((lput p.length).length:Int),0),(p.length:Int)):=by unfold e1;exact a1
 have f2:e2 S=(p,((lput p.length).length:Int)+(pathb p).length,0):=by unfold e2;rw [f1];simp only [Int.toNat_natCast];exact a2
 have f3:e3 S=((((lput p.length).length:Int)+(pathb p).length+1,0),op):=by unfold e3;rw [f2];exact a3
 have f4:e4 S=((((lput p.length).length:Int)+(pathb p).length+1+(lput (zig n).toNat).length,0),n):=by unfold e4;rw [f3];exact a4
 refine⟨by rw [f2],by rw [f3],by rw [f4],?_⟩
 rw [f4]
 unfold dput
 simp only [List.length_append,List.length_cons,Int.natCast_add,Int.natCast_one,Prod.mk.injEq,and_true]
 omega
end Go.Proofs.YtekogckmgkodfaaGreatDoor.Delta
namespace Go.Proofs.YtekogckmgkodfaaGreatDoor.Delta
open Arena Path
def three(a b:Int):Int:=if a<b then -1 else if b<a then 1 else 0
def dcmp(p:List Int)(op n:Int)(p':List Int)(op' n':Int):Int:=if cmp p p'≠0 then cmp p p' else if op≠op' then three op op' else three n n'
theorem three_turn(a b:Int):three b a = -three a b:=by
 unfold three
 repeat' split
 all_goals omega
theorem three_zero{a b:Int}:three a b=0↔a=b:=by
 unfold three
 constructor
 ·intro h
  repeat' split at h
  all_goals omega
 ·rintro rfl
  simp
theorem dcmp_turn(p:List Int)(op n:Int)(p':List Int)(op' n':Int):dcmp p' op' n' p op n = -dcmp p op n p' op' n':=by
 unfold dcmp
 rw [cmp_turn p p']
 by_cases h:cmp p p'=0
 ·rw [h,if_neg (show ¬ (-(0:Int)≠0) by simp),if_neg (show ¬ ((0:Int)≠0) by simp)]
  by_cases k:op=op'
  ·rw [if_neg (by omega),if_neg (by omega)];exact three_turn _ _
  ·rw [if_pos (by omega),if_pos (by omega)];exact three_turn _ _
 ·rw [if_pos (by omega),if_pos (by omega)]
theorem dcmp_zero{p:List Int}{op n:Int}{p':List Int}{op' n':Int}:dcmp p op n p' op' n'=0↔p=p'∧op=op'∧n=n':=by
 unfold dcmp
 constructor
 ·intro h
  by_cases c:cmp p p'=0
  ·rw [if_neg (by omega)] at h
   by_cases k:op=op'
   ·rw [if_neg (by omega)] at h
    exact⟨cmp_zero _ _ c,k,three_zero.1 h⟩
   ·rw [if_pos k] at h
    exact absurd (three_zero.1 h) k
  ·rw [if_pos c] at h;exact absurd h c
 ·rintro⟨rfl,rfl,rfl⟩
  rw [cmp_self,if_neg (by simp),if_neg (by simp)]
  exact three_zero.2 rfl
theorem three_trans{a b c:Int}(h:three a b≤0)(k:three b c≤0):three a c≤0:=by
 unfold three at *
 repeat' split at h
 all_goals repeat' split at k
 all_goals repeat' split
 all_goals omega
theorem three_le{a b:Int}:three a b≤0↔a≤b:=by
 unfold three
 repeat' split
 all_goals omega
theorem cmp_both{p q r:List Int}(h:cmp p q≤0)(k:cmp q r≤0)(e:cmp p r=0):cmp p q=0∧cmp q r=0:=by
 have:=cmp_zero _ _ e
 subst this
 have t:=cmp_turn p q
 omega
theorem dcmp_trans{p:List Int}{op n:Int}{p':List Int}{op' n':Int}{p2:List Int}{op2 n2:Int}(h:dcmp p op n p' op' n'≤0)(k:dcmp p' op' n' p2 op2 n2≤0):dcmp p op n p2 op2 n2≤0:=by
 unfold dcmp at *
 have h1:cmp p p'≤0:=by
  by_cases c:cmp p p'=0
  ·omega
  ·rw [if_pos c] at h;exact h
 have k1:cmp p' p2≤0:=by
  by_cases c:cmp p' p2=0
  ·omega
  ·rw [if_pos c] at k;exact k
 have t:=cmp_trans p p' p2 h1 k1
 by_cases e:cmp p p2=0
 ·obtain⟨e1,e2⟩:=cmp_both h1 k1 e
  rw [if_neg (by omega)] at h k ⊢
  by_cases o1:op=op'
  ·subst o1
   rw [if_neg (by omega)] at h
   by_cases o2:op=op2
   ·rw [if_neg (by omega)] at k ⊢
    exact three_trans h k
   ·rw [if_pos o2] at k ⊢
    exact k
  ·rw [if_pos o1] at h
   have h2:=three_le.1 h
   by_cases o2:op'=op2
   ·subst o2
    rw [if_pos o1]
    exact h
   ·rw [if_pos o2] at k
    have k2:=three_le.1 k
    rw [if_pos (by omega)]
    exact three_trans h k
 ·rw [if_pos e];exact t
theorem swap_len{l m:List Nd}{a b:Nat}(ha:a≤l.length):(swap l a b m).length=a+m.length+(l.length-b):=by
 unfold swap
 rw [List.length_append,List.length_append,List.length_take,List.length_drop]
 omega
theorem swap_lo{l m:List Nd}{a b i:Nat}(ha:a≤l.length)(h:i<a):(swap l a b m)[i]? = l[i]? := by
 unfold swap
 rw [List.append_assoc,List.getElem?_append_left (by rw [List.length_take];omega),List.getElem?_take,if_pos h]
theorem swap_hi{l m:List Nd}{a b i:Nat}(ha:a≤l.length)(h:b≤i):(swap l a b m)[a+m.length+(i-b)]? = l[i]? := by
 unfold swap
 rw [List.getElem?_append_right (by rw [List.length_append,List.length_take];omega),List.getElem?_drop,List.length_append,List.length_take]
 congr 1
 omega
theorem dch_swap{l:List Nd}{a n:Nat}{x:Nd}(h:scan 1 (l.drop a)=some n)(hx:l[a]? = some x){op v:Int}(hm:dmay x.1 op v=true):∃ (f t:Nat) (y:Nd),dch l a op v=swap l f t [y]∧a≤f∧f≤t∧t≤a+n∧t≤l.length∧(op≤4→f=a∧t=a+1):=by
 have hl:=scan_le _ _ _ h
 rw [List.length_drop] at hl
 have ha:a<l.length:=(List.getElem?_eq_some_iff.1 hx).1
 unfold dch
 by_cases o1:op=1∨op=2∨op=3
 ·rw [if_pos o1]
  exact⟨a,a+1,_,rfl,by omega,by omega,by omega,by omega,fun _=>⟨rfl,rfl⟩⟩
 rw [if_neg o1]
 by_cases o4:op=4
 ·rw [if_pos o4]
  exact⟨a,a+1,_,rfl,by omega,by omega,by omega,by omega,fun _=>⟨rfl,rfl⟩⟩
 rw [if_neg o4]
 by_cases o5:op=5
 ·rw [if_pos o5,aend_some h,show(((a:Int)+(n:Int)).toNat)=a+n by omega]
  exact⟨a,a+n,_,rfl,by omega,by omega,by omega,by omega,fun _=>by omega⟩
 rw [if_neg o5]
 by_cases o6:op=6
 ·rw [if_pos o6]
  exact⟨a+1,a+1,_,rfl,by omega,by omega,by omega,by omega,fun _=>by omega⟩
 rw [if_neg o6]
 unfold dmay at hm
 by_cases o7:op=7
 ·rw [if_neg (by omega),if_neg (by omega),if_neg (by omega),if_neg o4,if_neg o5,if_neg o6,if_pos o7,decide_eq_true_eq] at hm
  have hd:l.drop a=x::l.drop (a+1):=by
   rw [List.drop_eq_getElem_cons ha]
   rw [List.getElem?_eq_getElem ha] at hx
   rw [Option.some.inj hx]
  have har:0≤ar x:=by
   by_cases c:ar x<0
   ·rw [hd,show(1:Nat)=0+1 from rfl,scan_bad c] at h;cases h
   ·omega
  have ha1:ar x=1:=by
   unfold ar at har ⊢
   rw [hm] at har ⊢
   rw [if_neg (by decide)] at har ⊢
   split
   ·rename_i c;rw [if_pos c] at har;omega
   ·unfold asks;simp
  rw [hd,show(1:Nat)=0+1 from rfl,scan_good har,ha1,Option.map_eq_some_iff] at h
  obtain⟨n1,h1,rfl⟩:=h
  have h1':scan 1 (l.drop (a+1))=some n1:=h1
  rw [aend_some h1',show((((a+1:Nat):Int)+(n1:Int)).toNat)=a+1+n1 by omega]
  have hl1:=scan_le _ _ _ h1'
  rw [List.length_drop] at hl1
  exact⟨a+1,a+1+n1,_,rfl,by omega,by omega,by omega,by omega,fun _=>by omega⟩
 ·rw [if_neg (by omega),if_neg (by omega),if_neg (by omega),if_neg o4,if_neg o5,if_neg o6,if_neg o7] at hm
  cases hm
theorem dch_else{l:List Nd}{a n:Nat}{x:Nd}(h:scan 1 (l.drop a)=some n)(hx:l[a]? = some x){op v:Int}(hm:dmay x.1 op v=true){i:Nat}(hi:i<l.length) :
  (i<a→i<(dch l a op v).length∧(dch l a op v)[i]? = l[i]?) ∧
  (a+n≤i→∃ j:Nat,((dch l a op v).length:Int)-l.length+i=j∧j<(dch l a op v).length∧(dch l a op v)[j]? = l[i]?):=by
 obtain⟨f,t,y,e,h1,h2,h3,h4,-⟩:=dch_swap h hx hm
 rw [e]
 have hl:=swap_len (l:=l) (m:=[y]) (a:=f) (b:=t) (by omega)
 rw [List.length_singleton] at hl
 refine⟨fun q=>⟨by omega,swap_lo (by omega) (by omega)⟩,fun q=>⟨f+1+(i-t),by omega,by omega,?_⟩⟩
 exact swap_hi (m:=[y]) (by omega) (by omega)
theorem root_drop{l:List Nd}{a:Nat}{x x':Nd}(hx:l[a]? = some x)(h:ar x=ar x')(k c:Nat):scan c ((swap l a (a+1) [x']).drop k)=scan c (l.drop k):=by
 have hs:=at_split hx
 have ha:a<l.length:=(List.getElem?_eq_some_iff.1 hx).1
 have ht:(l.take a).length=a:=by rw [List.length_take];omega
 have e:swap l a (a+1) [x']=l.take a++(x'::l.drop (a+1)):=by unfold swap;simp
 rw [e]
 conv=>rhs;rw [hs]
 by_cases q:k≤a
 ·rw [List.drop_append_of_le_length (by omega),List.drop_append_of_le_length (by omega)]
  exact scan_root h _ _ _
 ·rw [List.drop_append,List.drop_append,ht,show k-a=(k-a-1)+1 by omega,List.drop_succ_cons,List.drop_succ_cons]
theorem root_end{l:List Nd}{a:Nat}{x x':Nd}(hx:l[a]? = some x)(h:ar x=ar x')(k:Int):aend (swap l a (a+1) [x']) k=aend l k:=by
 unfold aend
 rw [root_drop hx h]
theorem root_ar{l:List Nd}{a:Nat}{x x':Nd}(hx:l[a]? = some x)(h:ar x=ar x')(k:Nat):ar ((swap l a (a+1) [x']).getD k (0,0))=ar (l.getD k (0,0)):=by
 have ha:a<l.length:=(List.getElem?_eq_some_iff.1 hx).1
 rw [List.getD_eq_getElem?_getD,List.getD_eq_getElem?_getD]
 rcases Nat.lt_trichotomy k a with q | q | q
 ·rw [swap_lo (by omega) q]
 ·subst q
  rw [hx]
  have:(swap l k (k+1) [x'])[k]? = some x':=by
   unfold swap
   have ht:(l.take k).length=k:=by rw [List.length_take];omega
   rw [List.append_assoc,List.getElem?_append_right (by omega),ht,Nat.sub_self]
   rfl
  rw [this]
  exact h.symm
 ·have:=swap_hi (l:=l) (m:=[x']) (a:=a) (b:=a+1) (i:=k) (by omega) (by omega)
  rw [List.length_singleton,show a+1+(k-(a+1))=k by omega] at this
  rw [this]
theorem root_from{l:List Nd}{a:Nat}{x x':Nd}(hx:l[a]? = some x)(h:ar x=ar x'):∀ (c:Nat) (k:Int),kidsFrom (swap l a (a+1) [x']) c k=kidsFrom l c k
 | 0,_=>rfl
 | c+1,k=>by rw [kidsFrom,kidsFrom,root_end hx h,root_from hx h c]
theorem root_kids{l:List Nd}{a:Nat}{x x':Nd}(hx:l[a]? = some x)(h:ar x=ar x')(k:Int):akids (swap l a (a+1) [x']) k=akids l k:=by
 unfold akids
 rw [root_end hx h,root_ar hx h,root_from hx h]
theorem root_down{l:List Nd}{a:Nat}{x x':Nd}(hx:l[a]? = some x)(h:ar x=ar x'):∀ (p:List Int) (k:Int),down (swap l a (a+1) [x']) p k=down l p k
 | [],_=>rfl
 | y::p,k=>by rw [down,down,root_kids hx h,root_down hx h p]
theorem root_len{l:List Nd}{a:Nat}{x x':Nd}(hx:l[a]? = some x):(swap l a (a+1) [x']).length=l.length:=by
 have ha:a<l.length:=(List.getElem?_eq_some_iff.1 hx).1
 rw [swap_len (by omega),List.length_singleton]
 omega
theorem root_find{l:List Nd}{a:Nat}{x x':Nd}(hx:l[a]? = some x)(h:ar x=ar x')(p:List Int):pfind (swap l a (a+1) [x']) p=pfind l p:=by
 unfold pfind
 rw [root_end hx h,root_len hx,root_down hx h]
theorem root_at{l:List Nd}{a:Nat}{x x':Nd}(hx:l[a]? = some x):(swap l a (a+1) [x'])[a]? = some x':=by
 have ha:a<l.length:=(List.getElem?_eq_some_iff.1 hx).1
 have ht:(l.take a).length=a:=by rw [List.length_take];omega
 unfold swap
 rw [List.append_assoc,List.getElem?_append_right (by omega),ht,Nat.sub_self]
 rfl
theorem root_back{l:List Nd}{a:Nat}{x:Nd}(x':Nd)(hx:l[a]? = some x):swap (swap l a (a+1) [x']) a (a+1) [x]=l:=by
 have ha:a<l.length:=(List.getElem?_eq_some_iff.1 hx).1
 have ht:(l.take a).length=a:=by rw [List.length_take];omega
 have e:swap l a (a+1) [x']=l.take a++(x'::l.drop (a+1)):=by unfold swap;simp
 rw [e]
 unfold swap
 rw [List.take_left' ht,show a+1=(l.take a).length+1 by omega,← List.drop_drop,List.drop_left' rfl,ht]
 conv=>rhs;rw [at_split hx]
 simp
theorem dch_twice{l:List Nd}{a n:Nat}{x:Nd}(h:scan 1 (l.drop a)=some n)(hx:l[a]? = some x){op v:Int}(hm:dmay x.1 op v=true)(ho:op≤4){p:List Int}(hp:pfind l p=a) :
  ∃ y:Nd,(dch l a op v)[a]? = some y∧pfind (dch l a op v) p=a∧dmay y.1 op (if op=4 then x.2 else x.1)=true∧dch (dch l a op v) a op (if op=4 then x.2 else x.1)=l:=by
 have ha:a<l.length:=(List.getElem?_eq_some_iff.1 hx).1
 have hd:l.drop a=x::l.drop (a+1):=by
  rw [List.drop_eq_getElem_cons ha]
  have hx':=hx
  rw [List.getElem?_eq_getElem ha] at hx'
  rw [Option.some.inj hx']
 have har:0≤ar x:=by
  by_cases c:ar x<0
  ·rw [hd,show(1:Nat)=0+1 from rfl,scan_bad c] at h;cases h
  ·omega
 obtain⟨t,k⟩:=x
 have hg:=getD_at hx
 have key:∀ y:Nd,dch l a op v=swap l a (a+1) [y]→ar (t,k)=ar y→dmay y.1 op (if op=4 then k else t)=true→(dch (swap l a (a+1) [y]) a op (if op=4 then k else t)=swap (swap l a (a+1) [y]) a (a+1) [(t,k)]) →
   ∃ y:Nd,(dch l a op v)[a]? = some y∧pfind (dch l a op v) p=a∧dmay y.1 op (if op=4 then k else t)=true∧dch (dch l a op v) a op (if op=4 then k else t)=l:=by
  intro y e1 e2 e3 e4
  rw [e1]
  exact⟨y,root_at hx,by rw [root_find hx e2,hp],e3,by rw [e4,root_back y hx]⟩
 by_cases o4:op=4
 ·subst o4
  simp only [dmay] at hm
  simp at hm
  refine key (t,v) ?_ ?_ ?_ ?_
  ·unfold dch;rw [if_neg (by omega),if_pos rfl,hg]
  ·rcases hm with q | ⟨q,q1,q2⟩
   ·unfold ar;simp [q]
   ·unfold ar asks at har ⊢
    simp [q] at har ⊢
    split at har
    ·omega
    ·first | rfl | (rw [if_neg (by omega)];done) | (rw [if_neg (by omega),if_neg (by omega)])
  ·rw [if_pos rfl]
   simp only [dmay]
   simp
   rcases hm with q | ⟨q,q1,q2⟩
   ·exact .inl q
   ·refine .inr ⟨q,?_⟩
    unfold ar asks at har
    simp [q] at har
    split at har
    ·omega
    ·omega
  ·rw [if_pos rfl]
   unfold dch
   rw [if_neg (by omega),if_pos rfl,getD_at (root_at hx)]
 ·rw [if_neg o4] at key ⊢
  have hr:(7≤t∧t≤19∧7≤v∧v≤19)∧(op=1∨op=2∨op=3)∧dmay v op t=true:=by
   unfold dmay at hm ⊢
   by_cases o1:op=1
   ·rw [if_pos o1] at hm ⊢
    simp at hm ⊢
    omega
   rw [if_neg o1] at hm ⊢
   by_cases o2:op=2
   ·rw [if_pos o2] at hm ⊢
    simp at hm ⊢
    omega
   rw [if_neg o2] at hm ⊢
   by_cases o3:op=3
   ·rw [if_pos o3] at hm ⊢
    simp at hm ⊢
    omega
   rw [if_neg o3,if_neg o4,if_neg (by omega),if_neg (by omega),if_neg (by omega)] at hm
   cases hm
  obtain⟨r1,r2,r3⟩:=hr
  refine key (v,k) ?_ ?_ r3 ?_
  ·unfold dch;rw [if_pos r2,hg]
  ·rw [ar_two ⟨r1.1,r1.2.1⟩,ar_two ⟨r1.2.2.1,r1.2.2.2⟩]
  ·unfold dch
   rw [if_pos r2,getD_at (root_at hx)]
end Go.Proofs.YtekogckmgkodfaaGreatDoor.Delta
namespace Go.Proofs.YtekogckmgkodfaaGreatDoor.Delta
open Go.RowKit Leb Mem Arena Kinds Path
structure Dlt where
 A:Option Addr
 c:Nat
 p:List Int
 op:Int
 n:Int
structure Dlt.Ok (d:Dlt) (w:World):Prop where
 path:IRow w w.heap.size d.A d.p
 len:d.p.length≤1000000
 cap:d.p.length≤d.c
 none:d.A=none→d.c=0
theorem Dlt.Ok.at{d:Dlt}{w w':World}(h:d.Ok w)(hb:Below w.heap.size w w'):d.Ok w':=⟨h.path.at hb,h.len,h.cap,h.none⟩
theorem Dlt.Ok.drew{d:Dlt}{w:World}(h:d.Ok w):d.Ok w.drew:=⟨h.path,h.len,h.cap,h.none⟩
def N64(n:Int):Prop := -9223372036854775808≤n∧n≤9223372036854775807
def aerr(xs:List Nd)(p:List Int)(op n:Int):Int:=if pfind xs p = -1 then 16 else if dmay (xs.getD (pfind xs p).toNat (0,0)).1 op n=true then 0 else 17
def anew(xs:List Nd)(p:List Int)(op n:Int):List Nd:=dch xs (pfind xs p).toNat op n
theorem find_cases(xs:List Nd)(p:List Int):pfind xs p = -1∨∃ (a n:Nat) (x:Nd),pfind xs p=a∧scan 1 (xs.drop a)=some n∧xs[a]? = some x∧a+n≤xs.length∧1≤n:=by
 by_cases hw:Whole xs
 ·have h:pfind xs p=down xs p 0:=if_pos hw
  rw [h]
  by_cases h0:0≤down xs p 0
  ·obtain⟨b,m,e,t,s1,s2,-⟩:=down_in xs p 0 xs.length hw.t h0
   have hp:=t.pos
   exact .inr ⟨b,m,xs[b]'(by omega),e,t,List.getElem?_eq_getElem _,hp.2,hp.1⟩
  ·refine .inl ?_
   have key:∀ (p:List Int) (a:Nat) (n:Nat),T xs a n→down xs p a = -1∨0≤down xs p a:=by
    intro p
    induction p with
    | nil=>intro a n _;right;rw [down_nil];omega
    | cons y p ih =>
     intro a n ht
     by_cases hy:y<0∨((akids xs a).length:Int)≤y
     ·exact .inl (down_no hy)
     ·obtain⟨j,rfl⟩:=Int.eq_ofNat_of_zero_le (show 0≤y by omega)
      obtain⟨q,m,r1,r2,-⟩:=kid_at ht (j:=j) (by omega)
      rw [down_go r1]
      exact ih q m r2
   rcases key p 0 xs.length hw.t with q | q
   ·exact q
   ·exact absurd q h0
 ·exact .inl (if_neg hw)
theorem aerr_path{xs:List Nd}{p:List Int}(h:pfind xs p = -1)(op n:Int):aerr xs p op n=16:=if_pos h
theorem aerr_at{xs:List Nd}{p:List Int}{a:Nat}{x:Nd}(h:pfind xs p=a)(hx:xs[a]? = some x)(op n:Int):aerr xs p op n=if dmay x.1 op n=true then 0 else 17:=by
 unfold aerr
 rw [if_neg (by omega),h,Int.toNat_natCast,getD_at hx]
theorem aerr_zero{xs:List Nd}{p:List Int}{op n:Int}(h:aerr xs p op n=0):∃ (a m:Nat) (x:Nd),pfind xs p=a∧scan 1 (xs.drop a)=some m∧xs[a]? = some x∧a+m≤xs.length∧1≤m∧dmay x.1 op n=true∧anew xs p op n=dch xs a op n:=by
 rcases find_cases xs p with q | ⟨a,m,x,h1,h2,h3,h4,h5⟩
 ·rw [aerr_path q] at h;cases h
 ·rw [aerr_at h1 h3] at h
  by_cases hm:dmay x.1 op n=true
  ·exact⟨a,m,x,h1,h2,h3,h4,h5,hm,by unfold anew;rw [h1,Int.toNat_natCast]⟩
  ·rw [if_neg hm] at h;cases h
theorem dch_len{xs:List Nd}{a m:Nat}{x:Nd}(h:scan 1 (xs.drop a)=some m)(hx:xs[a]? = some x){op n:Int}(hm:dmay x.1 op n=true):(dch xs a op n).length≤xs.length+1:=by
 obtain⟨f,t,y,e,h1,h2,h3,h4,-⟩:=dch_swap h hx hm
 rw [e,swap_len (by omega),List.length_singleton]
 omega
theorem anew_len{xs:List Nd}{p:List Int}{op n:Int}(h:aerr xs p op n=0):(anew xs p op n).length≤xs.length+1:=by
 obtain⟨a,m,x,-,h2,h3,-,-,h6,h7⟩:=aerr_zero h
 rw [h7]
 exact dch_len h2 h3 h6
def AEnds(p:Prg)(d:Dlt)(w:World)(e:Ending)(w':World):Prop :=
  Below w.heap.size w w' ∧
  ((aerr p.xs d.p d.op d.n = 0 ∧ ∃ A c B ce, e = .returned (.tuple #[.agg #[.int .i64 p.ps, .slice A p.vs.length c, .slice B (anew p.xs d.p d.op d.n).length ce], .int .i64 0]) ∧ Prg.Ok ⟨p.ps, A, c, p.vs, B, ce, anew p.xs d.p d.op d.n⟩ w') ∨
   (aerr p.xs d.p d.op d.n≠0∧∃ A c B ce,e=.returned (.tuple #[.agg #[.int .i64 0,.slice A 0 c,.slice B 0 ce],.int .i64 (aerr p.xs d.p d.op d.n)])∧Prg.Ok ⟨0,A,c,[],B,ce,[]⟩ w'))
def AEndsF(p:Prg)(d:Dlt)(w:World)(e:Ending)(w':World):Prop :=
  Below w.heap.size w w' ∧
  ((aerr p.xs d.p d.op d.n = 0 ∧ ∃ A c B ce, e = .returned (.tuple #[.agg #[.int .i64 p.ps, .slice A p.vs.length c, .slice B (anew p.xs d.p d.op d.n).length ce], .int .i64 0]) ∧ Prg.Ok ⟨p.ps, A, c, p.vs, B, ce, anew p.xs d.p d.op d.n⟩ w' ∧ ∀ ad, A = some ad → p.A = some ad ∨ w.heap.size ≤ ad.block) ∨
   (aerr p.xs d.p d.op d.n≠0∧∃ A c B ce,e=.returned (.tuple #[.agg #[.int .i64 0,.slice A 0 c,.slice B 0 ce],.int .i64 (aerr p.xs d.p d.op d.n)])∧Prg.Ok ⟨0,A,c,[],B,ce,[]⟩ w'))
theorem AEndsF.end{p:Prg}{d:Dlt}{w w':World}{e:Ending}(h:AEndsF p d w e w'):AEnds p d w e w':=by
 obtain⟨hb,⟨h0,A,c,B,ce,h1,h2,-⟩ | h⟩:=h
 ·exact⟨hb,.inl ⟨h0,A,c,B,ce,h1,h2⟩⟩
 ·exact⟨hb,.inr h⟩
def DEnds(S:ByteArray)(w:World)(e:Ending)(w':World):Prop :=
  Below w.heap.size w w' ∧
  ((dfits S ∧ ∃ A c, e = .returned (.tuple #[.agg #[.slice A (d2 S).1.length c, .int .i64 (d3 S).2, .int .i64 (d4 S).2], .int .i64 0]) ∧ Dlt.Ok ⟨A, c, (d2 S).1, (d3 S).2, (d4 S).2⟩ w') ∨
   (¬ dfits S∧∃ A c,e=.returned (.tuple #[.agg #[.slice A 0 c,.int .i64 0,.int .i64 0],.int .i64 12])∧Dlt.Ok ⟨A,c,[],0,0⟩ w'))
theorem AEnds.ok{p:Prg}{d:Dlt}{w w':World}{e:Ending}(h:AEnds p d w e w')(h0:aerr p.xs d.p d.op d.n=0):Below w.heap.size w w'∧∃ A c B ce,e=.returned (.tuple #[.agg #[.int .i64 p.ps,.slice A p.vs.length c,.slice B (anew p.xs d.p d.op d.n).length ce],.int .i64 0])∧Prg.Ok ⟨p.ps,A,c,p.vs,B,ce,anew p.xs d.p d.op d.n⟩ w':=by
 obtain⟨hb,⟨-,h⟩ | ⟨hn,-⟩⟩:=h
 ·exact⟨hb,h⟩
 ·exact absurd h0 hn
theorem AEnds.no{p:Prg}{d:Dlt}{w w':World}{e:Ending}(h:AEnds p d w e w')(h0:aerr p.xs d.p d.op d.n≠0):Below w.heap.size w w'∧∃ A c B ce,e=.returned (.tuple #[.agg #[.int .i64 0,.slice A 0 c,.slice B 0 ce],.int .i64 (aerr p.xs d.p d.op d.n)])∧Prg.Ok ⟨0,A,c,[],B,ce,[]⟩ w':=by
 obtain⟨hb,⟨hn,-⟩ | ⟨-,h⟩⟩:=h
 ·exact absurd hn h0
 ·exact⟨hb,h⟩
theorem AEndsF.ok{p:Prg}{d:Dlt}{w w':World}{e:Ending}(h:AEndsF p d w e w')(h0:aerr p.xs d.p d.op d.n=0):Below w.heap.size w w'∧∃ A c B ce,e=.returned (.tuple #[.agg #[.int .i64 p.ps,.slice A p.vs.length c,.slice B (anew p.xs d.p d.op d.n).length ce],.int .i64 0])∧Prg.Ok ⟨p.ps,A,c,p.vs,B,ce,anew p.xs d.p d.op d.n⟩ w'∧∀ ad,A=some ad→p.A=some ad∨w.heap.size≤ad.block:=by
 obtain⟨hb,⟨-,h⟩ | ⟨hn,-⟩⟩:=h
 ·exact⟨hb,h⟩
 ·exact absurd h0 hn
theorem DEnds.ok{S:ByteArray}{w w':World}{e:Ending}(h:DEnds S w e w'){p:List Int}{op n:Int}(hf:dfits S)(h1:(d2 S).1=p)(h2:(d3 S).2=op)(h3:(d4 S).2=n):Below w.heap.size w w'∧∃ A c,e=.returned (.tuple #[.agg #[.slice A p.length c,.int .i64 op,.int .i64 n],.int .i64 0])∧Dlt.Ok ⟨A,c,p,op,n⟩ w':=by
 obtain⟨hb,⟨-,A,c,he,hk⟩ | ⟨hn,-⟩⟩:=h
 ·rw [h1,h2,h3] at he hk
  exact⟨hb,A,c,he,hk⟩
 ·exact absurd hf hn
theorem DEnds.no{S:ByteArray}{w w':World}{e:Ending}(h:DEnds S w e w')(hf:¬ dfits S):Below w.heap.size w w'∧∃ A c,e=.returned (.tuple #[.agg #[.slice A 0 c,.int .i64 0,.int .i64 0],.int .i64 12])∧Dlt.Ok ⟨A,c,[],0,0⟩ w':=by
 obtain⟨hb,⟨hy,-⟩ | ⟨-,h⟩⟩:=h
 ·exact absurd hy hf
 ·exact⟨hb,h⟩
end Go.Proofs.YtekogckmgkodfaaGreatDoor.Delta
namespace Go.Proofs.YtekogckmgkodfaaGreatDoor.Delta
open Go.RowKit Mem Go.ChangeShapes Go.WideShapes Go.Deep Go.Joins Arena Kinds
structure Dlt.In (d:Dlt) (w:World):Prop where
 path:IRow w w.heap.size d.A d.p
 len:d.p.length≤maxLen
 cap:d.p.length≤d.c
 none:d.A=none→d.c=0
 n64:N64 d.n
theorem Dlt.In.at{d:Dlt}{w w':World}(h:d.In w)(hb:Below w.heap.size w w'):d.In w':=⟨h.path.at hb,h.len,h.cap,h.none,h.n64⟩
theorem Dlt.In.ok{d:Dlt}{w:World}(h:d.In w)(h1:d.p.length≤1000000):d.Ok w:=⟨h.path,h1,h.cap,h.none⟩
section
variable {H:Type} {enc:TypeId×Value→H} {W:World} {spare:Nat→Bool} {held:Bool}
end
end Go.Proofs.YtekogckmgkodfaaGreatDoor.Delta
