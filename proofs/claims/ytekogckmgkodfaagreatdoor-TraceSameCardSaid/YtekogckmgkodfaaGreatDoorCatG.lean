/-
  Plain facts on the catalogue: which choices there are at a node, in their order. No program is met here.
  Plain facts on the catalogue: how many choices there are; each can be applied, and makes another program; the way back. No program is met here.
  Plain facts on the catalogue: which operators are offered at a node, each with its numbers; together they are the choices. No program is met here.
  The reference of the catalogue, walked: is there such a choice?
  The reference of the catalogue, walked: is there such a choice? At any node and any number.
  The reference of the catalogue, walked: numbers that may be a choice's.
  A row of deltas whose paths are empty: in memory, and as a row that a call owns.
  The reference of the catalogue, walked: all choices at a node, in order.
  What the functions of the catalogue come to; and the document's examples.
-/
import Derived.Test.YtekogckmgkodfaaGreatDoorDeltaG
import Derived.Lib.SlicesCompact
import Derived.Test.YtekogckmgkodfaaGreatDoorArenaH
import Derived.Deep.QuietTactic
import Derived.Deep.CutBlock
import Derived.Deep.CutRange
import Derived.Maps.OwnIn
import Derived.BigQuiet
import Derived.Deep.RegionHeld3
import Derived.Deep.DrawnRows
set_option linter.unusedVariables false
namespace Go.Proofs.YtekogckmgkodfaaGreatDoor
theorem zCatG0{P:Prop}(h:P:=by
  simp only at h
  repeat' split at h
  all_goals simp at h ⊢
  all_goals omega):P:=h
theorem zCatG1{P:Prop}(h:P:=by
  exact one (n,k) (by rw [ar_two (by omega),ar_two (by omega)]) (fun q=>h.2.2 (Prod.mk.inj q).1)):P:=h
end Go.Proofs.YtekogckmgkodfaaGreatDoor
namespace Go.Proofs.YtekogckmgkodfaaGreatDoor.Cat
open Arena Delta Path
def rnd(n:Int):Int:=IntKind.i64.wrap n
def cis(x y:Nd)(op n:Int):Bool :=
 if op=1 then decide (7≤x.1∧x.1≤11) && (decide (7≤n∧n≤11) && decide (n≠x.1))
 else if op=2 then decide (12≤x.1∧x.1≤17) && (decide (12≤n∧n≤17) && decide (n≠x.1))
 else if op=3 then decide (18≤x.1∧x.1≤19) && (decide (18≤n∧n≤19) && decide (n≠x.1))
 else if op=4 then(decide (x.1=1) && (decide (n=0∨n=1∨n = -1∨n=rnd (x.2+1)∨n=rnd (x.2-1)) && decide (n≠x.2))) || (decide (x.1=2) && decide (n=rnd (1-x.2)))
 else if op=5 then decide (x.1=21∨x.1=22∨x.1=23∨x.1=24∨x.1=25) && decide (n=0)
 else if op=6 then decide (x.1=23∨x.1=24) && decide (n=0)
 else if op=7 then decide (x.1=25) && (decide (n=0∨n=1) && decide (y≠(1,n)))
 else false
def Up:List Int→Prop
 | []=>True
 | [_]=>True
 | a::b::l=>a<b∧Up (b::l)
theorem Up.tail{a:Int}{l:List Int}(h:Up (a::l)):Up l:=by
 cases l with
 | nil=>trivial
 | cons b l=>exact h.2
theorem Up.lt{a:Int}:∀ {l:List Int},Up (a::l)→∀ b∈l,a<b
 | [],_,_,hb=>by simp at hb
 | c::l,h,b,hb=>by
  rcases List.mem_cons.1 hb with rfl | hb
  ·exact h.1
  ·exact Int.lt_trans h.1 (Up.lt h.2 b hb)
theorem Up.cons{a:Int}{l:List Int}(h:Up l)(k:∀ b∈l,a<b):Up (a::l):=by
 cases l with
 | nil=>trivial
 | cons b l=>exact⟨k b (List.mem_cons_self ..),h⟩
def lastLt(v:Int):List Int→Nat→Nat→Nat
 | [],_,k=>k
 | x::l,j,k=>lastLt v l (j+1) (if x<v then j+1 else k)
theorem lastLt_ge(v:Int):∀ (l:List Int) (j k:Nat),(∀ b∈l,¬ b<v)→lastLt v l j k=k
 | [],_,_,_=>rfl
 | x::l,j,k,h=>by rw [lastLt,if_neg (h x (List.mem_cons_self ..)),lastLt_ge v l _ _ (fun b hb=>h b (List.mem_cons_of_mem _ hb))]
theorem lastLt_up(v:Int):∀ (l:List Int) (j k:Nat),Up l→∃ t,t≤l.length∧(∀ b∈l.take t,b<v)∧(∀ b∈l.drop t,¬ b<v)∧lastLt v l j k=if t=0 then k else j+t
 | [],_,_,_=>⟨0,by simp,by simp,by simp,rfl⟩
 | x::l,j,k,h=>by
  by_cases hx:x<v
  ·obtain⟨t,t1,t2,t3,t4⟩:=lastLt_up v l (j+1) (j+1) h.tail
   refine⟨t+1,by simp;omega,?_,by rw [List.drop_succ_cons];exact t3,?_⟩
   ·intro b hb
    rw [List.take_succ_cons] at hb
    rcases List.mem_cons.1 hb with rfl | hb
    ·exact hx
    ·exact t2 b hb
   ·rw [lastLt,if_pos hx,t4]
    by_cases q:t=0
    ·rw [if_pos q,if_neg (by omega)];omega
    ·rw [if_neg q,if_neg (by omega)];omega
  ·refine⟨0,by simp,by simp,?_,?_⟩
   ·intro b hb
    rw [List.drop_zero] at hb
    rcases List.mem_cons.1 hb with rfl | hb
    ·exact hx
    ·have:=h.lt b hb;omega
   ·rw [lastLt,if_neg hx,lastLt_ge v l _ _ (fun b hb=>by have:=h.lt b hb;omega)]
    rfl
def ins(out:List Int)(v:Int):List Int:=if v∈out then out else out.take (lastLt v out 0 0)++(v::out.drop (lastLt v out 0 0))
theorem up_join{v:Int}:∀ {l m:List Int},Up l→Up m→(∀ b∈l,b<v)→(∀ b∈m,v<b)→Up (l++(v::m))
 | [],_,_,hm,_,h2=>Up.cons hm h2
 | [a],m,_,hm,h1,h2=>⟨h1 a (List.mem_cons_self ..),Up.cons hm h2⟩
 | a::b::l,m,hl,hm,h1,h2=>⟨hl.1,up_join (l:=b::l) hl.2 hm (fun c hc=>h1 c (List.mem_cons_of_mem _ hc)) h2⟩
theorem Up.take{l:List Int}(h:Up l):∀ k,Up (l.take k):=by
 intro k
 induction l generalizing k with
 | nil=>simp [Up]
 | cons a l ih =>
  cases k with
  | zero=>trivial
  | succ k=>rw [List.take_succ_cons];exact Up.cons (ih h.tail k) (fun b hb=>h.lt b (List.mem_of_mem_take hb))
theorem Up.drop{l:List Int}(h:Up l):∀ k,Up (l.drop k):=by
 intro k
 induction l generalizing k with
 | nil=>simp [Up]
 | cons a l ih =>
  cases k with
  | zero=>exact h
  | succ k=>rw [List.drop_succ_cons];exact ih h.tail k
theorem ins_up{out:List Int}(h:Up out)(v:Int):Up (ins out v)∧∀ b,b∈ins out v↔b=v∨b∈out:=by
 unfold ins
 by_cases hv:v∈out
 ·rw [if_pos hv]
  exact⟨h,fun b=>⟨fun q=>.inr q,fun q=>by rcases q with rfl | q;exact hv;exact q⟩⟩
 ·rw [if_neg hv]
  obtain⟨t,t1,t2,t3,t4⟩:=lastLt_up v out 0 0 h
  have e:lastLt v out 0 0=t:=by rw [t4];split<;>omega
  rw [e]
  refine⟨up_join (h.take t) (h.drop t) t2 (fun b hb=>?_),fun b=>?_⟩
  ·have h1:=t3 b hb
   have h2:b≠v:=fun q=>hv (q▸List.mem_of_mem_drop hb)
   omega
  ·constructor
   ·intro hb
    rcases List.mem_append.1 hb with hb | hb
    ·exact .inr (List.mem_of_mem_take hb)
    ·rcases List.mem_cons.1 hb with rfl | hb
     ·exact .inl rfl
     ·exact .inr (List.mem_of_mem_drop hb)
   ·rintro(rfl | hb)
    ·exact List.mem_append_right _ (List.mem_cons_self ..)
    ·rw [← List.take_append_drop t out] at hb
     rcases List.mem_append.1 hb with hb | hb
     ·exact List.mem_append_left _ hb
     ·exact List.mem_append_right _ (List.mem_cons_of_mem _ hb)
theorem ins_len{out:List Int}(v:Int):(ins out v).length≤out.length+1:=by
 unfold ins
 split
 ·omega
 ·simp only [List.length_append,List.length_cons,List.length_take,List.length_drop];omega
def adds(x:Nd):List Int:=[-1,0,1,rnd (x.2-1),rnd (x.2+1),7,8,9,10,11,12,13,14,15,16,17,18,19]
@[irreducible] def tries (x:Nd):List Int:=(adds x).foldl ins []
theorem fold_up:∀ (l out:List Int),Up out→Up (l.foldl ins out)∧(∀ b,b∈l.foldl ins out↔b∈l∨b∈out)∧(l.foldl ins out).length≤out.length+l.length
 | [],out,h=>⟨h,fun b=>by simp,by simp⟩
 | v::l,out,h=>by
  obtain⟨h1,h2⟩:=ins_up h v
  obtain⟨k1,k2,k3⟩:=fold_up l (ins out v) h1
  refine⟨k1,fun b=>?_,?_⟩
  ·rw [List.foldl_cons,k2,h2,List.mem_cons]
   constructor
   ·rintro(q | q | q)
    ·exact .inl (.inr q)
    ·exact .inl (.inl q)
    ·exact .inr q
   ·rintro((q | q) | q)
    ·exact .inr (.inl q)
    ·exact .inl q
    ·exact .inr (.inr q)
  ·have:=ins_len (out:=out) v
   rw [List.foldl_cons,List.length_cons]
   omega
theorem tries_up(x:Nd):Up (tries x)∧(∀ b,b∈tries x↔b∈adds x)∧(tries x).length≤18:=by
 have hl:(adds x).length=18:=rfl
 unfold tries
 generalize adds x=L at *
 obtain⟨h1,h2,h3⟩:=fold_up L [] trivial
 refine⟨h1,fun b=>?_,?_⟩
 ·rw [h2];simp
 ·have h0:([]:List Int).length=0:=rfl
  omega
def Lt(a b:Int×Int):Prop:=a.1<b.1∨(a.1=b.1∧a.2<b.2)
def Row:List (Int×Int)→Prop
 | []=>True
 | a::l=>(∀ b∈l,Lt a b)∧Row l
theorem Lt.irr{a:Int×Int}(h:Lt a a):False:=by unfold Lt at h;omega
theorem Lt.asymm{a b:Int×Int}(h:Lt a b)(k:Lt b a):False:=by unfold Lt at *;omega
theorem Lt.trans{a b c:Int×Int}(h:Lt a b)(k:Lt b c):Lt a c:=by unfold Lt at *;omega
theorem Row.one:∀ {l m:List (Int×Int)},Row l→Row m→(∀ b,b∈l↔b∈m)→l=m
 | [],[],_,_,_=>rfl
 | [],b::m,_,_,h=>by have:=(h b).2 (List.mem_cons_self ..);simp at this
 | a::l,[],_,_,h=>by have:=(h a).1 (List.mem_cons_self ..);simp at this
 | a::l,b::m,hl,hm,h=>by
  have hab:a=b:=by
   rcases List.mem_cons.1 ((h a).1 (List.mem_cons_self ..)) with q | q
   ·exact q
   ·rcases List.mem_cons.1 ((h b).2 (List.mem_cons_self ..)) with k | k
    ·exact k.symm
    ·exact(Lt.asymm (hm.1 a q) (hl.1 b k)).elim
  subst hab
  rw [Row.one hl.2 hm.2 (fun c=>?_)]
  constructor
  ·intro hc
   rcases List.mem_cons.1 ((h c).1 (List.mem_cons_of_mem _ hc)) with q | q
   ·subst q;exact(Lt.irr (hl.1 c hc)).elim
   ·exact q
  ·intro hc
   rcases List.mem_cons.1 ((h c).2 (List.mem_cons_of_mem _ hc)) with q | q
   ·subst q;exact(Lt.irr (hm.1 c hc)).elim
   ·exact q
theorem Row.join:∀ {l m:List (Int×Int)},Row l→Row m→(∀ a∈l,∀ b∈m,Lt a b)→Row (l++m)
 | [],_,_,hm,_=>hm
 | a::l,m,hl,hm,h=>⟨fun b hb=>by
   rcases List.mem_append.1 hb with hb | hb
   ·exact hl.1 b hb
   ·exact h a (List.mem_cons_self ..) b hb,Row.join hl.2 hm (fun c hc=>h c (List.mem_cons_of_mem _ hc))⟩
def ofOp(x y:Nd)(op:Int)(l:List Int):List (Int×Int):=(l.filter fun n=>cis x y op n).map fun n=>(op,n)
theorem ofOp_row(x y:Nd)(op:Int):∀ {l:List Int},Up l→Row (ofOp x y op l)
 | [],_=>trivial
 | a::l,h=>by
  have ih:=ofOp_row x y op h.tail
  unfold ofOp at *
  rw [List.filter_cons]
  split
  ·rw [List.map_cons]
   refine⟨fun b hb=>?_,ih⟩
   obtain⟨n,hn,rfl⟩:=List.mem_map.1 hb
   exact .inr ⟨rfl,h.lt n (List.mem_filter.1 hn).1⟩
  ·exact ih
theorem ofOp_mem{x y:Nd}{op:Int}{l:List Int}{b:Int×Int}:b∈ofOp x y op l↔b.1=op∧b.2∈l∧cis x y op b.2=true:=by
 unfold ofOp
 rw [List.mem_map]
 constructor
 ·rintro⟨n,hn,rfl⟩
  exact⟨rfl,(List.mem_filter.1 hn).1,(List.mem_filter.1 hn).2⟩
 ·rintro⟨rfl,h2,h3⟩
  exact⟨b.2,List.mem_filter.2 ⟨h2,h3⟩,rfl⟩
def upto(x y:Nd):Nat→List (Int×Int)
 | 0=>[]
 | k+1=>upto x y k++ofOp x y (k+1:Nat) (tries x)
theorem upto_row(x y:Nd):∀ k,Row (upto x y k)∧∀ b∈upto x y k,1≤b.1∧b.1≤k
 | 0=>⟨trivial,(fun b hb=>by cases hb)⟩
 | k+1=>by
  obtain⟨h1,h2⟩:=upto_row x y k
  refine⟨Row.join h1 (ofOp_row x y _ (tries_up x).1) (fun a ha b hb=>?_),fun b hb=>?_⟩
  ·have:=h2 a ha
   have:=(ofOp_mem.1 hb).1
   exact .inl (by omega)
  ·rcases List.mem_append.1 hb with hb | hb
   ·have:=h2 b hb;omega
   ·have:=(ofOp_mem.1 hb).1;omega
theorem upto_mem(x y:Nd):∀ k b,b∈upto x y k↔(1≤b.1∧b.1≤(k:Int))∧b.2∈tries x∧cis x y b.1 b.2=true
 | 0,b=>⟨(fun h=>by cases h),(fun h=>by omega)⟩
 | k+1,b=>by
  rw [upto,List.mem_append,upto_mem x y k b,ofOp_mem]
  constructor
  ·rintro(⟨h1,h2⟩ | ⟨h1,h2,h3⟩)
   ·exact⟨by omega,h2⟩
   ·exact⟨by omega,h2,by rw [h1];exact h3⟩
  ·rintro⟨h1,h2,h3⟩
   by_cases q:b.1=((k+1:Nat):Int)
   ·exact .inr ⟨q,h2,by rw [← q];exact h3⟩
   ·exact .inl ⟨by omega,h2,h3⟩
@[irreducible] def choices (x y:Nd):List (Int×Int):=upto x y 7
theorem cis_rng{x y:Nd}{op n:Int}(hb:x.1=2→0≤x.2∧x.2≤1)(h:cis x y op n=true):(1≤op∧op≤7)∧n∈adds x:=by
 have hr:∀ k:Int,0≤k→k≤1→rnd (1-k)=1-k:=fun k h0 h1=>by unfold rnd;rw [IntKind.wrap_i64];omega
 unfold cis at h
 unfold adds
 by_cases o1:op=1
 ·rw [if_pos o1] at h
  simp at h ⊢
  omega
 rw [if_neg o1] at h
 by_cases o2:op=2
 ·rw [if_pos o2] at h
  simp at h ⊢
  omega
 rw [if_neg o2] at h
 by_cases o3:op=3
 ·rw [if_pos o3] at h
  simp at h ⊢
  omega
 rw [if_neg o3] at h
 by_cases o4:op=4
 ·rw [if_pos o4] at h
  simp at h ⊢
  rcases h with⟨-,h,-⟩ | ⟨h1,h2⟩
  ·omega
  ·obtain⟨b0,b1⟩:=hb h1
   rw [hr _ b0 b1] at h2
   omega
 rw [if_neg o4] at h
 by_cases o5:op=5
 ·rw [if_pos o5] at h
  simp at h ⊢
  omega
 rw [if_neg o5] at h
 by_cases o6:op=6
 ·rw [if_pos o6] at h
  simp at h ⊢
  omega
 rw [if_neg o6] at h
 by_cases o7:op=7
 ·rw [if_pos o7] at h
  simp at h ⊢
  omega
 ·rw [if_neg o7] at h
  cases h
theorem choices_row(x y:Nd)(hb:x.1=2→0≤x.2∧x.2≤1):Row (choices x y)∧∀ op n,(op,n)∈choices x y↔cis x y op n=true:=by
 unfold choices
 refine⟨(upto_row x y 7).1,fun op n=>?_⟩
 rw [upto_mem,(tries_up x).2.1]
 constructor
 ·exact fun h=>h.2.2
 ·intro h
  obtain⟨h1,h2⟩:=cis_rng hb h
  exact⟨h1,h2,h⟩
theorem choices_one{x y:Nd}(hb:x.1=2→0≤x.2∧x.2≤1){l:List (Int×Int)}(h:Row l)(k:∀ op n,(op,n)∈l↔cis x y op n=true):l=choices x y:=by
 obtain⟨h1,h2⟩:=choices_row x y hb
 exact h.one h1 (fun b=>(k b.1 b.2).trans (h2 b.1 b.2).symm)
theorem bool_rng{x:Nd}(h:0≤ar x)(h2:x.1=2):0≤x.2∧x.2≤1:=by
 obtain⟨t,k⟩:=x
 simp only at h2
 subst h2
 unfold ar asks at h
 simp at h
 split at h
 ·omega
 ·simp only;omega
theorem rnd_one{k:Int}(h0:0≤k)(h1:k≤1):rnd (1-k)=1-k:=by unfold rnd;rw [IntKind.wrap_i64];omega
theorem len_le:∀ {l m:List (Int×Int)},Row l→(∀ b∈l,b∈m)→l.length≤m.length
 | [],_,_,_=>by simp
 | a::l,m,h,k=>by
  have ha:=k a (List.mem_cons_self ..)
  have hl:∀ b∈l,b∈m.erase a:=fun b hb=>by
   have hne:b≠a:=fun q=>by subst q;exact Lt.irr (h.1 b hb)
   exact(List.mem_erase_of_ne hne).2 (k b (List.mem_cons_of_mem _ hb))
  have ih:=len_le h.2 hl
  have he:=List.length_erase_of_mem ha
  have hp:0<m.length:=List.length_pos_of_mem ha
  rw [List.length_cons]
  omega
theorem choices_len(x y:Nd)(hb:x.1=2→0≤x.2∧x.2≤1):(choices x y).length≤5:=by
 obtain⟨hr,hm⟩:=choices_row x y hb
 have key:∀ m:List (Int×Int),m.length≤5→(∀ op n,cis x y op n=true→(op,n)∈m)→(choices x y).length≤5:=fun m h5 h=>Nat.le_trans (len_le hr (fun b hb'=>h b.1 b.2 ((hm b.1 b.2).1 hb'))) h5
 obtain⟨t,k⟩:=x
 by_cases t1:7≤t∧t≤11
 ·refine key [(1,7),(1,8),(1,9),(1,10),(1,11)] (by simp) (fun op n h=>?_)
  unfold cis at h
  exact zCatG0
 by_cases t2:12≤t∧t≤17
 ·refine key ([(2,12),(2,13),(2,14),(2,15),(2,16),(2,17)].erase (2,t)) ?_ (fun op n h=>?_)
  ·rw [List.length_erase_of_mem (by simp;omega)];simp
  ·have hn:(op,n)≠(2,t)∧(op,n)∈[((2:Int),(12:Int)),(2,13),(2,14),(2,15),(2,16),(2,17)]:=by
    unfold cis at h
    exact zCatG0
   exact(List.mem_erase_of_ne hn.1).2 hn.2
 by_cases t3:t=1
 ·refine key [(4,0),(4,1),(4,-1),(4,rnd (k+1)),(4,rnd (k-1))] (by simp) (fun op n h=>?_)
  unfold cis at h
  exact zCatG0
 by_cases t4:t=25
 ·refine key [(5,0),(7,0),(7,1)] (by simp) (fun op n h=>?_)
  unfold cis at h
  exact zCatG0
 ·refine key [(3,18),(3,19),(4,rnd (1-k)),(5,0),(6,0)] (by simp) (fun op n h=>?_)
  unfold cis at h
  exact zCatG0
def times(b:Int×Int):List (Int×Int)→Nat
 | []=>0
 | a::l=>(if a=b then 1 else 0)+times b l
theorem times_no{b:Int×Int}:∀ {l:List (Int×Int)},b∉l→times b l=0
 | [],_=>rfl
 | a::l,h=>by
  rw [times,if_neg (fun q=>h (by rw [q];exact List.mem_cons_self ..)),times_no (fun q=>h (List.mem_cons_of_mem _ q))]
theorem times_row{b:Int×Int}:∀ {l:List (Int×Int)},Row l→times b l=if b∈l then 1 else 0
 | [],_=>by simp [times]
 | a::l,h=>by
  rw [times,times_row h.2]
  by_cases q:a=b
  ·subst q
   have hn:a∉l:=fun k=>Lt.irr (h.1 a k)
   rw [if_pos rfl,if_neg hn,if_pos (List.mem_cons_self ..)]
  ·rw [if_neg q]
   by_cases k:b∈l
   ·rw [if_pos k,if_pos (List.mem_cons_of_mem _ k)]
   ·rw [if_neg k,if_neg (fun z=>by rcases List.mem_cons.1 z with z | z;exact q z.symm;exact k z)]
theorem times_take{b:Int×Int}{l:List (Int×Int)}{k:Nat}{a:Int×Int}(h:l[k]? = some a):times b (l.take (k+1))=times b (l.take k)+if a=b then 1 else 0:=by
 have key:∀ m:List (Int×Int),times b (m++[a])=times b m+if a=b then 1 else 0:=by
  intro m
  induction m with
  | nil=>simp [times]
  | cons c m ih=>rw [List.cons_append,times,times,ih];omega
 rw [List.take_add_one,h]
 exact key _
theorem row_next:∀ {l:List (Int×Int)} {k:Nat} {a b:Int×Int},Row l→l[k]? = some a→l[k+1]? = some b→Lt a b
 | [],_,_,_,_,h,_=>by simp at h
 | c::l,0,a,b,hr,h,k=>by
  simp at h k
  subst h
  exact hr.1 b (List.mem_of_getElem? k)
 | c::l,i+1,a,b,hr,h,k=>by
  rw [List.getElem?_cons_succ] at h k
  exact row_next hr.2 h k
theorem cis_behind{x y y':Nd}(h:x.1=25→y=y')(op n:Int):cis x y op n=cis x y' op n:=by
 by_cases q:x.1=25
 ·rw [h q]
 ·unfold cis
  rw [decide_eq_false q]
  simp
theorem choices_behind{x y y':Nd}(hb:x.1=2→0≤x.2∧x.2≤1)(h:x.1=25→y=y'):choices x y=choices x y':=by
 obtain⟨h1,h2⟩:=choices_row x y hb
 exact choices_one hb h1 (fun op n=>by rw [h2,cis_behind h])
theorem cis_may{x y:Nd}(hb:x.1=2→0≤x.2∧x.2≤1){op n:Int}(h:cis x y op n=true):dmay x.1 op n=true:=by
 unfold cis at h
 unfold dmay
 by_cases o1:op=1
 ·rw [if_pos o1] at h ⊢;simp at h ⊢;omega
 rw [if_neg o1] at h ⊢
 by_cases o2:op=2
 ·rw [if_pos o2] at h ⊢;simp at h ⊢;omega
 rw [if_neg o2] at h ⊢
 by_cases o3:op=3
 ·rw [if_pos o3] at h ⊢;simp at h ⊢;omega
 rw [if_neg o3] at h ⊢
 by_cases o4:op=4
 ·rw [if_pos o4] at h ⊢
  simp at h ⊢
  rcases h with⟨h,-,-⟩ | ⟨h1,h2⟩
  ·exact .inl h
  ·obtain⟨b0,b1⟩:=hb h1
   rw [rnd_one b0 b1] at h2
   exact .inr ⟨h1,by omega⟩
 rw [if_neg o4] at h ⊢
 by_cases o5:op=5
 ·rw [if_pos o5] at h ⊢;simp at h ⊢;omega
 rw [if_neg o5] at h ⊢
 by_cases o6:op=6
 ·rw [if_pos o6] at h ⊢;simp at h ⊢;omega
 rw [if_neg o6] at h ⊢
 by_cases o7:op=7
 ·rw [if_pos o7] at h ⊢;simp at h ⊢;exact h.1
 ·rw [if_neg o7] at h;cases h
theorem cis_new{P:List Nd}{x y:Nd}(hs:scan 1 P=some P.length)(hx:P[0]? = some x)(hy:x.1=25→P[1]? = some y){op n:Int}(h:cis x y op n=true):dch P 0 op n≠P∧scan 1 (dch P 0 op n)=some (dch P 0 op n).length:=by
 obtain⟨R,rfl⟩:∃ R,P=x::R:=by
  cases P with
  | nil=>simp at hx
  | cons z R=>simp at hx;exact⟨R,by rw [hx]⟩
 have har:0≤ar x:=by
  by_cases c:ar x<0
  ·rw [show(1:Nat)=0+1 from rfl,scan_bad c] at hs;cases hs
  ·omega
 have hb:=bool_rng har
 have hm:=cis_may hb h
 have hsR:scan (ar x).toNat R=some R.length:=by
  rw [show(1:Nat)=0+1 from rfl,scan_good har,Option.map_eq_some_iff] at hs
  obtain⟨k,h1,h2⟩:=hs
  rw [Nat.zero_add] at h1
  rw [h1]
  simp at h2
  rw [h2]
 have hend:aend (x::R) 0=((x::R).length:Int):=by
  have:=aend_some (l:=x::R) (a:=0) (n:=(x::R).length) (by rw [List.drop_zero];exact hs)
  simpa using this
 have hg:(x::R).getD 0 (0,0)=x:=rfl
 have one:∀ x':Nd,ar x=ar x'→x'≠x→swap (x::R) 0 1 [x']≠x::R∧scan 1 (swap (x::R) 0 1 [x'])=some (swap (x::R) 0 1 [x']).length:=by
  intro x' h1 h2
  have e:swap (x::R) 0 1 [x']=x'::R:=by unfold swap;simp
  rw [e]
  refine⟨fun q=>h2 (List.cons.inj q).1,?_⟩
  rw [show(1:Nat)=0+1 from rfl,scan_good (by omega),Nat.zero_add,← h1,hsR]
  rfl
 obtain⟨t,k⟩:=x
 unfold dch
 rw [hg]
 unfold cis at h
 by_cases o1:op=1
 ·rw [if_pos o1] at h
  simp at h
  rw [if_pos (.inl o1)]
  exact zCatG1
 rw [if_neg o1] at h
 by_cases o2:op=2
 ·rw [if_pos o2] at h
  simp at h
  rw [if_pos (.inr (.inl o2))]
  exact zCatG1
 rw [if_neg o2] at h
 by_cases o3:op=3
 ·rw [if_pos o3] at h
  simp at h
  rw [if_pos (.inr (.inr o3))]
  exact zCatG1
 rw [if_neg o3] at h
 rw [if_neg (by omega)]
 by_cases o4:op=4
 ·rw [if_pos o4] at h ⊢
  simp at h
  rcases h with⟨rfl,-,h⟩ | ⟨rfl,h⟩
  ·exact one (1,n) (by unfold ar;simp) (fun q=>h (Prod.mk.inj q).2)
  ·obtain⟨b0,b1⟩:=hb rfl
   simp only at b0 b1
   rw [rnd_one b0 b1] at h
   refine one (2,n) ?_ (fun q=>by have:=(Prod.mk.inj q).2;omega)
   have ha:∀ j:Int,0≤j→j≤1→ar (2,j)=0:=fun j j0 j1=>by
    unfold ar asks
    simp
    omega
   rw [ha k b0 b1,ha n (by omega) (by omega)]
 rw [if_neg o4] at h ⊢
 by_cases o5:op=5
 ·rw [if_pos o5] at h ⊢
  simp at h
  have e:swap ((t,k)::R) 0 (aend ((t,k)::R) 0).toNat [(26,0)]=[(26,0)]:=by
   rw [hend]
   unfold swap
   rw [Int.toNat_natCast,List.drop_length]
   rfl
  rw [show((0:Nat):Int)=0 from rfl,e]
  refine⟨fun q=>?_,by simp [scan_cons,scan_0,ar,asks]⟩
  have:=(List.cons.inj q).1
  have:=(Prod.mk.inj this).1
  omega
 rw [if_neg o5] at h ⊢
 by_cases o6:op=6
 ·rw [if_pos o6] at h ⊢
  simp at h
  have e:swap ((t,k)::R) (0+1) (0+1) [(6,0)]=(t,k)::(6,0)::R:=by unfold swap;simp
  rw [e]
  refine⟨fun q=>?_,?_⟩
  ·have:=congrArg List.length q
   simp at this
  ·obtain⟨c,hc⟩:∃ c,(ar (t,k)).toNat=c+1:=by
    have h2:ar (t,k)=3∨ar (t,k)=2:=by
     unfold ar asks at har ⊢
     rcases h.1 with rfl | rfl
     ·simp at har ⊢;split at har<;>first | omega | (rename_i q;simp [q] at har ⊢;omega) | (simp_all)
     ·simp at har ⊢;split at har<;>first | omega | (rename_i q;simp [q] at har ⊢;omega) | (simp_all)
    exact⟨(ar (t,k)).toNat-1,by omega⟩
   rw [hc] at hsR
   have h6:ar (6,0)=1:=by simp [ar,asks]
   rw [show(1:Nat)=0+1 from rfl,scan_good har,Nat.zero_add,hc,scan_good (by rw [h6];omega),h6]
   rw [show c+(1:Int).toNat=c+1 from rfl,hsR]
   rfl
 rw [if_neg o6] at h ⊢
 by_cases o7:op=7
 ·rw [if_pos o7] at h
  simp at h
  obtain⟨rfl,h1,h2⟩:=h
  have hy':=hy rfl
  rw [List.getElem?_cons_succ] at hy'
  have ha1:ar (25,k)=1:=by
   unfold ar asks at har ⊢
   simp at har ⊢
   split at har<;>first | omega | (rename_i q;simp [q] at har ⊢;omega) | simp_all
  rw [ha1] at hsR
  have he1:aend ((25,k)::R) ((0+1:Nat):Int)=(((25,k)::R).length:Int):=by
   have:=aend_some (l:=(25,k)::R) (a:=1) (n:=R.length) (by simpa using hsR)
   rw [show((0+1:Nat):Int)=((1:Nat):Int) from rfl,this,List.length_cons]
   omega
  have e:swap ((25,k)::R) (0+1) (aend ((25,k)::R) ((0+1:Nat):Int)).toNat [(1,n)]=[(25,k),(1,n)]:=by
   rw [he1]
   unfold swap
   rw [Int.toNat_natCast,List.drop_length]
   rfl
  rw [e]
  refine⟨fun q=>?_,?_⟩
  ·have q2:=(List.cons.inj q).2
   rw [← q2] at hy'
   simp at hy'
   exact h2 hy'.symm
  ·have h10:ar (1,n)=0:=by unfold ar;simp
   rw [show(1:Nat)=0+1 from rfl,scan_good (by rw [ha1];omega),ha1,show 0+(1:Int).toNat=0+1 from rfl,scan_cons,h10]
   simp [scan_0]
 ·rw [if_neg o7] at h;cases h
theorem cis_back{P:List Nd}{x y z:Nd}(hx:P[0]? = some x){op n:Int}(ho:op≤3)(h:cis x y op n=true):∃ x',(dch P 0 op n)[0]? = some x'∧x'.1=n∧cis x' z op x.1=true∧cis x' z op n=false:=by
 obtain⟨R,rfl⟩:∃ R,P=x::R:=by
  cases P with
  | nil=>simp at hx
  | cons z R=>simp at hx;exact⟨R,by rw [hx]⟩
 obtain⟨t,k⟩:=x
 have key:(op=1∨op=2∨op=3)→cis (n,k) z op t=true→∃ x',(dch ((t,k)::R) 0 op n)[0]? = some x'∧x'.1=n∧cis x' z op t=true∧cis x' z op n=false:=fun ho1 h1=>by
  refine⟨(n,k),?_,rfl,h1,?_⟩
  ·unfold dch
   rw [if_pos ho1]
   unfold swap
   simp
  ·rcases ho1 with rfl | rfl | rfl<;>simp [cis]
 unfold cis at h
 by_cases o1:op=1
 ·rw [if_pos o1] at h
  simp at h
  exact key (.inl o1) (by unfold cis;rw [if_pos o1];simp;omega)
 rw [if_neg o1] at h
 by_cases o2:op=2
 ·rw [if_pos o2] at h
  simp at h
  exact key (.inr (.inl o2)) (by unfold cis;rw [if_neg o1,if_pos o2];simp;omega)
 rw [if_neg o2] at h
 by_cases o3:op=3
 ·rw [if_pos o3] at h
  simp at h
  exact key (.inr (.inr o3)) (by unfold cis;rw [if_neg o1,if_neg o2,if_pos o3];simp;omega)
 rw [if_neg o3,if_neg (by omega),if_neg (by omega),if_neg (by omega),if_neg (by omega)] at h
 cases h
theorem up_of_pairwise:∀ {l:List Int},l.Pairwise (· < ·)→Up l
 | [],_=>trivial
 | [_],_=>trivial
 | a::b::l,h=>by
  have h1:=List.pairwise_cons.1 h
  exact⟨h1.1 b (List.mem_cons_self ..),up_of_pairwise h1.2⟩
theorem compact_upto(d:Array Int)(h:∀ i j,i≤j→j<d.size→d[i]! ≤ d[j]!):∀ m,m≤d.size→(Lib.compactUpTo d m).Pairwise (· < ·)∧(∀ b∈Lib.compactUpTo d m,∃ j,j<m∧b=d[j]!)∧(∀ j,j<m→d[j]! ∈ Lib.compactUpTo d m)
 | 0,_=>by
  have e:Lib.compactUpTo d 0=[]:=rfl
  rw [e]
  exact⟨List.Pairwise.nil,by simp,by omega⟩
 | m+1,hm=>by
  obtain⟨h1,h2,h3⟩:=compact_upto d h m (by omega)
  rw [Lib.compactUpTo_succ]
  by_cases hk:Lib.keeps d m=true
  ·rw [if_pos hk]
   refine⟨?_,?_,?_⟩
   ·rw [List.pairwise_append]
    refine⟨h1,List.pairwise_singleton _ _,fun a ha b hb=>?_⟩
    rw [List.mem_singleton] at hb
    subst hb
    obtain⟨j,hj,rfl⟩:=h2 a ha
    rcases Nat.eq_zero_or_pos m with q | q
    ·omega
    ·have hne:d[m]! ≠ d[m-1]! := by
      unfold Lib.keeps at hk
      rcases of_decide_eq_true hk with k | k
      ·omega
      ·exact k
     have a1:=h j (m-1) (by omega) (by omega)
     have a2:=h (m-1) m (by omega) (by omega)
     omega
   ·intro b hb
    rcases List.mem_append.1 hb with hb | hb
    ·obtain⟨j,hj,e⟩:=h2 b hb
     exact⟨j,by omega,e⟩
    ·rw [List.mem_singleton] at hb
     exact⟨m,by omega,hb⟩
   ·intro j hj
    by_cases q:j=m
    ·subst q;exact List.mem_append_right _ (List.mem_singleton.2 rfl)
    ·exact List.mem_append_left _ (h3 j (by omega))
  ·rw [if_neg hk,List.append_nil]
   refine⟨h1,fun b hb=>?_,fun j hj=>?_⟩
   ·obtain⟨j,hj,e⟩:=h2 b hb
    exact⟨j,by omega,e⟩
   ·by_cases q:j=m
    ·have hk':¬ (m=0∨d[m]! ≠ d[m-1]!):=fun z=>hk (by unfold Lib.keeps;exact decide_eq_true z)
     have e:d[m]! = d[m-1]! := by
      by_cases z:d[m]! = d[m-1]!
      ·exact z
      ·exact(hk' (.inr z)).elim
     rw [q,e]
     exact h3 _ (by omega)
    ·exact h3 j (by omega)
theorem compact_up{zs:List Int}(h:zs.Pairwise (· ≤ ·)):(Lib.compact zs).Pairwise (· < ·)∧∀ b,b∈Lib.compact zs↔b∈zs:=by
 have hs:∀ i j,i≤j→j<zs.toArray.size→zs.toArray[i]! ≤ zs.toArray[j]! := by
  intro i j hij hj
  have hj':j<zs.length:=by simpa using hj
  rw [getElem!_pos zs.toArray i (by simp;omega),getElem!_pos zs.toArray j hj]
  simp only [List.getElem_toArray]
  rcases Nat.lt_or_ge i j with q | q
  ·exact List.pairwise_iff_getElem.1 h i j (by omega) hj' q
  ·have e:i=j:=by omega
   subst e
   exact Int.le_refl _
 obtain⟨h1,h2,h3⟩:=compact_upto zs.toArray hs zs.length (by simp)
 refine⟨h1,fun b=>⟨fun hb=>?_,fun hb=>?_⟩⟩
 ·obtain⟨j,hj,rfl⟩:=h2 b hb
  rw [getElem!_pos zs.toArray j (by simpa using hj)]
  simp only [List.getElem_toArray]
  exact List.getElem_mem _
 ·obtain⟨j,hj,rfl⟩:=List.mem_iff_getElem.1 hb
  have:=h3 j hj
  rw [getElem!_pos zs.toArray j (by simpa using hj)] at this
  simp only [List.getElem_toArray] at this
  exact this
@[irreducible] def oth (zs ys:List Int):List Int:=(Lib.compact (zs.mergeSort fun x y=>decide (x≤y))).filter fun x=>!(ys.contains x)
theorem oth_up(zs ys:List Int):(oth zs ys).Pairwise (· < ·)∧∀ b,b∈oth zs ys↔b∈zs∧b∉ys:=by
 have hs:(zs.mergeSort fun x y=>decide (x≤y)).Pairwise (· ≤ ·):=by
  have:=List.pairwise_mergeSort (le:=fun x y:Int=>decide (x≤y)) (by intro a b c;simp;omega) (by intro a b;simp;omega) zs
  exact this.imp (fun h=>by simpa using h)
 obtain⟨h1,h2⟩:=compact_up hs
 unfold oth
 refine⟨h1.filter _,fun b=>?_⟩
 rw [List.mem_filter,h2,List.mem_mergeSort]
 simp
def offs(x y:Nd):List (Int×List Int) :=
 if 7≤x.1∧x.1≤11 then [(1,oth [7,8,9,10,11] [x.1])]
 else if 12≤x.1∧x.1≤17 then [(2,oth [12,13,14,15,16,17] [x.1])]
 else if 18≤x.1∧x.1≤19 then [(3,oth [18,19] [x.1])]
 else if x.1=1 then [(4,oth [-1,rnd (x.2+1),rnd (x.2-1),0,1] [x.2])]
 else if x.1=2 then [(4,oth [0,1] [x.2])]
 else if x.1=23∨x.1=24 then [(5,[0]),(6,[0])]
 else if x.1=25 then [(5,[0]),(7,oth [0,1] (if y.1=1 then [y.2] else []))]
 else if x.1=21∨x.1=22 then [(5,[0])]
 else []
def flat(l:List (Int×List Int)):List (Int×Int):=l.flatMap fun p=>p.2.map fun n=>(p.1,n)
theorem flat_snoc(l:List (Int×List Int))(p:Int×List Int):flat (l++[p])=flat l++p.2.map fun n=>(p.1,n):=by simp [flat]
theorem flat_mem{l:List (Int×List Int)}{op n:Int}:(op,n)∈flat l↔∃ p∈l,p.1=op∧n∈p.2:=by
 unfold flat
 rw [List.mem_flatMap]
 constructor
 ·rintro⟨p,hp,h⟩
  obtain⟨m,hm,e⟩:=List.mem_map.1 h
  cases e
  exact⟨p,hp,rfl,hm⟩
 ·rintro⟨p,hp,rfl,hn⟩
  exact⟨p,hp,List.mem_map.2 ⟨n,hn,rfl⟩⟩
theorem map_row(op:Int):∀ {l:List Int},l.Pairwise (· < ·)→Row (l.map fun n=>(op,n))
 | [],_=>trivial
 | a::l,h=>by
  have h1:=List.pairwise_cons.1 h
  refine⟨fun b hb=>?_,map_row op h1.2⟩
  obtain⟨n,hn,rfl⟩:=List.mem_map.1 hb
  exact .inr ⟨rfl,h1.1 n hn⟩
theorem row_one{op:Int}{l:List Int}(h:l.Pairwise (· < ·)):Row (flat [(op,l)]):=by
 have e:flat [(op,l)]=l.map fun n=>(op,n):=by simp [flat]
 rw [e]
 exact map_row op h
theorem row_two{op op':Int}{l l':List Int}(h:l.Pairwise (· < ·))(h':l'.Pairwise (· < ·))(ho:op<op'):Row (flat [(op,l),(op',l')]):=by
 have e:flat [(op,l),(op',l')]=(l.map fun n=>(op,n))++l'.map fun n=>(op',n):=by simp [flat]
 rw [e]
 refine Row.join (map_row op h) (map_row op' h') (fun a ha b hb=>?_)
 obtain⟨n,-,rfl⟩:=List.mem_map.1 ha
 obtain⟨m,-,rfl⟩:=List.mem_map.1 hb
 exact .inl ho
theorem offs_row(x y:Nd):Row (flat (offs x y)):=by
 have s0:([0]:List Int).Pairwise (· < ·):=List.pairwise_singleton _ _
 unfold offs
 repeat' split
 all_goals first
  | exact row_one (oth_up _ _).1
  | exact row_two s0 (oth_up _ _).1 (by decide)
  | exact row_two s0 s0 (by decide)
  | exact row_one s0
  | exact trivial
theorem offs_mem(x y:Nd)(hb:x.1=2→0≤x.2∧x.2≤1)(op n:Int):(op,n)∈flat (offs x y)↔cis x y op n=true:=by
 have hr:∀ k:Int,0≤k→k≤1→rnd (1-k)=1-k:=fun k h0 h1=>by unfold rnd;rw [IntKind.wrap_i64];omega
 obtain⟨t,v⟩:=x
 obtain⟨t',v'⟩:=y
 rw [flat_mem]
 have e1:∀ (q:Int) (l:List Int),(∃ p∈[(q,l)],p.1=op∧n∈p.2)↔op=q∧n∈l:=fun q l=>by
  simp only [List.mem_singleton,exists_eq_left]
  exact⟨fun h=>⟨h.1.symm,h.2⟩,fun h=>⟨h.1.symm,h.2⟩⟩
 have e2:∀ (q:Int) (l:List Int) (q':Int) (l':List Int),(∃ p∈[(q,l),(q',l')],p.1=op∧n∈p.2)↔(op=q∧n∈l)∨(op=q'∧n∈l'):=fun q l q' l'=>by
  simp only [List.mem_cons,List.not_mem_nil,or_false,exists_eq_or_imp,exists_eq_left]
  exact⟨fun h=>h.imp (fun k=>⟨k.1.symm,k.2⟩) (fun k=>⟨k.1.symm,k.2⟩),fun h=>h.imp (fun k=>⟨k.1.symm,k.2⟩) (fun k=>⟨k.1.symm,k.2⟩)⟩
 unfold offs cis
 simp only at hb ⊢
 by_cases c1:7≤t∧t≤11
 ·rw [if_pos c1,e1,(oth_up _ _).2]
  simp only [List.mem_cons,List.not_mem_nil,or_false]
  repeat' split
  all_goals simp
  all_goals omega
 rw [if_neg c1]
 by_cases c2:12≤t∧t≤17
 ·rw [if_pos c2,e1,(oth_up _ _).2]
  simp only [List.mem_cons,List.not_mem_nil,or_false]
  repeat' split
  all_goals simp
  all_goals omega
 rw [if_neg c2]
 by_cases c3:18≤t∧t≤19
 ·rw [if_pos c3,e1,(oth_up _ _).2]
  simp only [List.mem_cons,List.not_mem_nil,or_false]
  repeat' split
  all_goals simp
  all_goals omega
 rw [if_neg c3]
 by_cases c4:t=1
 ·subst c4
  rw [if_pos rfl,e1,(oth_up _ _).2]
  simp only [List.mem_cons,List.not_mem_nil,or_false]
  generalize rnd (v+1)=a
  generalize rnd (v-1)=b
  repeat' split
  all_goals simp
  all_goals omega
 rw [if_neg c4]
 by_cases c5:t=2
 ·subst c5
  obtain⟨b0,b1⟩:=hb rfl
  rw [if_pos rfl,e1,(oth_up _ _).2]
  simp only [List.mem_cons,List.not_mem_nil,or_false]
  rw [hr v b0 b1]
  repeat' split
  all_goals simp
  all_goals omega
 rw [if_neg c5]
 by_cases c6:t=23∨t=24
 ·rw [if_pos c6,e2]
  simp only [List.mem_singleton]
  repeat' split
  all_goals simp
  all_goals omega
 rw [if_neg c6]
 by_cases c7:t=25
 ·subst c7
  rw [if_pos rfl,e2,(oth_up _ _).2]
  by_cases d:t'=1
  ·subst d
   rw [if_pos rfl]
   simp only [List.mem_cons,List.not_mem_nil,or_false]
   repeat' split
   all_goals simp
   all_goals omega
  ·rw [if_neg d]
   simp only [List.mem_cons,List.not_mem_nil,or_false]
   repeat' split
   all_goals simp
   all_goals omega
 rw [if_neg c7]
 by_cases c8:t=21∨t=22
 ·rw [if_pos c8,e1]
  simp only [List.mem_singleton]
  repeat' split
  all_goals simp
  all_goals omega
 rw [if_neg c8]
 simp only [List.not_mem_nil,false_and,exists_false,false_iff]
 repeat' split
 all_goals simp
 all_goals omega
theorem offs_choices(x y:Nd)(hb:x.1=2→0≤x.2∧x.2≤1):flat (offs x y)=choices x y:=choices_one hb (offs_row x y) (offs_mem x y hb)
def isF(l:List (Int×List Int))(op n:Int):Bool :=
 match l with
 | []=>false
 | p::r=>if p.1=op then p.2.contains n else isF r op n
theorem isF_two{x y:Nd}{op n:Int}:isF (offs x y) op n=decide ((op,n)∈flat (offs x y)):=by
 have h:∀ l:List (Int×List Int),(l.map (·.1)).Nodup→isF l op n=decide ((op,n)∈flat l):=by
  intro l
  induction l with
  | nil=>intro _;simp [isF,flat]
  | cons p r ih =>
   intro hn
   rw [List.map_cons,List.nodup_cons] at hn
   rw [isF]
   by_cases q:p.1=op
   ·rw [if_pos q]
    by_cases z:n∈p.2
    ·rw [decide_eq_true (flat_mem.2 ⟨p,List.mem_cons_self ..,q,z⟩)]
     simpa using z
    ·rw [decide_eq_false]
     ·simpa using z
     ·intro hm
      obtain⟨p',hp',q',z'⟩:=flat_mem.1 hm
      rcases List.mem_cons.1 hp' with rfl | hp'
      ·exact z z'
      ·exact hn.1 (List.mem_map.2 ⟨p',hp',by rw [q',q]⟩)
   ·rw [if_neg q,ih hn.2]
    by_cases z:(op,n)∈flat r
    ·obtain⟨p',hp',q',z'⟩:=flat_mem.1 z
     rw [decide_eq_true z,decide_eq_true (flat_mem.2 ⟨p',List.mem_cons_of_mem _ hp',q',z'⟩)]
    ·rw [decide_eq_false z,decide_eq_false]
     intro hm
     obtain⟨p',hp',q',z'⟩:=flat_mem.1 hm
     rcases List.mem_cons.1 hp' with rfl | hp'
     ·exact q q'
     ·exact z (flat_mem.2 ⟨p',hp',q',z'⟩)
 apply h
 unfold offs
 repeat' split
 all_goals simp
theorem isF_snoc_hit{op n:Int}{p:Int×List Int}{r:List (Int×List Int)}(hp:p.1=op):∀ pre:List (Int×List Int),(∀ q∈pre,q.1≠op)→isF (pre++p::r) op n=p.2.contains n
 | [],_=>by rw [List.nil_append,isF,if_pos hp]
 | q::pre,h=>by
  rw [List.cons_append,isF,if_neg (h q (List.mem_cons_self ..))]
  exact isF_snoc_hit hp pre (fun z hz=>h z (List.mem_cons_of_mem _ hz))
theorem isF_none{op n:Int}:∀ l:List (Int×List Int),(∀ q∈l,q.1≠op)→isF l op n=false
 | [],_=>rfl
 | q::l,h=>by
  rw [isF,if_neg (h q (List.mem_cons_self ..))]
  exact isF_none l (fun z hz=>h z (List.mem_cons_of_mem _ hz))
end Go.Proofs.YtekogckmgkodfaaGreatDoor.Cat
namespace Go.Proofs.YtekogckmgkodfaaGreatDoor.Cat
open Go.RowKit Mem Arena Delta Path
attribute [local go_sem ↓] Go.wp_at_zero Go.wp_at_succ
def nodeAt(l:List Nd)(a:Int):Nd:=l.getD a.toNat (0,0)
def behind(l:List Nd)(a:Int):Nd:=l.getD (a.toNat+1) (0,0)
def isv(l:List Nd)(a op n:Int):Bool:=if aend l a<0 then false else cis (nodeAt l a) (behind l a) op n
theorem isv_some{l:List Nd}{a m:Nat}(h:scan 1 (l.drop a)=some m)(op n:Int):isv l a op n=cis (nodeAt l a) (behind l a) op n:=if_neg (by rw [aend_some h];omega)
theorem nodeAt_some{l:List Nd}{a m:Nat}(h:scan 1 (l.drop a)=some m):l[a]? = some (nodeAt l a):=by
 have:=T.pos h
 unfold nodeAt
 rw [Int.toNat_natCast,List.getD_eq_getElem?_getD,List.getElem?_eq_getElem (by omega)]
 rfl
theorem arity_some{l:List Nd}{a m:Nat}(h:scan 1 (l.drop a)=some m):0≤ar (nodeAt l a)∧∃ k,scan (ar (nodeAt l a)).toNat (l.drop (a+1))=some k:=by
 have hp:=T.pos h
 have hx:=nodeAt_some h
 have e:l.drop a=nodeAt l a::l.drop (a+1):=by
  have h1:=List.drop_eq_getElem_cons (l:=l) (i:=a) (by omega)
  rw [h1]
  rw [List.getElem?_eq_getElem (by omega)] at hx
  rw [Option.some.inj hx]
 rw [e] at h
 by_cases c:ar (nodeAt l a)<0
 ·rw [show(1:Nat)=0+1 from rfl,scan_bad c] at h;cases h
 ·rw [show(1:Nat)=0+1 from rfl,scan_good (by omega),Option.map_eq_some_iff] at h
  obtain⟨k,h1,-⟩:=h
  rw [Nat.zero_add] at h1
  exact⟨by omega,k,h1⟩
theorem behind_some{l:List Nd}{a m:Nat}(h:scan 1 (l.drop a)=some m)(ht:(nodeAt l a).1=25):l[a+1]? = some (behind l a):=by
 obtain⟨h0,k,hk⟩:=arity_some h
 have e:ar (nodeAt l a)=1:=by
  generalize nodeAt l a=x at *
  obtain⟨t,n⟩:=x
  simp only at ht
  subst ht
  unfold ar asks at h0 ⊢
  simp at h0 ⊢
  split at h0
  ·omega
  ·omega
 rw [e] at hk
 have hp:k≤(l.drop (a+1)).length∧1≤k:=by have:=scan_le _ _ _ hk;exact⟨this.2,this.1⟩
 rw [List.length_drop] at hp
 unfold behind
 rw [Int.toNat_natCast,List.getD_eq_getElem?_getD,List.getElem?_eq_getElem (by omega)]
 rfl
theorem lastLt_snoc(v a:Int):∀ (l:List Int) (j k:Nat),lastLt v (l++[a]) j k=if a<v then j+l.length+1 else lastLt v l j k
 | [],j,k=>rfl
 | x::l,j,k=>by
  rw [List.cons_append,lastLt,lastLt,lastLt_snoc v a l,List.length_cons]
  split
  ·omega
  ·rfl
theorem lastLt_le(v:Int):∀ (l:List Int) (j k:Nat),k≤j→lastLt v l j k≤j+l.length
 | [],j,k,h=>by simpa [lastLt] using h
 | x::l,j,k,h=>by
  rw [lastLt,List.length_cons]
  have:=lastLt_le v l (j+1) (if x<v then j+1 else k) (by split<;>omega)
  omega
theorem ins_in{out:List Int}{v:Int}(h:v∈out):ins out v=out:=if_pos h
theorem ins_new{out:List Int}{v:Int}(h:¬ v∈out){k:Nat}(hk:lastLt v out 0 0=k):ins out v=out.take k++[v]++out.drop k:=by
 unfold ins
 rw [if_neg h,hk,List.append_assoc]
 rfl
theorem foldl_take{L:List Int}{i:Nat}{v:Int}(h:L[i]? = some v)(f:List Int→Int→List Int):(L.take (i+1)).foldl f []=f ((L.take i).foldl f []) v:=by
 rw [take_snoc L i v h,List.foldl_append]
 rfl
theorem adds_at(x:Nd):∀ i:Nat,i<13→(adds x)[5+i]? = some (7+(i:Int)):=by
 intro i hi
 unfold adds
 obtain rfl | rfl | rfl | rfl | rfl | rfl | rfl | rfl | rfl | rfl | rfl | rfl | rfl:i=0∨i=1∨i=2∨i=3∨i=4∨i=5∨i=6∨i=7∨i=8∨i=9∨i=10∨i=11∨i=12:=by omega
 all_goals rfl
theorem adds_5(x:Nd):(adds x).take 5=[-1,0,1,rnd (x.2-1),rnd (x.2+1)]:=rfl
theorem adds_len(x:Nd):(adds x).length=18:=rfl
theorem irow_front{w:World}{B:Nat}{A:Option Addr}{l:List Int}(h:IRow w B A l)(k:Nat):IRow w B A (l.take k):=by
 intro i x hx
 rw [List.getElem?_take] at hx
 split at hx
 ·exact h i x hx
 ·cases hx
theorem irow_back{w:World}{B:Nat}{ad:Addr}{l:List Int}(h:IRow w B (some ad) l)(k:Nat):IRow w B (some (ad.add k)) (l.drop k):=by
 intro i x hx
 rw [List.getElem?_drop] at hx
 obtain⟨ad',e,h1,h2⟩:=h _ x hx
 cases e
 exact⟨_,rfl,by rw [add_blockN];exact h1,by rw [add_add];exact h2⟩
def insTo(L:List Int)(i:Nat):List Int:=(L.take i).foldl ins []
theorem few1{out:List Int}(h:out.length≤18)(k:Nat):([]:List Int).length+(out.take k).length≤100000000:=by
 rw [List.length_nil,List.length_take];omega
theorem few2{out:List Int}(h:out.length≤18)(k:Nat)(y:Int):(out.take k).length+[y].length≤100000000:=by
 rw [List.length_take,List.length_singleton];omega
theorem few3{out:List Int}(h:out.length≤18)(k:Nat)(y:Int):(out.take k++[y]).length+(out.drop k).length≤100000000:=by
 rw [List.length_append,List.length_take,List.length_drop,List.length_singleton];omega
theorem own_le{w:World}{base base':Nat}{e:TypeId}{size:Nat}{v:Value}{n:Nat}{xs:List Value}(h:w.ownsRow base e size v n xs)(hb:base'≤base):w.ownsRow base' e size v n xs:=by
 refine⟨h.1,?_⟩
 rcases h.2 with h2 | ⟨g,cap,cur,e1,h3,r⟩
 ·exact .inl h2
 ·exact .inr ⟨g,cap,cur,e1,Nat.le_trans hb h3,r⟩
theorem insTo_len(L:List Int)(i:Nat):(insTo L i).length≤i:=by
 have:=(fold_up (L.take i) [] trivial).2.2
 unfold insTo
 rw [List.length_take] at this
 simp at this
 omega
end Go.Proofs.YtekogckmgkodfaaGreatDoor.Cat
namespace Go.Proofs.YtekogckmgkodfaaGreatDoor.Cat
open Go.RowKit Mem Arena Delta Path
def DRow(w:World)(B:Nat)(A:Option Addr)(l:List (Int×Int)):Prop :=
 ∀ (i:Nat) (b:Int×Int),l[i]? = some b→∃ ad P c,A=some ad∧ad.block<B∧(P=none→c=0)∧w.cell? (ad.add (i*3))=some (.slice P 0 c) ∧
  w.cell? ⟨(ad.add (i*3)).block,(ad.add (i*3)).off+1,none⟩=some (.int .i64 b.1)∧w.cell? ⟨(ad.add (i*3)).block,(ad.add (i*3)).off+2,none⟩=some (.int .i64 b.2)
theorem DRow.below{w w':World}{B:Nat}{A:Option Addr}{l:List (Int×Int)}(h:DRow w B A l)(hb:Below B w w'):DRow w' B A l:=by
 intro i b hi
 obtain⟨ad,P,c,e,h1,h2,h3,h4,h5⟩:=h i b hi
 have hk:=hb.block (ad.add (i*3)).block (by rw [add_blockN];exact h1)
 refine⟨ad,P,c,e,h1,h2,?_,?_,?_⟩
 ·rw [← h3];unfold World.cell?;rw [hk]
 ·rw [← h4];unfold World.cell?;rw [hk]
 ·rw [← h5];unfold World.cell?;rw [hk]
theorem DRow.at{w w':World}{A:Option Addr}{l:List (Int×Int)}(h:DRow w w.heap.size A l)(hb:Below w.heap.size w w'):DRow w' w'.heap.size A l:=by
 intro i b hi
 obtain⟨ad,P,c,e,h1,r⟩:=(DRow.below h hb) i b hi
 exact⟨ad,P,c,e,Nat.lt_of_lt_of_le h1 hb.size,r⟩
def dcell(b:Int×Int):List Value:=[.slice none 0 0,.int .i64 b.1,.int .i64 b.2]
def dcells(l:List (Int×Int)):List Value:=l.flatMap dcell
theorem dcells_len(l:List (Int×Int)):(dcells l).length=l.length*3:=by
 induction l with
 | nil=>rfl
 | cons b l ih=>rw [show dcells (b::l)=dcell b++dcells l from rfl,List.length_append,ih,List.length_cons];show 3+_=_;omega
theorem dcells_snoc(l:List (Int×Int))(b:Int×Int):dcells (l++[b])=dcells l++dcell b:=by simp [dcells]
theorem dcells_get:∀ (l:List (Int×Int)) (i:Nat) (b:Int×Int),l[i]? = some b→(dcells l)[i*3]? = some (.slice none 0 0)∧(dcells l)[i*3+1]? = some (.int .i64 b.1)∧(dcells l)[i*3+2]? = some (.int .i64 b.2)
 | [],i,b,h=>by simp at h
 | x::l,0,b,h=>by
  obtain rfl:x=b:=by simpa using h
  exact⟨rfl,rfl,rfl⟩
 | x::l,i+1,b,h=>by
  obtain⟨h1,h2,h3⟩:=dcells_get l i b (by simpa using h)
  have e:dcells (x::l)=dcell x++dcells l:=rfl
  have e3:(dcell x).length=3:=rfl
  rw [e]
  refine⟨?_,?_,?_⟩
  ·rw [List.getElem?_append_right (by rw [e3];omega),e3,← h1];congr 1;omega
  ·rw [List.getElem?_append_right (by rw [e3];omega),e3,← h2];congr 1;omega
  ·rw [List.getElem?_append_right (by rw [e3];omega),e3,← h3];congr 1;omega
end Go.Proofs.YtekogckmgkodfaaGreatDoor.Cat
namespace Go.Proofs.YtekogckmgkodfaaGreatDoor.Cat
open Go.RowKit Mem Arena Delta Path
attribute [local go_sem ↓] Go.wp_at_zero Go.wp_at_succ
def chs(l:List Nd)(a:Int):List (Int×Int):=if aend l a<0 then [] else choices (nodeAt l a) (behind l a)
theorem chs_some{l:List Nd}{a m:Nat}(h:scan 1 (l.drop a)=some m):chs l a=choices (nodeAt l a) (behind l a):=if_neg (by rw [aend_some h];omega)
theorem own_kept{w w':World}{base:Nat}{e:TypeId}{size:Nat}{v:Value}{n:Nat}{xs:List Value}(h:w.ownsRow base e size v n xs)(hb:Below w.heap.size w w'):w'.ownsRow base e size v n xs:=by
 refine⟨h.1,?_⟩
 rcases h.2 with h2 | ⟨g,cap,cur,e1,h3,hg,r⟩
 ·exact .inl h2
 ·exact .inr ⟨g,cap,cur,e1,h3,(hb.block g (Array.getElem?_eq_some_iff.1 hg).1).trans hg,r⟩
theorem ofOp_len(x y:Nd)(op:Int)(l:List Int):(ofOp x y op l).length≤l.length:=by
 unfold ofOp
 rw [List.length_map]
 exact List.length_filter_le ..
theorem upto_succ(x y:Nd)(q:Nat):upto x y (q+1)=upto x y q++ofOp x y ((q:Int)+1) (tries x):=rfl
theorem upto_len(x y:Nd):∀ q,(upto x y q).length≤q*18
 | 0=>Nat.le_refl _
 | q+1=>by
  rw [upto_succ,List.length_append]
  have:=upto_len x y q
  have:=ofOp_len x y ((q:Int)+1) (tries x)
  have:=(tries_up x).2.2
  omega
theorem ofOp_step{x y:Nd}{op n:Int}{Z:List Int}{j:Nat}(h:Z[j]? = some n):ofOp x y op (Z.take (j+1))=ofOp x y op (Z.take j)++if cis x y op n then [(op,n)] else []:=by
 rw [take_snoc Z j n h]
 unfold ofOp
 rw [List.filter_append,List.map_append]
 by_cases c:cis x y op n=true
 ·simp [c]
 ·simp [c]
theorem ofOp_yes{x y:Nd}{op n:Int}{Z:List Int}{j:Nat}(h:Z[j]? = some n)(c:cis x y op n=true):ofOp x y op (Z.take (j+1))=ofOp x y op (Z.take j)++[(op,n)]:=by rw [ofOp_step h,if_pos c]
theorem ofOp_no{x y:Nd}{op n:Int}{Z:List Int}{j:Nat}(h:Z[j]? = some n)(c:cis x y op n=false):ofOp x y op (Z.take (j+1))=ofOp x y op (Z.take j):=by rw [ofOp_step h,c];simp
def ChEnds(l:List Nd)(a:Int)(w:World)(e:Ending)(w':World):Prop :=
 Below w.heap.size w w'∧∃ A c,e=.returned (.slice A (chs l a).length c)∧(chs l a).length≤c∧(A=none→c=0)∧DRow w' w'.heap.size A (chs l a)
def ChEndsF(l:List Nd)(a:Int)(w:World)(e:Ending)(w':World):Prop :=
 Below w.heap.size w w'∧∃ A c,e=.returned (.slice A (chs l a).length c)∧(chs l a).length≤c∧(A=none→c=0)∧DRow w' w'.heap.size A (chs l a)∧∀ ad,A=some ad→w.heap.size≤ad.block
theorem ChEndsF.end{l:List Nd}{a:Int}{w:World}{e:Ending}{w':World}(h:ChEndsF l a w e w'):ChEnds l a w e w':=by
 obtain⟨h1,A,c,h2,h3,h4,h5,-⟩:=h
 exact⟨h1,A,c,h2,h3,h4,h5⟩
def E1:List Nd:=[(1,0)]
def E2:List Nd:=[(25,0),(1,1)]
theorem e1s:scan 1 (E1.drop 0)=some 1:=by simp [E1,scan_cons,scan_0,ar]
theorem e2s:scan 1 (E2.drop 0)=some 2:=by simp [E2,scan_cons,scan_0,ar,asks]
theorem rnd_m1:rnd (-1) = -1:=by unfold rnd;rw [IntKind.wrap_i64];omega
theorem rnd_p1:rnd 1=1:=by unfold rnd;rw [IntKind.wrap_i64];omega
theorem ch1:chs E1 0=[(4,-1),(4,1)]:=by
 have h:=chs_some (l:=E1) (a:=0) e1s
 rw [show((0:Nat):Int)=0 from rfl] at h
 rw [h]
 symm
 refine choices_one (by decide) (by simp [Row,Lt]) (fun op n=>?_)
 rw [show nodeAt E1 0=(1,0) from rfl,show behind E1 0=(0,0) from rfl]
 unfold cis
 simp only [show((0:Int)+1)=1 from rfl,show((0:Int)-1) = -1 from rfl,rnd_m1,rnd_p1]
 by_cases h4:op=4
 ·subst h4
  simp
  omega
 ·simp [h4]
theorem ch2:chs E2 0=[(5,0),(7,0)]:=by
 have h:=chs_some (l:=E2) (a:=0) e2s
 rw [show((0:Nat):Int)=0 from rfl] at h
 rw [h]
 symm
 refine choices_one (by decide) (by simp [Row,Lt]) (fun op n=>?_)
 rw [show nodeAt E2 0=(25,0) from rfl,show behind E2 0=(1,1) from rfl]
 unfold cis
 by_cases h5:op=5
 ·subst h5
  simp
 ·by_cases h7:op=7
  ·subst h7
   simp
   omega
  ·simp [h5,h7]
theorem ch0:chs [] 0=[]:=by
 unfold chs
 rw [if_pos (by unfold aend;rw [if_neg (by omega)];simp [scan_nil])]
theorem is1:isv E2 0 7 0=true:=by
 have h:=isv_some (l:=E2) (a:=0) e2s 7 0
 rw [show((0:Nat):Int)=0 from rfl] at h
 rw [h]
 decide
theorem is2:isv E2 0 7 1=false:=by
 have h:=isv_some (l:=E2) (a:=0) e2s 7 1
 rw [show((0:Nat):Int)=0 from rfl] at h
 rw [h]
 decide
end Go.Proofs.YtekogckmgkodfaaGreatDoor.Cat
