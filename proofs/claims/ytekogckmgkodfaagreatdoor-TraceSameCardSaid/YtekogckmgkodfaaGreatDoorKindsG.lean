/-
  Plain facts on kinds: a node's kind, by its tag, its number, variables, and its kids' kinds and tags. No program is met here.
  Programs in memory; the reference of kinds, walked: its small functions.
  The reference of kinds, walked: blocks, variables.
  The reference of kinds, walked: a node's kind, a theorem a tag.
  The reference of kinds, walked: a node's kind, by recursion.
  The reference of kinds, walked: variables, a program, two programs.
  The reference of kinds, walked: a program, two programs.
  Plain facts on typed programs: what is below, what stands instead, a variable more. No program is met here.
  Arguments that are programs by value: what they hold.
  The laws of layer 9, walked on what the package's functions come to: the document's examples.
  The laws of layer 9, walked on what the package's functions come to: a node's kind is just what the document says.
-/
import Derived.Test.YtekogckmgkodfaaGreatDoorArenaH
import Derived.Deep.QuietTactic
set_option linter.unusedVariables false
set_option maxRecDepth 100000
namespace Go.Proofs.YtekogckmgkodfaaGreatDoor
theorem zKindsG0{P:Prop}(h:P:=by
  rw [List.getElem?_map] at hxi
  have h1:(List.range len)[i]? = some i:=by
   rcases Nat.lt_or_ge i len with h | h
   ·rw [List.getElem?_range h]
   ·rw [List.getElem?_eq_none (by simpa using h)] at hxi;cases hxi
  rw [h1] at hxi
  have h2:=(List.getElem?_eq_some_iff.1 h1).1
  exact⟨by simpa using h2,by simpa using hxi⟩):P:=h
theorem zKindsG1{P:Prop}(h:P:=by
  go_enter Tryz.func5,Tryz.ntmps5
  go_wp2
  go_ret
  exact⟨rfl,hB0⟩):P:=h
end Go.Proofs.YtekogckmgkodfaaGreatDoor
namespace Go.Proofs.YtekogckmgkodfaaGreatDoor.Kinds
open Arena
def vtyp(vs:List Int)(v:Int):Int:=if v<0 then -1 else vs.getD v.toNat (-1)
def asz(t:Int):Int:=if t<2∨9<t then 0 else t-1
def ifso(p:Prop) [Decidable p](k:Int):Int:=if p then k else -1
theorem ifso_ge{p:Prop} [Decidable p]{k:Int}(h:0≤ifso p k):p:=by
 unfold ifso at h;split at h
 ·assumption
 ·omega
def blks(ks:List (Int×Int)):Bool:=(ks.drop 1).all fun y=>decide (y.2=20)
def alltwo(q:List Int):Bool:=q.all fun k=>decide (k=2)
def rule(vs:List Int)(x:Nd)(ks:List (Int×Int)):Int :=
 if x.1=1 then 0 else if x.1=2 then 1
 else if x.1=3 then ifso (vtyp vs x.2=0∨vtyp vs x.2=1) (vtyp vs x.2)
 else if x.1=4 then ifso (0<asz (vtyp vs x.2)∧ks.map Prod.fst=[0]) 0
 else if x.1=5 then ifso (ks.map Prod.fst=[0]) 0
 else if x.1=6 then ifso (ks.map Prod.fst=[1]) 1
 else if 7≤x.1∧x.1≤11 then ifso (ks.map Prod.fst=[0,0]) 0
 else if 12≤x.1∧x.1≤17 then ifso (ks.map Prod.fst=[0,0]) 1
 else if x.1=18∨x.1=19 then ifso (ks.map Prod.fst=[1,1]) 1
 else if x.1=20 then ifso (alltwo (ks.map Prod.fst)=true) 2
 else if x.1=21 then ifso ((vtyp vs x.2=0∨vtyp vs x.2=1)∧ks.map Prod.fst=[vtyp vs x.2]) 2
 else if x.1=22 then ifso (0<asz (vtyp vs x.2)∧ks.map Prod.fst=[0,0]) 2
 else if x.1=23 then ifso (ks.map Prod.fst=[1,2,2]∧blks ks=true) 2
 else if x.1=24 then ifso (ks.map Prod.fst=[1,2]∧blks ks=true) 2
 else if x.1=25 then ifso (ks.map Prod.fst=[0]) 2
 else 2
theorem rule_range(vs:List Int)(x:Nd)(ks:List (Int×Int)) : -1≤rule vs x ks∧rule vs x ks≤2:=by
 unfold rule ifso
 repeat' split
 all_goals omega
def kd(vs:List Int)(x:Nd)(ks:List (Int×Int)):Int×Int:=(rule vs x ks,x.1)
def okind(vs:List Int)(l:List Nd)(a:Int):Int:=(val (kd vs) (-1,0) l a).1
def otag(l:List Nd)(a:Int):Int:=(l.getD a.toNat (0,0)).1
theorem okind_bad{vs:List Int}{l:List Nd}{a:Int}(h:aend l a<0):okind vs l a = -1:=by unfold okind;rw [val_bad _ _ h]
theorem val_tag{vs:List Int}{l:List Nd}{k n:Nat}(h:scan 1 (l.drop k)=some n):val (kd vs) (-1,0) l k=(okind vs l k,otag l k):=by
 obtain⟨x,hx,-,-,hv⟩:=val_kids (kd vs) (-1,0) h
 have ht:otag l k=x.1:=by
  unfold otag
  rw [Int.toNat_natCast,List.getD_eq_getElem?_getD,hx]
  rfl
 have h2:(val (kd vs) (-1,0) l k).2=x.1:=by rw [hv];rfl
 unfold okind
 rw [ht,← h2]
theorem okind_kids{vs:List Int}{l:List Nd}{k n:Nat}(h:scan 1 (l.drop k)=some n):∃ x,l[k]? = some x∧0≤ar x∧(akids l k).length=(ar x).toNat∧okind vs l k=rule vs x ((akids l k).map fun q=>(okind vs l q,otag l q)):=by
 obtain⟨x,hx,h0,hl,hv⟩:=val_kids (kd vs) (-1,0) h
 refine⟨x,hx,h0,hl,?_⟩
 have hm:(akids l k).map (val (kd vs) (-1,0) l)=(akids l k).map fun q=>(okind vs l q,otag l q):=by
  apply List.map_congr_left
  intro q hq
  have h2:=(kids_in h q hq).2.2
  rcases aend_cases l q with h' | ⟨k',n',rfl,hs',-⟩
  ·omega
  ·exact val_tag hs'
 unfold okind
 rw [hv,hm]
 rfl
theorem okind_range(vs:List Int)(l:List Nd)(a:Int) : -1≤okind vs l a∧okind vs l a≤2:=by
 rcases aend_cases l a with h | ⟨k,n,rfl,hs,-⟩
 ·rw [okind_bad (by omega)];omega
 ·obtain⟨x,-,-,-,hv⟩:=okind_kids (vs:=vs) hs
  rw [hv];exact rule_range _ _ _
theorem okind_part{vs:List Int}{l:List Nd}{k n:Nat}(h:scan 1 (l.drop k)=some n):okind vs (apart l k) 0=okind vs l k:=by unfold okind;rw [val_part _ _ h]
theorem rule_good{vs:List Int}(x:Nd)(ks:List (Int×Int))(hx:0≤ar x)(hl:ks.length=(ar x).toNat)(h:0≤rule vs x ks):∀ y∈ks,0≤y.1:=by
 have key:∀ L:List Int,ks.map Prod.fst=L→(∀ z∈L,0≤z)→∀ y∈ks,0≤y.1:=by
  intro L hL hz y hy
  exact hz _ (by rw [← hL];exact List.mem_map.2 ⟨y,hy,rfl⟩)
 have none:(ar x).toNat=0→∀ y∈ks,0≤y.1:=by
  intro h0 y hy
  rw [List.length_eq_zero_iff.1 (hl.trans h0)] at hy;cases hy
 obtain⟨t,n⟩:=x
 unfold rule at h
 simp only at h
 by_cases h1:t=1
 ·subst h1;exact none (by simp [ar])
 rw [if_neg h1] at h
 by_cases h2:t=2
 ·subst h2;exact none (by simp [ar,asks];split<;>omega)
 rw [if_neg h2] at h
 by_cases h3:t=3
 ·subst h3;exact none (by simp [ar,asks];split<;>omega)
 rw [if_neg h3] at h
 by_cases h4:t=4
 ·rw [if_pos h4] at h;exact key _ (ifso_ge h).2 (by simp)
 rw [if_neg h4] at h
 by_cases h5:t=5
 ·rw [if_pos h5] at h;exact key _ (ifso_ge h) (by simp)
 rw [if_neg h5] at h
 by_cases h6:t=6
 ·rw [if_pos h6] at h;exact key _ (ifso_ge h) (by simp)
 rw [if_neg h6] at h
 by_cases h7:7≤t∧t≤11
 ·rw [if_pos h7] at h;exact key _ (ifso_ge h) (by simp)
 rw [if_neg h7] at h
 by_cases h12:12≤t∧t≤17
 ·rw [if_pos h12] at h;exact key _ (ifso_ge h) (by simp)
 rw [if_neg h12] at h
 by_cases h18:t=18∨t=19
 ·rw [if_pos h18] at h;exact key _ (ifso_ge h) (by simp)
 rw [if_neg h18] at h
 by_cases h20:t=20
 ·rw [if_pos h20] at h
  have:=ifso_ge h
  intro y hy
  unfold alltwo at this
  rw [List.all_eq_true] at this
  have:=this y.1 (List.mem_map.2 ⟨y,hy,rfl⟩)
  simp at this
  omega
 rw [if_neg h20] at h
 by_cases h21:t=21
 ·rw [if_pos h21] at h
  obtain⟨q1,q2⟩:=ifso_ge h
  exact key _ q2 (by intro z hz;rw [List.mem_singleton] at hz;omega)
 rw [if_neg h21] at h
 by_cases h22:t=22
 ·rw [if_pos h22] at h;exact key _ (ifso_ge h).2 (by simp)
 rw [if_neg h22] at h
 by_cases h23:t=23
 ·rw [if_pos h23] at h;exact key _ (ifso_ge h).1 (by simp)
 rw [if_neg h23] at h
 by_cases h24:t=24
 ·rw [if_pos h24] at h;exact key _ (ifso_ge h).1 (by simp)
 rw [if_neg h24] at h
 by_cases h25:t=25
 ·rw [if_pos h25] at h;exact key _ (ifso_ge h) (by simp)
 by_cases h26:t=26
 ·subst h26;exact none (by simp [ar,asks];split<;>omega)
 ·exfalso
  unfold ar asks at hx
  rw [if_neg h1,if_neg h2,if_neg h3,if_neg (by omega),if_neg h22,if_neg (by omega),if_neg (by omega),if_neg h20,if_neg h23,if_neg h26] at hx
  simp only at hx
  split at hx<;>omega
theorem okind_below{vs:List Int}{l:List Nd}(hw:scan 1 l=some l.length)(h0:0≤okind vs l 0){k n:Nat}(h:scan 1 (l.drop k)=some n):0≤okind vs l k :=
 val_good (kd vs) (-1,0) (fun y=>0≤y.1) (fun x ks h1 h2 h3=>rule_good x ks h1 h2 h3) hw h0 h
theorem okind_rep{vs:List Int}{l m:List Nd}{k n:Nat}(hw:scan 1 l=some l.length)(h:scan 1 (l.drop k)=some n)(hm:scan 1 m=some m.length)(hk:okind vs m 0=okind vs l k)(ht:otag m 0=otag l k):okind vs (arep l k m) 0=okind vs l 0∧otag (arep l k m) 0=otag l 0:=by
 have hr:=(rep_whole hw h hm).1
 have e:=val_rep (kd vs) (-1,0) hw h hm (by
  have a1:=val_tag (vs:=vs) (l:=m) (k:=0) (n:=m.length) hm
  have a2:=val_tag (vs:=vs) h
  rw [a2,← hk,← ht]
  exact a1)
 have b1:=val_tag (vs:=vs) (l:=arep l k m) (k:=0) (n:=(arep l k m).length) hr
 have b2:=val_tag (vs:=vs) (l:=l) (k:=0) (n:=l.length) hw
 rw [show((0:Nat):Int)=0 from rfl] at b1 b2
 rw [b1,b2] at e
 exact⟨(Prod.mk.inj e).1,(Prod.mk.inj e).2⟩
theorem vtyp_more(vs:List Int)(t v:Int)(h:0≤vtyp vs v):vtyp (vs++[t]) v=vtyp vs v:=by
 unfold vtyp at *
 by_cases hv:v<0
 ·rw [if_pos hv,if_pos hv]
 ·rw [if_neg hv] at h ⊢
  rw [if_neg hv]
  rw [List.getD_eq_getElem?_getD] at h ⊢
  rw [List.getD_eq_getElem?_getD]
  rcases Nat.lt_or_ge v.toNat vs.length with q | q
  ·rw [List.getElem?_append_left q]
  ·rw [List.getElem?_eq_none q] at h
   simp at h
theorem asz_pos{t:Int}(h:0<asz t):0≤t:=by unfold asz at h;split at h<;>omega
theorem rule_more(vs:List Int)(t:Int)(x:Nd)(ks:List (Int×Int))(h:0≤rule vs x ks):rule (vs++[t]) x ks=rule vs x ks:=by
 have hv:0≤vtyp vs x.2→vtyp (vs++[t]) x.2=vtyp vs x.2:=vtyp_more vs t x.2
 unfold rule at h ⊢
 by_cases h1:x.1=1
 ·rw [if_pos h1,if_pos h1]
 rw [if_neg h1] at h
 rw [if_neg h1,if_neg h1]
 by_cases h2:x.1=2
 ·rw [if_pos h2,if_pos h2]
 rw [if_neg h2] at h
 rw [if_neg h2,if_neg h2]
 by_cases h3:x.1=3
 ·rw [if_pos h3] at h
  rw [if_pos h3,if_pos h3,hv (by have:=ifso_ge h;omega)]
 rw [if_neg h3] at h
 rw [if_neg h3,if_neg h3]
 by_cases h4:x.1=4
 ·rw [if_pos h4] at h
  rw [if_pos h4,if_pos h4,hv (by exact asz_pos (ifso_ge h).1)]
 rw [if_neg h4] at h
 rw [if_neg h4,if_neg h4]
 by_cases h5:x.1=5
 ·rw [if_pos h5,if_pos h5]
 rw [if_neg h5] at h
 rw [if_neg h5,if_neg h5]
 by_cases h6:x.1=6
 ·rw [if_pos h6,if_pos h6]
 rw [if_neg h6] at h
 rw [if_neg h6,if_neg h6]
 by_cases h7:7≤x.1∧x.1≤11
 ·rw [if_pos h7,if_pos h7]
 rw [if_neg h7] at h
 rw [if_neg h7,if_neg h7]
 by_cases h12:12≤x.1∧x.1≤17
 ·rw [if_pos h12,if_pos h12]
 rw [if_neg h12] at h
 rw [if_neg h12,if_neg h12]
 by_cases h18:x.1=18∨x.1=19
 ·rw [if_pos h18,if_pos h18]
 rw [if_neg h18] at h
 rw [if_neg h18,if_neg h18]
 by_cases h20:x.1=20
 ·rw [if_pos h20,if_pos h20]
 rw [if_neg h20] at h
 rw [if_neg h20,if_neg h20]
 by_cases h21:x.1=21
 ·rw [if_pos h21] at h
  rw [if_pos h21,if_pos h21,hv (by have:=(ifso_ge h).1;omega)]
 rw [if_neg h21] at h
 rw [if_neg h21,if_neg h21]
 by_cases h22:x.1=22
 ·rw [if_pos h22] at h
  rw [if_pos h22,if_pos h22,hv (by exact asz_pos (ifso_ge h).1)]
 rw [if_neg h22] at h
 rw [if_neg h22,if_neg h22]
theorem fold_more(vs:List Int)(t:Int):∀ (X:List Nd) (c:Nat),scan c X=some X.length→(∀ y∈fold (kd vs) X,0≤y.1)→fold (kd (vs++[t])) X=fold (kd vs) X
 | [],_,_,_=>rfl
 | x::X,0,h,_=>by rw [scan_0] at h;simp at h
 | x::X,c+1,h,hg=>by
  have hg1:=fold_good (kd vs) (fun y=>0≤y.1) (fun x ks h1 h2 h3=>rule_good x ks h1 h2 h3) (x::X) (c+1) 1 h hg (by simp)
  rw [List.drop_succ_cons,List.drop_zero] at hg1
  by_cases hx:ar x<0
  ·rw [scan_bad hx] at h;cases h
  ·rw [scan_good (by omega),Option.map_eq_some_iff] at h
   obtain⟨m,h,hm⟩:=h
   rw [List.length_cons] at hm
   obtain rfl:m=X.length:=by omega
   have h0:=hg (kd vs x ((fold (kd vs) X).take (ar x).toNat)) (by rw [fold_cons];exact List.mem_cons_self ..)
   rw [fold_cons,fold_cons,fold_more vs t X _ h hg1]
   congr 1
   exact Prod.ext (rule_more vs t x _ h0) rfl
theorem okind_more{vs:List Int}{l:List Nd}(t:Int)(hw:scan 1 l=some l.length)(h0:0≤okind vs l 0):okind (vs++[t]) l 0=okind vs l 0:=by
 have e0:fold (kd vs) l=[val (kd vs) (-1,0) l 0]:=by
  have:=fold_part (kd vs) (-1,0) (l:=l) (k:=0) (n:=l.length) hw
  rw [show((0:Nat):Int)=0 from rfl,whole_part hw] at this
  exact this
 have e:=fold_more vs t l 1 hw (by rw [e0];intro y hy;rw [List.mem_singleton] at hy;rw [hy];exact h0)
 unfold okind val
 rw [whole_part hw,e]
def varsOk(ps:Int)(vs:List Int):Bool:=decide (0≤ps∧ps≤vs.length∧vs.length≤12) && (vs.zipIdx.all fun y=>decide (0≤y.1∧y.1≤9∧((y.2:Int)<ps→y.1=0)))
end Go.Proofs.YtekogckmgkodfaaGreatDoor.Kinds
namespace Go.Proofs.YtekogckmgkodfaaGreatDoor.Kinds
open Go.RowKit Mem Arena
attribute [local go_sem ↓] Go.wp_at_zero Go.wp_at_succ
structure Prg where
 ps:Int
 A:Option Addr
 c:Nat
 vs:List Int
 B:Option Addr
 e:Nat
 xs:List Nd
structure Prg.Ok (p:Prg) (w:World):Prop where
 vars:IRow w w.heap.size p.A p.vs
 body:Nodes w w.heap.size p.B p.xs
 lv:p.vs.length≤1000000
 lx:p.xs.length≤1000000
 cv:p.vs.length≤p.c
 ce:p.xs.length≤p.e
 nv:p.A=none→p.c=0
 nb:p.B=none→p.e=0
theorem Prg.Ok.at{p:Prg}{w w':World}(h:p.Ok w)(hb:Below w.heap.size w w'):p.Ok w':=⟨h.vars.at hb,h.body.at hb,h.lv,h.lx,h.cv,h.ce,h.nv,h.nb⟩
theorem Prg.Ok.drew{p:Prg}{w:World}(h:p.Ok w):p.Ok w.drew:=⟨h.vars,h.body,h.lv,h.lx,h.cv,h.ce,h.nv,h.nb⟩
def tags(xs:List Nd)(ks:List Int):Bool:=ks.all fun q=>decide (otag xs q=20)
theorem tags_snoc(xs:List Nd)(ks:List Int)(k:Nat)(q:Int)(h:ks[k]? = some q):tags xs (ks.take (k+1))=(tags xs (ks.take k) && decide (otag xs q=20)):=by
 rw [take_snoc ks k q h];simp [tags]
theorem tags_bad{xs:List Nd}{ks:List Int}{k:Nat}{q:Int}(h:ks[k]? = some q)(hq:otag xs q≠20):tags xs ks=false:=by
 unfold tags
 rw [List.all_eq_false]
 exact⟨q,List.mem_of_getElem? h,by simpa using hq⟩
structure NodeAt (p:Prg) (k:Nat) (t n:Int) (ks:List Int):Prop where
 node:p.xs[k]? = some (t,n)
 ends:0≤aend p.xs k
 kids:akids p.xs k=ks
 arity:ks.length=(ar (t,n)).toNat
theorem IRow.one{w:World}{B:Nat}(g:Nat)(ws:List Int)(h:Blk w g 3 (icells ws).toArray)(hB:g<B):IRow w B (some ⟨g,0,none⟩) ws:=by
 intro i x hx
 refine⟨_,rfl,hB,?_⟩
 have:(⟨g,0,none⟩:Addr).add i=⟨g,i,none⟩:=by unfold Addr.add;split<;>simp_all
 rw [this,h.cell];simp [icells,hx]
theorem ifso_iff{p q:Prop} [Decidable p] [Decidable q](h:p↔q)(k:Int):ifso p k=ifso q k:=by unfold ifso;by_cases hp:p<;>simp [hp,← h]
theorem ifso_dec{p:Prop} [Decidable p](k:Int):ifso (decide p=true) k=ifso p k:=by unfold ifso;by_cases h:p<;>simp [h]
end Go.Proofs.YtekogckmgkodfaaGreatDoor.Kinds
namespace Go.Proofs.YtekogckmgkodfaaGreatDoor.Kinds
open Go.RowKit Mem Arena
theorem fst_kids(vs:List Int)(xs:List Nd)(ks:List Int):(ks.map fun q=>(okind vs xs q,otag xs q)).map Prod.fst=ks.map (okind vs xs):=by
 rw [List.map_map];rfl
theorem blks_kids(vs:List Int)(xs:List Nd)(ks:List Int):blks (ks.map fun q=>(okind vs xs q,otag xs q))=tags xs (ks.drop 1):=by
 unfold blks tags
 rw [← List.map_drop,List.all_map]
 rfl
def vgood(ps:Int)(i:Nat)(x:Int):Bool:=decide (0≤x∧x≤9∧((i:Int)<ps→x=0))
def vsgood(ps:Int)(vs:List Int):Nat→Bool
 | 0=>true
 | k+1=>vsgood ps vs k && vgood ps k (vs.getD k 0)
def avars(ps:Int)(vs:List Int):Int:=if ps<0∨(vs.length:Int)<ps∨12<vs.length then 14 else if vsgood ps vs vs.length=true then 0 else 14
theorem vsgood_le{ps:Int}{vs:List Int}{k n:Nat}(h:vsgood ps vs n=true)(hk:k≤n):vsgood ps vs k=true:=by
  induction n with
  | zero => obtain rfl : k = 0 := by omega
            exact h
  | succ n ih =>
    rw [vsgood,Bool.and_eq_true] at h
    rcases Nat.eq_or_lt_of_le hk with rfl | q
    · rw [vsgood,h.1,h.2];rfl
    · exact ih h.1 (by omega)
theorem vsgood_not{ps:Int}{vs:List Int}{k n:Nat}(hk:k<n)(h:vgood ps k (vs.getD k 0)=false):vsgood ps vs n=false:=by
 cases hb:vsgood ps vs n with
 | false=>rfl
 | true =>
  have:=vsgood_le hb (show k+1≤n by omega)
  rw [vsgood,h,Bool.and_false] at this
  exact this.symm
def pcheck(ps:Int)(vs:List Int)(xs:List Nd):Int:=if acheck xs≠0 then acheck xs else if avars ps vs≠0 then avars ps vs else if otag xs 0≠20∨okind vs xs 0≠2 then 15 else 0
theorem ref_Few_any(p:Prg)(w:World):Calls Tryz.prog 5 #[.agg #[.int .i64 p.ps,.slice p.A p.vs.length p.c,.slice p.B p.xs.length p.e]] w fun e w'=>e=.returned (.bool (decide (p.xs.length≤60) && decide (p.vs.length≤20)))∧Below w.heap.size w w':=by
 have hB0:Below w.heap.size w (w.alloc (.cells #[.int .i64 p.ps,.slice p.A p.vs.length p.c,.slice p.B p.xs.length p.e] 25)):=(Below.refl _ _).alloc (Nat.le_refl _) _
 by_cases h1:p.xs.length≤60
 ·have e1:(p.xs.length:Int)≤60:=by omega
  rw [decide_eq_true h1,Bool.true_and]
  by_cases h2:p.vs.length≤20
  ·have e2:(p.vs.length:Int)≤20:=by omega
   rw [decide_eq_true h2]
   exact zKindsG1
  ·have e2:¬ (p.vs.length:Int)≤20:=by omega
   rw [decide_eq_false h2]
   exact zKindsG1
 ·have e1:¬ (p.xs.length:Int)≤60:=by omega
  rw [decide_eq_false h1,Bool.false_and]
  exact zKindsG1
end Go.Proofs.YtekogckmgkodfaaGreatDoor.Kinds
namespace Go.Proofs.YtekogckmgkodfaaGreatDoor.Kinds
open Arena
theorem pcheck_zero{ps:Int}{vs:List Int}{xs:List Nd}(h:pcheck ps vs xs=0):acheck xs=0∧avars ps vs=0∧otag xs 0=20∧okind vs xs 0=2:=by
 unfold pcheck at h
 by_cases h1:acheck xs=0
 ·rw [if_neg (by simpa using h1)] at h
  by_cases h2:avars ps vs=0
  ·rw [if_neg (by simpa using h2)] at h
   by_cases h3:otag xs 0≠20∨okind vs xs 0≠2
   ·rw [if_pos h3] at h;omega
   ·exact⟨h1,h2,by omega,by omega⟩
  ·rw [if_pos h2] at h;exact absurd h h2
 ·rw [if_pos h1] at h;exact absurd h h1
theorem acheck_zero{xs:List Nd}(h:acheck xs=0):xs.length≤200∧scan 1 xs=some xs.length:=by
 unfold acheck at h
 by_cases h0:xs.length=0
 ·rw [if_pos h0] at h;omega
 rw [if_neg h0] at h
 by_cases h1:200<xs.length
 ·rw [if_pos h1] at h;omega
 rw [if_neg h1] at h
 by_cases h2:bads xs=true
 ·rw [if_pos h2] at h;omega
 rw [if_neg h2] at h
 by_cases h3:aend xs 0≠xs.length
 ·rw [if_pos h3] at h;omega
 refine⟨by omega,?_⟩
 rcases aend_cases xs 0 with he | ⟨k,n,hk,hs,he,h5,h6⟩
 ·omega
 ·obtain rfl:k=0:=by omega
  rw [List.drop_zero] at hs
  rw [hs]
  congr 1
  omega
theorem bads_scan:∀ (X:List Nd) (c:Nat),scan c X=some X.length→bads X=false
 | [],_,_=>rfl
 | x::X,0,h=>by rw [scan_0] at h;simp at h
 | x::X,c+1,h=>by
  by_cases hx:ar x<0
  ·rw [scan_bad hx] at h;cases h
  ·rw [scan_good (by omega),Option.map_eq_some_iff] at h
   obtain⟨m,h,hm⟩:=h
   rw [List.length_cons] at hm
   obtain rfl:m=X.length:=by omega
   have:=bads_scan X _ h
   unfold bads at this ⊢
   rw [List.any_cons,this]
   simp;omega
theorem end_all{l:List Nd}(h:scan 1 l=some l.length):aend l 0=l.length:=by
 have:=aend_some (l:=l) (a:=0) (n:=l.length) h
 simpa using this
theorem acheck_scan{xs:List Nd}(h:scan 1 xs=some xs.length)(hl:xs.length≤200):acheck xs=if 30<adep xs 0 then 13 else 0:=by
 have h1:=(scan_le _ _ _ h).1
 unfold acheck
 rw [if_neg (by omega),if_neg (by omega),if_neg (by rw [bads_scan _ _ h];simp),if_neg (by rw [end_all h];simp)]
theorem pcheck_rep{ps:Int}{vs:List Int}{l m:List Nd}{k n:Nat}(hc:pcheck ps vs l=0)(hl:l.length≤60)(h:scan 1 (l.drop k)=some n)(hm:scan 1 m=some m.length)(hl2:m.length≤60)(hk:okind vs m 0=okind vs l k)(ht:otag m 0=otag l k) :
  okind vs (arep l k m) 0=2∧pcheck ps vs (arep l k m)=(if 30<adep (arep l k m) 0 then 13 else 0)∧(arep l k m).length≤200:=by
 obtain⟨c1,c2,c3,c4⟩:=pcheck_zero hc
 obtain⟨-,hw⟩:=acheck_zero c1
 obtain⟨e1,e2⟩:=okind_rep hw h hm hk ht
 obtain⟨r1,r2⟩:=rep_whole hw h hm
 refine⟨by omega,?_,by omega⟩
 unfold pcheck
 rw [acheck_scan r1 (by omega)]
 by_cases hd:30<adep (arep l k m) 0
 ·rw [if_pos hd,if_pos (by omega)]
 ·rw [if_neg hd,if_neg (by omega),if_neg (by omega),if_neg (by omega)]
theorem getD_more(vs:List Int)(t:Int){k:Nat}(hk:k<vs.length):(vs++[t]).getD k 0=vs.getD k 0:=by
 rw [List.getD_eq_getElem?_getD,List.getD_eq_getElem?_getD,List.getElem?_append_left hk]
theorem vsgood_more(ps:Int)(vs:List Int)(t:Int):∀ k,k≤vs.length→vsgood ps (vs++[t]) k=vsgood ps vs k
 | 0,_=>rfl
 | k+1,h=>by rw [vsgood,vsgood,vsgood_more ps vs t k (by omega),getD_more vs t (by omega)]
theorem avars_zero{ps:Int}{vs:List Int}(h:avars ps vs=0):0≤ps∧ps≤vs.length∧vs.length≤12∧vsgood ps vs vs.length=true:=by
 unfold avars at h
 by_cases h1:ps<0∨(vs.length:Int)<ps∨12<vs.length
 ·rw [if_pos h1] at h;omega
 ·rw [if_neg h1] at h
  by_cases h2:vsgood ps vs vs.length=true
  ·exact⟨by omega,by omega,by omega,h2⟩
  ·rw [if_neg h2] at h;omega
theorem avars_more{ps:Int}{vs:List Int}(t:Int)(ht:0≤t∧t≤9)(h:avars ps vs=0):avars ps (vs++[t])=if vs.length=12 then 14 else 0:=by
 obtain⟨a1,a2,a3,a4⟩:=avars_zero h
 have hl:(vs++[t]).length=vs.length+1:=by simp
 unfold avars
 rw [hl]
 by_cases h12:vs.length=12
 ·rw [if_pos h12,if_pos (.inr (.inr (by omega)))]
 ·have hg:vsgood ps (vs++[t]) (vs.length+1)=true:=by
   rw [vsgood,vsgood_more ps vs t vs.length (Nat.le_refl _),a4,Bool.true_and]
   have:(vs++[t]).getD vs.length 0=t:=by rw [List.getD_eq_getElem?_getD];simp
   rw [this]
   unfold vgood
   rw [decide_eq_true_eq]
   omega
  rw [if_neg h12,if_neg (by omega),if_pos hg]
theorem pcheck_more{ps:Int}{vs:List Int}{xs:List Nd}(t:Int)(ht:0≤t∧t≤9)(h:pcheck ps vs xs=0):pcheck ps (vs++[t]) xs=(if vs.length=12 then 14 else 0)∧okind (vs++[t]) xs 0=2:=by
 obtain⟨c1,c2,c3,c4⟩:=pcheck_zero h
 obtain⟨-,hw⟩:=acheck_zero c1
 have hk:=okind_more (vs:=vs) t hw (by omega)
 refine⟨?_,by omega⟩
 unfold pcheck
 rw [avars_more t ht c2,if_neg (by omega)]
 by_cases h12:vs.length=12
 ·rw [if_pos h12,if_pos (by omega)]
 ·rw [if_neg h12,if_neg (by omega),if_neg (by omega)]
theorem pcheck_below{ps:Int}{vs:List Int}{l:List Nd}(h:pcheck ps vs l=0){k n:Nat}(hs:scan 1 (l.drop k)=some n):0≤okind vs l k∧okind vs l k≤2∧okind vs (apart l k) 0=okind vs l k∧∀ q∈akids l k,0≤okind vs l q:=by
 obtain⟨c1,c2,c3,c4⟩:=pcheck_zero h
 obtain⟨-,hw⟩:=acheck_zero c1
 refine⟨okind_below hw (by omega) hs,(okind_range vs l k).2,okind_part hs,?_⟩
 intro q hq
 have h2:=(kids_in hs q hq).2.2
 rcases aend_cases l q with h' | ⟨k',n',rfl,hs',-⟩
 ·omega
 ·exact okind_below hw (by omega) hs'
theorem scan_at:∀ (X:List Nd) (c k:Nat),scan c X=some X.length→k<X.length→∃ n,scan 1 (X.drop k)=some n
 | [],c,k,_,hk=>by simp at hk
 | x::X,0,k,h,_=>by rw [scan_0] at h;simp at h
 | x::X,c+1,0,h,_=>by
  rw [List.drop_zero]
  rw [Nat.add_comm,scan_add] at h
  cases h1:scan 1 (x::X) with
  | none=>rw [h1] at h;cases h
  | some n=>exact⟨n,rfl⟩
 | x::X,c+1,k+1,h,hk=>by
  by_cases hx:ar x<0
  ·rw [scan_bad hx] at h;cases h
  ·rw [scan_good (by omega),Option.map_eq_some_iff] at h
   obtain⟨m,h,hm⟩:=h
   rw [List.length_cons] at hm hk
   obtain rfl:m=X.length:=by omega
   rw [List.drop_succ_cons]
   exact scan_at X _ k h (by omega)
theorem pcheck_at{ps:Int}{vs:List Int}{l:List Nd}(h:pcheck ps vs l=0){k:Nat}(hk:k<l.length):∃ n,scan 1 (l.drop k)=some n :=
 scan_at l 1 k (acheck_zero (pcheck_zero h).1).2 hk
end Go.Proofs.YtekogckmgkodfaaGreatDoor.Kinds
namespace Go.Proofs.YtekogckmgkodfaaGreatDoor.Kinds
open Go.RowKit Mem Go.ChangeShapes Go.WideShapes Go.Deep Go.Joins Arena
section
variable {H:Type} {enc:TypeId×Value→H} {W:World} {spare:Nat→Bool} {held:Bool}
theorem nodes_of{n:Nat}{cs:List Value}{x:DataW H×List MemPlace}(hf:DataW.trod enc Tryz.prog W 0 spare held n 23 cs=some x) :
  ∃ (A:Option Addr) (cap:Nat) (xs:List Nd),cs=[.slice A xs.length cap]∧xs.length≤maxLen∧xs.length≤cap∧(A=none→cap=0)∧Nodes W W.heap.size A xs:=by
 have hC:Tryz.prog.cellsOf 105=2:=by kernel_rfl
 rcases open_slice Tryz.underlying23 hf with⟨rfl,-⟩ | ⟨a,len,cap,m,n,D,Pl,rfl,-,hlc,hcm,hm,hx,hi⟩
 ·exact⟨none,0,[],rfl,by simp,by simp,fun _=>rfl,fun i x h=>by simp at h⟩
 ·rw [hC] at hi
  have hlm:len≤m:=by rw [hm];split<;>omega
  have each:∀ i,i<len→∃ y:Nd,(a.add (i*2)).block=a.block∧W.cell? (a.add (i*2))=some (.int .i64 y.1)∧W.cell? ⟨(a.add (i*2)).block,(a.add (i*2)).off+1,none⟩=some (.int .i64 y.2):=by
   intro i hil
   obtain⟨cs',hc,ht⟩:=hi i (by omega)
   obtain⟨y,hy⟩:=node_of ht
   have hat:=cells_atN hc
   subst hy
   refine⟨y,add_blockN _ _,?_,?_⟩
   ·exact hat 0 _ rfl
   ·have:=hat 1 _ rfl;rwa [add_off _ _ (by omega)] at this
  obtain⟨F,hF⟩:=choose_lt each
  refine⟨some a,cap,(List.range len).map F,by simp,by simp;omega,by simpa using hlc,(fun e=>by cases e),fun i x hxi=>?_⟩
  obtain⟨hil,rfl⟩:i<len∧F i=x:=by
   exact zKindsG0
  obtain⟨hb,q0,q1⟩:=hF i hil
  exact⟨a,rfl,by have:=World.block_lt_of_cell? W _ q0;rw [hb] at this;exact this,q0,q1⟩
theorem ints_of{n:Nat}{cs:List Value}{x:DataW H×List MemPlace}(hf:DataW.trod enc Tryz.prog W 0 spare held n 22 cs=some x) :
  ∃ (A:Option Addr) (cap:Nat) (ks:List Int),cs=[.slice A ks.length cap]∧ks.length≤maxLen∧ks.length≤cap∧(A=none→cap=0)∧IRow W W.heap.size A ks:=by
 have hC:Tryz.prog.cellsOf 3=1:=by kernel_rfl
 rcases open_slice1 Tryz.underlying22 hC hf with⟨rfl,-⟩ | ⟨a,len,cap,m,n,V,D,Pl,rfl,-,hlc,hcm,hm,hx,hi⟩
 ·exact⟨none,0,[],rfl,by simp,by simp,fun _=>rfl,fun i x h=>by simp at h⟩
 ·have hlm:len≤m:=by rw [hm];split<;>omega
  have each:∀ i,i<len→∃ y:Int,W.cell? (a.add i)=some (.int .i64 y):=by
   intro i hil
   obtain⟨hc,ht⟩:=hi i (by omega)
   obtain⟨k,e0,-,-⟩:=DataW.trod_int Tryz.underlying3 ht
   simp at e0
   exact⟨k,by rw [hc,e0]⟩
  obtain⟨F,hF⟩:=choose_lt each
  refine⟨some a,cap,(List.range len).map F,by simp,by simp;omega,by simpa using hlc,(fun e=>by cases e),fun i x hxi=>?_⟩
  obtain⟨hil,rfl⟩:i<len∧F i=x:=by
   exact zKindsG0
  have q0:=hF i hil
  exact⟨a,rfl,by have:=World.block_lt_of_cell? W _ q0;rw [add_blockN] at this;exact this,q0⟩
structure Prg.In (p:Prg) (w:World):Prop where
 vars:IRow w w.heap.size p.A p.vs
 body:Nodes w w.heap.size p.B p.xs
 lv:p.vs.length≤maxLen
 lx:p.xs.length≤maxLen
 cv:p.vs.length≤p.c
 ce:p.xs.length≤p.e
 nv:p.A=none→p.c=0
 nb:p.B=none→p.e=0
theorem Prg.In.at{p:Prg}{w w':World}(h:p.In w)(hb:Below w.heap.size w w'):p.In w':=⟨h.vars.at hb,h.body.at hb,h.lv,h.lx,h.cv,h.ce,h.nv,h.nb⟩
theorem Prg.In.ok{p:Prg}{w:World}(h:p.In w)(h1:p.vs.length≤1000000)(h2:p.xs.length≤1000000):p.Ok w:=⟨h.vars,h.body,h1,h2,h.cv,h.ce,h.nv,h.nb⟩
theorem open_program{b0:Nat}{v:Value}{d:DataW H}{q:List MemPlace}(hv:Value.okWide Tryz.prog W .any b0 25 v)(h:DataW.Trod enc Tryz.prog W 0 spare held 25 v d q) :
  ∃ p:Prg,v=.agg #[.int .i64 p.ps,.slice p.A p.vs.length p.c,.slice p.B p.xs.length p.e]∧p.In W:=by
 obtain⟨cs,rfl,-⟩:=okWide_struct Tryz.underlying25 hv
 obtain⟨fuel,hf⟩:=h
 have hC:Tryz.prog.cellsOf 25=3:=by kernel_rfl
 have hC0:Tryz.prog.cellsOf 3=1:=by kernel_rfl
 have hC1:Tryz.prog.cellsOf 22=1:=by kernel_rfl
 have hC2:Tryz.prog.cellsOf 23=1:=by kernel_rfl
 obtain⟨l⟩:=cs
 obtain⟨y0,y1,y2,m,hx,hl,h0,h1,h2⟩:=trod_struct3 Tryz.underlying25 hf
 rw [hC] at hl
 simp only [Value.cells] at hl h0 h1 h2
 match l,hl with
 | [c0,c1,c2],_ =>
  obtain⟨k,e0,-,-⟩:=DataW.trod_int Tryz.underlying3 h0
  obtain⟨A,c,vs,e1,r1,r2,r3,r4⟩:=ints_of h1
  obtain⟨B,e,xs,e2,s1,s2,s3,s4⟩:=nodes_of h2
  simp only [hC0,hC1,hC2] at e0 e1 e2
  simp at e0 e1 e2
  exact⟨⟨k,A,c,vs,B,e,xs⟩,by simp [e0,e1,e2],⟨r4,s4,r1,s1,r2,s2,r3,s3⟩⟩
end
end Go.Proofs.YtekogckmgkodfaaGreatDoor.Kinds
namespace Go.Proofs.YtekogckmgkodfaaGreatDoor.Kinds
open Go.RowKit Mem Arena
attribute [local go_sem ↓] Go.wp_at_zero Go.wp_at_succ
def B5:List Nd:=[(20,1),(25,0),(7,0),(3,0),(1,1)]
def B3:List Nd:=[(20,1),(25,0),(2,1)]
theorem scan5:scan 1 B5=some B5.length:=by simp [B5,scan_cons,scan_0,ar,asks]
theorem scan52:scan 1 (B5.drop 2)=some 3:=by simp [B5,scan_cons,scan_0,ar,asks]
theorem scan3:scan 1 B3=some B3.length:=by simp [B3,scan_cons,scan_0,ar,asks]
theorem scan32:scan 1 (B3.drop 2)=some 1:=by simp [B3,scan_cons,scan_0,ar,asks]
theorem okind_whole{vs:List Int}{l:List Nd}(h:scan 1 l=some l.length):okind vs l 0=((fold (kd vs) l).headD (-1,0)).1:=by unfold okind val;rw [whole_part h]
theorem okind_at{vs:List Int}{l:List Nd}{k n:Nat}(h:scan 1 (l.drop k)=some n):okind vs l k=((fold (kd vs) ((l.drop k).take n)).headD (-1,0)).1:=by
 unfold okind val apart
 rw [if_neg (by rw [aend_some h];omega),aend_some h,Int.toNat_natCast,show((k:Int)+n).toNat-k=n by omega]
theorem k50:okind [0] B5 0=2:=by rw [okind_whole scan5];decide +kernel
theorem k52:okind [0] B5 2=0:=by
 have:=okind_at (vs:=[0]) (l:=B5) (k:=2) scan52
 rw [show((2:Nat):Int)=2 from rfl] at this
 rw [this];decide +kernel
theorem k30:okind [] B3 0 = -1:=by rw [okind_whole scan3];decide +kernel
theorem k32:okind [] B3 2=1:=by
 have:=okind_at (vs:=[]) (l:=B3) (k:=2) scan32
 rw [show((2:Nat):Int)=2 from rfl] at this
 rw [this];decide +kernel
theorem end_whole{l:List Nd}(h:scan 1 l=some l.length):aend l 0=l.length:=by
 have:=aend_some (l:=l) (a:=0) (n:=l.length) h
 simpa using this
theorem dep_whole{l:List Nd}(h:scan 1 l=some l.length):stk l=[adep l 0]:=by
 have:=stk_whole (l:=l) (k:=0) (n:=l.length) h
 rw [List.drop_zero,List.take_length] at this
 exact this
theorem acheck5:acheck B5=0:=by
 have hd:adep B5 0=4:=by have:=dep_whole scan5;rw [show stk B5=[4] by decide +kernel] at this;simpa using this.symm
 unfold acheck
 rw [end_whole scan5,hd]
 decide +kernel
theorem acheck3:acheck B3=0:=by
 have hd:adep B3 0=3:=by have:=dep_whole scan3;rw [show stk B3=[3] by decide +kernel] at this;simpa using this.symm
 unfold acheck
 rw [end_whole scan3,hd]
 decide +kernel
theorem pcheck5:pcheck 1 [0] B5=0:=by unfold pcheck;rw [acheck5,k50];decide +kernel
theorem pcheck3:pcheck 0 [] B3=15:=by unfold pcheck;rw [acheck3,k30];decide +kernel
theorem av1:avars 1 [0]=0:=by decide +kernel
theorem av2:avars 1 []=14:=by decide +kernel
def P1(g:Nat):Prg:=⟨1,some ⟨g,0,none⟩,1,[0],some ⟨g+1,0,none⟩,5,B5⟩
def P2(g:Nat):Prg:=⟨0,none,0,[],some ⟨g+1+1+1,0,none⟩,3,B3⟩
def P3:Prg:=⟨1,none,0,[],none,0,[]⟩
theorem P3_ok(w:World):P3.Ok w:=⟨fun i x h=>by simp [P3] at h,fun i x h=>by simp [P3] at h,by decide,by decide,by decide,by decide,fun _=>rfl,fun _=>rfl⟩
theorem ret_true{p:Bool}(h:p=true):Ending.returned (.bool p)=.returned (.bool true):=by rw [h]
def fewB(p:Prg):Bool:=decide (p.xs.length≤60) && decide (p.vs.length≤20)
theorem few_ok{p:Prg}(h:fewB p=true):p.vs.length≤1000000∧p.xs.length≤1000000:=by
 unfold fewB at h
 rw [Bool.and_eq_true,decide_eq_true_eq,decide_eq_true_eq] at h
 omega
end Go.Proofs.YtekogckmgkodfaaGreatDoor.Kinds
