/-
  Package direct: a run in memory: the struct, its row of variables, what each has, its events, the places behind nodes, each in a block of its own.
  Where a node's kids stand, one behind the other; what an If's branches tell (plain).
  Package direct, walked: the places behind nodes are found.
  Package direct, walked: what nodes do, by their tags.
  Package direct: a run that is made: its struct; the places behind nodes; what variables have, one by one.
  Package direct, walked: a unit of fuel is taken; a part is passed over; a place of an array; an event is stored.
-/
import Derived.Test.YtekogckmgkodfaaGreatDoorMachPG
import Derived.Test.YtekogckmgkodfaaGreatDoorMachG
import Derived.Deep.MidRow
import Derived.Deep.WholeRow
import Derived.Test.YtekogckmgkodfaaGreatDoorOrdersU
import Derived.Deep.RegionLaw
import Derived.Deep.AppendLies
import Derived.Deep.QuietTactic
set_option linter.unusedVariables false
set_option maxRecDepth 100000
set_option maxHeartbeats 4000000
set_option linter.unusedSimpArgs false
namespace Go.Proofs.YtekogckmgkodfaaGreatDoor
theorem zDirG0{P:Prop}(h:P:=by
  have hw:Region.wanted o (yielded ops a.tmps)=true:=by simp [Region.wanted,hgd]
  rw [if_pos hw]
  unfold Oper.wp execOp
  simp only [ho,Sem.run_bind,hr,Result.andThen_ok]
  exact h):P:=h
theorem zDirG1{P:Prop}(h:P:=by
  rw [← h.br i n q]
  exact World.cell?_of_block (hb K.bb (h.lab.lt K.bb (by rw [h.lab.b];decide)).2 (.inl (by rw [h.lab.b];decide)))):P:=h
theorem zDirG2{P:Prop}(h:P:=by
  go_wp2_with fail
  go_region
  go_wp2_with fail
  refine bodyPost_end (results_none rfl _ _ _) rfl ?_
  exact⟨rfl,HD.out,HW.out⟩):P:=h
end Go.Proofs.YtekogckmgkodfaaGreatDoor
namespace Go.Proofs.YtekogckmgkodfaaGreatDoor.Dir
open Go.RowKit Mem Arena Kinds Path Cat Suite Mach
structure DK where
 base:Nat
 g:Nat
 p:Prg
 F:Nat
 bb:Nat
 bc:Nat
 cv:Value
def dcell(vs:List Int)(s:St)(i:Nat):List Int:=if asz (vs.getD i (-1))=0 then [s.vals.getD i 0] else s.arrs.getD i []
def dcells(vs:List Int)(s:St):List (List Int):=(List.range vs.length).map (dcell vs s)
theorem dcells_len(vs:List Int)(s:St):(dcells vs s).length=vs.length:=by unfold dcells;simp
theorem dcells_get{vs:List Int}{s:St}{i:Nat}(h:i<vs.length):(dcells vs s)[i]? = some (dcell vs s i):=by
 unfold dcells
 rw [List.getElem?_map,List.getElem?_range h];rfl
theorem dcells_same{vs:List Int}{s s':St}(h1:s'.vals=s.vals)(h2:s'.arrs=s.arrs):dcells vs s'=dcells vs s:=by
 unfold dcells dcell
 rw [h1,h2]
theorem dcells_setV{vs:List Int}{s s':St}{n:Nat}(x:Int)(hn:n<vs.length)(hv:s.vals.length=vs.length)(ht:asz (vs.getD n (-1))=0)(h1:s'.vals=s.vals.set n x)(h2:s'.arrs=s.arrs):dcells vs s'=(dcells vs s).set n [x]:=by
 apply List.ext_getElem?
 intro j
 rw [List.getElem?_set]
 by_cases hj:j<vs.length
 ·rw [dcells_get hj]
  split
  ·next q =>
   subst q
   rw [if_pos (by rw [dcells_len];exact hj)]
   unfold dcell
   rw [if_pos ht,h1,set_getD,if_pos ⟨rfl,by omega⟩]
  ·next q =>
   rw [dcells_get hj]
   unfold dcell
   rw [h1,h2,set_getD,if_neg (show ¬ (n=j∧j<s.vals.length) from fun z=>q z.1)]
 ·rw [List.getElem?_eq_none (by rw [dcells_len];omega),if_neg (by omega),List.getElem?_eq_none (by rw [dcells_len];omega)]
theorem dcells_setA{vs:List Int}{s s':St}{n:Nat}{L:List Int}(hn:n<vs.length)(hv:s.arrs.length=vs.length)(ht:asz (vs.getD n (-1))≠0)(h1:s'.vals=s.vals)(h2:s'.arrs=s.arrs.set n L):dcells vs s'=(dcells vs s).set n L:=by
 apply List.ext_getElem?
 intro j
 rw [List.getElem?_set]
 by_cases hj:j<vs.length
 ·rw [dcells_get hj]
  split
  ·next q =>
   subst q
   rw [if_pos (by rw [dcells_len];exact hj)]
   unfold dcell
   rw [if_neg ht,h2,set_getD,if_pos ⟨rfl,by omega⟩]
  ·next q =>
   rw [dcells_get hj]
   unfold dcell
   rw [h1,h2,set_getD,if_neg (show ¬ (n=j∧j<s.arrs.length) from fun z=>q z.1)]
 ·rw [List.getElem?_eq_none (by rw [dcells_len];omega),if_neg (by omega),List.getElem?_eq_none (by rw [dcells_len];omega)]
structure DLab (κ:Nat→Nat) (K:DK) (evv:Value) (Y:List ((Option Addr×Nat)×List Int)) (top:Nat):Prop where
 g:κ K.g=1
 a:∀ k,K.cv.ownBlock=some k→κ k=2
 e:∀ k,evv.ownBlock=some k→κ k=3
 b:κ K.bb=4
 y:∀ (i:Nat) (y:(Option Addr×Nat)×List Int) (k:Nat),Y[i]? = some y→(Value.slice y.1.1 y.2.length y.1.2).ownBlock=some k→κ k=5+i
 lt:∀ k,κ k≠0→K.base≤k∧k<top
def rcells(K:DK)(evv:Value)(n:Nat)(pos:Int):Array Value :=
 #[.int .i64 0,.int .i64 0,.int .i64 n,evv,.slice K.p.B K.p.xs.length K.p.e,.int .i64 pos,.slice (some ⟨K.bb,0,none⟩) K.p.xs.length K.bc,.int .i64 K.F,K.cv,
  .nilIface,.iface 119 (.agg #[]),.iface 119 (.agg #[]),.iface 120 (.agg #[]),.iface 121 (.agg #[]),.iface 122 (.agg #[]),.iface 123 (.agg #[]),
  .iface 124 (.agg #[]),.iface 125 (.agg #[]),.iface 126 (.agg #[]),.iface 127 (.agg #[]),.iface 128 (.agg #[]),.iface 129 (.agg #[]),.iface 130 (.agg #[]),.iface 131 (.agg #[]),.iface 132 (.agg #[]),.iface 133 (.agg #[]),.iface 134 (.agg #[]),
  .iface 135 (.agg #[]),.iface 136 (.agg #[]),.iface 137 (.agg #[]),.iface 138 (.agg #[]),.iface 139 (.agg #[]),.iface 140 (.agg #[]),.iface 141 (.agg #[]),.iface 142 (.agg #[]),.iface 143 (.agg #[])]
structure DM (K:DK) (κ:Nat→Nat) (evv:Value) (Y:List ((Option Addr×Nat)×List Int)) (s:St) (pos:Int) (W:World):Prop where
 lab:DLab κ K evv Y W.heap.size
 body:Nodes W K.base K.p.B K.p.xs
 lx:K.p.xs.length≤1000000
 lv:K.p.vs.length≤1000000
 size:K.base≤W.heap.size
 blk:Blk W K.g 54 (rcells K evv s.steps pos)
 ar:W.ownsRow K.base 22 1 K.cv K.p.vs.length (tcells Y)
 hY:Y.map (·.2)=dcells K.p.vs s
 yr:∀ (i:Nat) (y:(Option Addr×Nat)×List Int),Y[i]? = some y→W.ownsRow K.base 3 1 (.slice y.1.1 y.2.length y.1.2) y.2.length (icells y.2)
 br:∀ i n,scan 1 (K.p.xs.drop i)=some n→W.cell? ⟨K.bb,i,none⟩=some (.int .i64 ((i+n:Nat):Int))
 er:W.ownsRow K.base 95 3 evv s.ev.length (ecells s.ev)
section
variable {K:DK} {κ:Nat→Nat} {evv:Value} {Y:List ((Option Addr×Nat)×List Int)} {s:St} {pos:Int} {W W':World}
theorem DLab.nc(h:DLab κ K evv Y W.heap.size){k:Nat}(q:k<K.base):κ k=0:=by
 by_cases z:κ k=0
 ·exact z
 ·have:=(h.lt k z).1;omega
theorem DM.move(h:DM K κ evv Y s pos W)(hs:W.heap.size≤W'.heap.size)(hb:∀ k,k<W.heap.size→κ k≠0∨k<K.base→W'.heap[k]? = W.heap[k]?):DM K κ evv Y s pos W' where
 lab:={ h.lab with lt:=fun k q=>⟨(h.lab.lt k q).1,Nat.lt_of_lt_of_le (h.lab.lt k q).2 hs⟩ }
 body:=h.body.keep fun k q=>hb k (Nat.lt_of_lt_of_le q h.size) (.inr q)
 lx:=h.lx
 lv:=h.lv
 size:=Nat.le_trans h.size hs
 blk:=(hb K.g (h.lab.lt K.g (by rw [h.lab.g];decide)).2 (.inl (by rw [h.lab.g];decide))).trans h.blk
 ar:=own_of_block h.ar fun k e=>by have:=h.lab.a k e;exact hb k (h.lab.lt k (by omega)).2 (.inl (by omega))
 hY:=h.hY
 yr:=fun i y q=>own_of_block (h.yr i y q) fun k e=>by have:=h.lab.y i y k q e;exact hb k (h.lab.lt k (by omega)).2 (.inl (by omega))
 br:=fun i n q=>by
  exact zDirG1
 er:=own_of_block h.er fun k e=>by have:=h.lab.e k e;exact hb k (h.lab.lt k (by omega)).2 (.inl (by omega))
theorem DM.below(h:DM K κ evv Y s pos W)(hb:Below W.heap.size W W'):DM K κ evv Y s pos W':=h.move hb.size fun k q _=>hb.block k q
theorem DM.drew(h:DM K κ evv Y s pos W):DM K κ evv Y s pos W.drew:=h.move (Nat.le_refl _) fun _ _ _=>rfl
theorem DM.glt(h:DM K κ evv Y s pos W):K.base≤K.g∧K.g<W.heap.size:=h.lab.lt K.g (by rw [h.lab.g];decide)
theorem DM.cell(h:DM K κ evv Y s pos W)(i:Nat):W.cell? ⟨K.g,i,none⟩=(rcells K evv s.steps pos)[i]? := h.blk.cell i
theorem DM.same{s':St}(h:DM K κ evv Y s pos W)(h1:s'.vals=s.vals)(h2:s'.arrs=s.arrs)(h3:s'.ev=s.ev)(h4:s'.steps=s.steps):DM K κ evv Y s' pos W :=
 ⟨h.lab,h.body,h.lx,h.lv,h.size,by rw [h4];exact h.blk,h.ar,by rw [dcells_same h1 h2];exact h.hY,h.yr,h.br,by rw [h3];exact h.er⟩
theorem DM.stop(h:DM K κ evv Y s pos W)(k v:Int):DM K κ evv Y (s.stop k v) pos W:=by
 unfold St.stop
 split
 ·exact h
 ·exact h.same rfl rfl rfl rfl
theorem DM.set_g(h:DM K κ evv Y s pos W)(i:Nat)(x:Value){s':St}{pos':Int}(hC:(rcells K evv s.steps pos).setIfInBounds i x=rcells K evv s'.steps pos')(h1:s'.vals=s.vals)(h2:s'.arrs=s.arrs)(h3:s'.ev=s.ev):DM K κ evv Y s' pos' (W.setCell ⟨K.g,i,none⟩ x):=by
 have hb:∀ k,κ k≠1→(W.setCell ⟨K.g,i,none⟩ x).heap[k]? = W.heap[k]? := fun k q=>Below.heap_setCell _ _ _ _ fun z=>q (by
  obtain rfl:k=K.g:=by first | exact z | exact z.symm
  exact h.lab.g)
 have B:=h.blk.set i x
 rw [hC] at B
 have hsz:W.heap.size≤(W.setCell ⟨K.g,i,none⟩ x).heap.size:=by simp
 exact {
  lab:={ h.lab with lt:=fun k q=>⟨(h.lab.lt k q).1,Nat.lt_of_lt_of_le (h.lab.lt k q).2 hsz⟩ }
  body:=h.body.keep fun k q=>hb k (by have:=h.lab.nc q;omega)
  lx:=h.lx
  lv:=h.lv
  size:=Nat.le_trans h.size hsz
  blk:=B
  ar:=own_of_block h.ar fun k e=>hb k (by rw [h.lab.a k e];decide)
  hY:=by rw [dcells_same h1 h2];exact h.hY
  yr:=fun i y q=>own_of_block (h.yr i y q) fun k e=>hb k (by rw [h.lab.y i y k q e];omega)
  br:=fun i n q=>by rw [← h.br i n q];exact World.cell?_of_block (hb K.bb (by rw [h.lab.b];decide))
  er:=by rw [h3];exact own_of_block h.er fun k e=>hb k (by rw [h.lab.e k e];decide) }
theorem DM.tick(h:DM K κ evv Y s pos W):DM K κ evv Y s.tick pos (W.setCell ⟨K.g,2,none⟩ (.int .i64 ((s.steps:Int)+1))):=h.set_g 2 _ rfl rfl rfl rfl
theorem DM.goto(h:DM K κ evv Y s pos W)(pos':Int):DM K κ evv Y s pos' (W.setCell ⟨K.g,5,none⟩ (.int .i64 pos')):=h.set_g 5 _ rfl rfl rfl rfl
theorem DM.set_y(h:DM K κ evv Y s pos W){b i j:Nat}{y:(Option Addr×Nat)×List Int}(hy:Y[i]? = some y)(hv:(Value.slice y.1.1 y.2.length y.1.2).ownBlock=some b)(hj:j<y.2.length)(x:Int){s':St}(hd:dcells K.p.vs s'=(dcells K.p.vs s).set i (y.2.set j x))(h3:s'.ev=s.ev)(h4:s'.steps=s.steps):DM K κ evv (Y.set i (y.1,y.2.set j x)) s' pos (W.setCell ⟨b,j,none⟩ (.int .i64 x)):=by
 have hb:∀ k,κ k≠5+i→(W.setCell ⟨b,j,none⟩ (.int .i64 x)).heap[k]? = W.heap[k]? := fun k q=>Below.heap_setCell _ _ _ _ fun z=>q (by
  obtain rfl:k=b:=by first | exact z | exact z.symm
  exact h.lab.y i y _ hy hv)
 have hsz:W.heap.size≤(W.setCell ⟨b,j,none⟩ (.int .i64 x)).heap.size:=by simp
 have V:=own_put (x:=.int .i64 x) (h.yr i y hy) hv (by rw [icells_length];exact hj)
 rw [Mach.icells_set] at V
 have hi:i<Y.length:=(List.getElem?_eq_some_iff.1 hy).1
 have ht:tcells (Y.set i (y.1,y.2.set j x))=tcells Y:=by
  unfold tcells
  rw [List.map_set]
  apply List.ext_getElem?
  intro m
  rw [List.getElem?_set]
  split
  ·next q=>subst q;rw [if_pos (by rw [List.length_map];exact hi),List.getElem?_map,hy];simp
  ·rfl
 have hat:∀ m z,(Y.set i (y.1,y.2.set j x))[m]? = some z→(m=i∧z=(y.1,y.2.set j x))∨(m≠i∧Y[m]? = some z):=fun m z q=>by
  rw [List.getElem?_set] at q
  split at q
  ·next q1 =>
   exact .inl ⟨q1.symm,(Option.some.inj q).symm⟩
  ·next q1=>exact .inr ⟨fun e=>q1 e.symm,q⟩
 exact {
  lab:={ h.lab with
   y:=fun m z k q e=>by
    rcases hat m z q with⟨rfl,rfl⟩ | ⟨-,q⟩
    ·exact h.lab.y m y k hy (by rw [← e];cases y.1.1<;>rfl)
    ·exact h.lab.y m z k q e
   lt:=fun k q=>⟨(h.lab.lt k q).1,Nat.lt_of_lt_of_le (h.lab.lt k q).2 hsz⟩ }
  body:=h.body.keep fun k q=>hb k (by have:=h.lab.nc q;omega)
  lx:=h.lx
  lv:=h.lv
  size:=Nat.le_trans h.size hsz
  blk:=by rw [h4];exact(hb K.g (by rw [h.lab.g];omega)).trans h.blk
  ar:=by rw [ht];exact own_of_block h.ar fun k e=>hb k (by rw [h.lab.a k e];omega)
  hY:=by rw [List.map_set,h.hY,hd]
  yr:=fun m z q=>by
   rcases hat m z q with⟨rfl,rfl⟩ | ⟨hne,q⟩
   ·show World.ownsRow _ _ _ _ (.slice y.1.1 (y.2.set j x).length y.1.2) (y.2.set j x).length _
    rw [List.length_set];exact V
   ·exact own_of_block (h.yr m z q) fun k e=>hb k (by rw [h.lab.y m z k q e];omega)
  br:=fun i n q=>by rw [← h.br i n q];exact World.cell?_of_block (hb K.bb (by rw [h.lab.b];omega))
  er:=by rw [h3];exact own_of_block h.er fun k e=>hb k (by rw [h.lab.e k e];omega) }
theorem DM.event(h:DM K κ evv Y s pos W){evv':Value}{e:Int×Int×Int}(hg:W.grownBy W' evv.ownBlock)(hO:W'.ownsRow K.base 95 3 evv' (s.ev.length+1) (ecells s.ev++ecell e))(hat:evv'.ownBlock=evv.ownBlock∨evv'.ownBlock=some W.heap.size) :
    DM K (relabP 3 κ evv') evv' Y { s with ev:=s.ev++[e] } pos (W'.setCell ⟨K.g,3,none⟩ evv')∧∀ k,relabP 3 κ evv' k≠0→κ k≠0∨W.heap.size≤k:=by
  have hnew:∀ k,evv'.ownBlock=some k→κ k=3∨(k=W.heap.size∧κ k=0):=fun k q=>by
    rcases hat with z | z
    · exact .inl (h.lab.e k (z▸q))
    · obtain rfl : W.heap.size = k := Option.some.inj (z.symm.trans q)
      refine .inr ⟨rfl,?_⟩
      by_cases c:κ W.heap.size=0
      · exact c
      · have:=(h.lab.lt _ c).2;omega
  have hre:∀ k,κ k≠0→κ k≠3→relabP 3 κ evv' k=κ k:=fun k q1 q2=>by
    unfold relabP
    rw [if_neg (fun z=>by rcases hnew k z with c | ⟨-,c⟩<;>omega),if_neg q2]
  have hW:∀ k,k<W.heap.size→κ k≠3→W'.heap[k]? = W.heap[k]? := fun k q1 q2=>hg.block k q1 fun z=>q2 (h.lab.e k z.symm)
  have hb:∀ k,k≠K.g→(W'.setCell ⟨K.g,3,none⟩ evv').heap[k]? = W'.heap[k]? := fun k q=>Below.heap_setCell _ _ _ _ fun z=>q (by first | exact z | exact z.symm)
  have hng:∀ k,κ k≠1→k≠K.g:=fun k q z=>q (by rw [z];exact h.lab.g)
  have hall:∀ k,κ k≠0→κ k≠1→κ k≠3→(W'.setCell ⟨K.g,3,none⟩ evv').heap[k]? = W.heap[k]? := fun k q1 q2 q3=>(hb k (hng k q2)).trans (hW k (h.lab.lt k q1).2 q3)
  have hsz:W.heap.size≤(W'.setCell ⟨K.g,3,none⟩ evv').heap.size:=by have:=hg.size;simpa using this
  have hB:Blk W' K.g 54 (rcells K evv s.steps pos):=(hW K.g h.glt.2 (by rw [h.lab.g];decide)).trans h.blk
  refine⟨{
    lab:={
      g:=by rw [hre K.g (by rw [h.lab.g];decide) (by rw [h.lab.g];decide)];exact h.lab.g
      a:=fun k e=>by have:=h.lab.a k e;rw [hre k (by omega) (by omega)];exact this
      e:=fun k e=>by unfold relabP;rw [if_pos e]
      b:=by rw [hre K.bb (by rw [h.lab.b];decide) (by rw [h.lab.b];decide)];exact h.lab.b
      y:=fun i y k q e=>by have:=h.lab.y i y k q e;rw [hre k (by omega) (by omega)];exact this
      lt:=fun k q=>by
        unfold relabP at q
        split at q
        · next z =>
          have:=hO.lt k z
          exact⟨this.1,by simpa using this.2⟩
        · split at q
          · exact absurd rfl q
          · exact⟨(h.lab.lt k q).1,Nat.lt_of_lt_of_le (h.lab.lt k q).2 hsz⟩ }
    body:=h.body.keep fun k q=>by
      have hn:=h.lab.nc q
      exact(hb k (hng k (by omega))).trans (hW k (Nat.lt_of_lt_of_le q h.size) (by omega))
    lx:=h.lx
    lv:=h.lv
    size:=Nat.le_trans h.size hsz
    blk:=hB.set 3 evv'
    ar:=own_of_block h.ar fun k e=>by have:=h.lab.a k e;exact hall k (by omega) (by omega) (by omega)
    hY:=h.hY
    yr:=fun i y q=>own_of_block (h.yr i y q) fun k e=>by have:=h.lab.y i y k q e;exact hall k (by omega) (by omega) (by omega)
    br:=fun i n q=>by rw [← h.br i n q];exact World.cell?_of_block (hall K.bb (by rw [h.lab.b];decide) (by rw [h.lab.b];decide) (by rw [h.lab.b];decide))
    er:=by
      show World.ownsRow _ _ _ _ _ (s.ev++[e]).length (ecells (s.ev++[e]))
      rw [List.length_append,List.length_singleton,ecells_snoc]
      exact own_of_block hO fun k e=>hb k (fun z=>by
        have a:=h.lab.g
        rw [← z] at a
        rcases hnew k e with c | ⟨-,c⟩<;>omega) },?_⟩
  intro k q
  unfold relabP at q
  split at q
  · next z => rcases hnew k z with c | ⟨c, -⟩
              · exact .inl (by omega)
              · exact .inr (by omega)
  · split at q
    · exact absurd rfl q
    · exact .inl q
theorem DM.var(h:DM K κ evv Y s pos W){n:Nat}(hn:n<K.p.vs.length)(h0:0<(dcell K.p.vs s n).length):∃ cb cc b c,K.cv=.slice (some ⟨cb,0,none⟩) K.p.vs.length cc∧W.cell? ⟨cb,n,none⟩=some (.slice (some ⟨b,0,none⟩) (dcell K.p.vs s n).length c)∧Y[n]? = some ((some ⟨b,0,none⟩,c),dcell K.p.vs s n) ∧
  (∀ (j:Nat) (x:Int),(dcell K.p.vs s n)[j]? = some x→W.cell? ⟨b,j,none⟩=some (.int .i64 x))∧(∀ j,W.frozen? ⟨b,j,none⟩=false)∧κ b=5+n:=by
 obtain⟨cb,cc,e,-⟩:=own_block h.ar (by omega)
 have hg:(Y.map (·.2))[n]? = some (dcell K.p.vs s n):=by rw [h.hY];exact dcells_get hn
 rw [List.getElem?_map] at hg
 obtain⟨⟨⟨A,c⟩,L⟩,hy,e2⟩:=Option.map_eq_some_iff.1 hg
 simp only at e2
 subst e2
 have hr:=h.yr n _ hy
 simp only at hr
 obtain⟨b,c',e3,hb⟩:=own_block hr h0
 simp only [Value.slice.injEq] at e3
 obtain⟨rfl,-,rfl⟩:=e3
 refine⟨cb,cc,b,c,e,?_,hy,fun j x hx=>own_read hr hx,fun j=>World.ownsRow.frozenAt hr j,h.lab.y n _ b hy hb⟩
 have har:=h.ar
 rw [e] at har
 have hc:=World.ownsRow.cellAt har n (by simpa using hn)
 rw [hc]
 unfold tcells
 rw [List.getElem?_map,hy]
 rfl
def Came(K:DK)(κ:Nat→Nat)(s:St)(pos:Int)(W W':World):Prop:=∃ κ' evv' Y',DM K κ' evv' Y' s pos W'∧Went κ κ' W W'
def ended(k v:Int):List PanicEntry:=[{ v:=.iface 83 (.agg #[.int .i64 k,.int .i64 v]),recovered:=false }]
def DEnds(K:DK)(κ:Nat→Nat)(r:St×Int)(pos:Int)(W:World)(e:Ending)(W':World):Prop :=
 (r.1.over=false→e=.returned (.int .i64 r.2))∧(r.1.over=true→e=.panicked (ended r.1.kind r.1.value))∧∃ κ' evv' Y' pos',DM K κ' evv' Y' r.1 pos' W'∧Went κ κ' W W'∧(r.1.over=false→pos'=pos)
theorem DEnds.on{κ':Nat→Nat}{evv':Value}{Y':List ((Option Addr×Nat)×List Int)}{s':St}{v pos':Int}(h:DM K κ' evv' Y' s' pos' W')(hw:Went κ κ' W W')(ho:s'.over=false):DEnds K κ (s',v) pos' W (.returned (.int .i64 v)) W' :=
 ⟨fun _=>rfl,(fun z=>by rw [show(s',v).1.over=false from ho] at z;cases z),κ',evv',Y',pos',h,hw,fun _=>rfl⟩
theorem DEnds.stopped{κ':Nat→Nat}{evv':Value}{Y':List ((Option Addr×Nat)×List Int)}{s':St}{v pos' q:Int}(h:DM K κ' evv' Y' s' pos' W')(hw:Went κ κ' W W')(ho:s'.over=false)(k x:Int):DEnds K κ (s'.stop k x,v) q W (.panicked (ended k x)) W' :=
 ⟨(fun z=>by rw [show(s'.stop k x,v).1.over=true from stop_over _ _ _] at z;cases z),(fun _=>by rw [stop_no ho]),κ',evv',Y',pos',h.stop k x,hw,(fun z=>by rw [show(s'.stop k x,v).1.over=true from stop_over _ _ _] at z;cases z)⟩
theorem DEnds.to_on{r:St×Int}{e:Ending}(h:DEnds K κ r pos W e W')(ho:r.1.over=false):e=.returned (.int .i64 r.2)∧∃ κ' evv' Y',DM K κ' evv' Y' r.1 pos W'∧Went κ κ' W W':=by
 obtain⟨h1,-,κ',evv',Y',pos',h2,h3,h4⟩:=h
 obtain rfl:=h4 ho
 exact⟨h1 ho,κ',evv',Y',h2,h3⟩
theorem DEnds.to_over{r:St×Int}{e:Ending}(h:DEnds K κ r pos W e W')(ho:r.1.over=true):e=.panicked (ended r.1.kind r.1.value)∧∃ κ' evv' Y' pos',DM K κ' evv' Y' r.1 pos' W'∧Went κ κ' W W':=by
 obtain⟨-,h1,κ',evv',Y',pos',h2,h3,-⟩:=h
 exact⟨h1 ho,κ',evv',Y',pos',h2,h3⟩
theorem DEnds.over{κ':Nat→Nat}{evv':Value}{Y':List ((Option Addr×Nat)×List Int)}{s':St}{v q:Int}(h:DM K κ' evv' Y' s' pos W')(hw:Went κ κ' W W')(ho:s'.over=true):DEnds K κ (s',v) q W (.panicked (ended s'.kind s'.value)) W' :=
 ⟨(fun z=>by rw [show(s',v).1.over=true from ho] at z;cases z),fun _=>rfl,κ',evv',Y',pos,h,hw,fun z=>by rw [show(s',v).1.over=true from ho] at z;cases z⟩
theorem DEnds.cast{r r':St×Int}{e:Ending}(h:DEnds K κ r pos W e W')(q:r=r'):DEnds K κ r' pos W e W':=q▸h
theorem DEnds.then{κ':Nat→Nat}{W1 W2:World}{r:St×Int}{e:Ending}(h:DEnds K κ' r pos W1 e W2)(hw:Went κ κ' W W1):DEnds K κ r pos W e W2:=by
 obtain⟨a,b,κ2,evv',Y',pos',h1,h2,h3⟩:=h
 exact⟨a,b,κ2,evv',Y',pos',h1,hw.trans h2,h3⟩
abbrev NodeOk (K:DK) (q:Int) (s:St) (r:St×Int) (q':Int):Prop:=∀ κ evv Y W,DM K κ evv Y s q W→Calls Tryz.prog 35 #[.pointer (some ⟨K.g,0,none⟩)] W (DEnds K κ r q' W)
end
end Go.Proofs.YtekogckmgkodfaaGreatDoor.Dir
namespace Go.Proofs.YtekogckmgkodfaaGreatDoor.Dir
open Arena Kinds Mach
theorem drow_scan(l:List Nd):∀ (c s n:Nat),scan c (l.drop s)=some n→∀ j,j<c→∃ r m:Nat,scan j (l.drop s)=some r∧(kidsFrom l c s)[j]? = some ((s+r:Nat):Int)∧scan 1 (l.drop (s+r))=some m∧scan (j+1) (l.drop s)=some (r+m)∧r+m≤n
 | 0,s,n,h,j,hj=>absurd hj (by omega)
 | c+1,s,n,h,j,hj=>by
  rw [Nat.add_comm,scan_add] at h
  cases h1:scan 1 (l.drop s) with
  | none=>rw [h1] at h;cases h
  | some n1 =>
   rw [h1] at h
   simp only [Option.bind_some,Option.map_eq_some_iff,List.drop_drop] at h
   obtain⟨m,h2,rfl⟩:=h
   have ek:aend l (s:Int)=((s+n1:Nat):Int):=by rw [aend_some h1];omega
   cases j with
   | zero=>exact⟨0,n1,scan_0 _,by rw [kidsFrom];rfl,h1,by rw [h1,Nat.zero_add],by omega⟩
   | succ j =>
    obtain⟨r,m',r1,r2,r3,r4,r5⟩:=drow_scan l c (s+n1) m h2 j (by omega)
    refine⟨n1+r,m',?_,?_,by rw [← Nat.add_assoc];exact r3,?_,by omega⟩
    ·rw [Nat.add_comm j 1,scan_add,h1]
     simp only [Option.bind_some,List.drop_drop,r1,Option.map_some]
    ·rw [kidsFrom,ek,List.getElem?_cons_succ,r2,Nat.add_assoc]
    ·rw [Nat.add_comm (j+1) 1,scan_add,h1]
     simp only [Option.bind_some,List.drop_drop,r4,Option.map_some,Nat.add_assoc]
theorem dkid_scan{l:List Nd}{a n:Nat}(h:scan 1 (l.drop a)=some n):∃ x c,l[a]? = some x∧ar x=((c:Nat):Int)∧c≤200∧(akids l a).length=c∧scan c (l.drop (a+1))=some (n-1)∧1≤n∧a+n≤l.length ∧
  ∀ j,j<c→∃ r m:Nat,scan j (l.drop (a+1))=some r∧(akids l a)[j]? = some ((a+1+r:Nat):Int)∧scan 1 (l.drop (a+1+r))=some m∧scan (j+1) (l.drop (a+1))=some (r+m)∧r+m≤n-1:=by
 obtain⟨x,h1,h2,h3,h4,h5,h6⟩:=node_kids h
 have:=(ar_le x).2
 refine⟨x,(ar x).toNat,h1,by omega,by omega,by rw [h3,kids_len],h4,h5,h6,fun j hj=>?_⟩
 rw [h3]
 exact drow_scan l _ _ _ h4 j hj
section
variable {l:List Nd} {k n:Nat}
theorem kids_none(h:scan 1 (l.drop k)=some n)(hq:akids l k=[]):n=1:=by
 obtain⟨x,c,-,-,-,hc,hs,h1,-,-⟩:=dkid_scan h
 rw [hq] at hc
 obtain rfl:c=0:=by simpa using hc.symm
 rw [scan_0] at hs
 have:=Option.some.inj hs
 omega
theorem kids_one{q:Int}(h:scan 1 (l.drop k)=some n)(hq:akids l k=[q]):∃ n1,q=((k+1:Nat):Int)∧scan 1 (l.drop (k+1))=some n1∧n=1+n1:=by
 obtain⟨x,c,-,-,-,hc,hs,h1,-,hk⟩:=dkid_scan h
 rw [hq] at hc hk
 obtain rfl:c=1:=by simpa using hc.symm
 obtain⟨r,m,r1,r2,-,-,-⟩:=hk 0 (by omega)
 rw [scan_0] at r1
 obtain rfl:0=r:=Option.some.inj r1
 exact⟨n-1,by simpa using r2,hs,by omega⟩
theorem kids_two{q q2:Int}(h:scan 1 (l.drop k)=some n)(hq:akids l k=[q,q2]):∃ n1 n2,q=((k+1:Nat):Int)∧scan 1 (l.drop (k+1))=some n1∧q2=((k+1+n1:Nat):Int)∧scan 1 (l.drop (k+1+n1))=some n2∧n=1+n1+n2:=by
 obtain⟨x,c,-,-,-,hc,hs,h1,-,hk⟩:=dkid_scan h
 rw [hq] at hc hk
 obtain rfl:c=2:=by simpa using hc.symm
 obtain⟨r,m,r1,r2,r3,r4,-⟩:=hk 0 (by omega)
 rw [scan_0] at r1
 obtain rfl:0=r:=Option.some.inj r1
 obtain⟨r',m',p1,p2,p3,p4,-⟩:=hk 1 (by omega)
 rw [Nat.add_zero] at r3
 rw [r3] at p1
 obtain rfl:m=r':=Option.some.inj p1
 rw [hs] at p4
 have:=Option.some.inj p4
 exact⟨m,m',by simpa using r2,r3,by simpa using p2,p3,by omega⟩
theorem kids_three{q q2 q3:Int}(h:scan 1 (l.drop k)=some n)(hq:akids l k=[q,q2,q3]):∃ n1 n2 n3,q=((k+1:Nat):Int)∧scan 1 (l.drop (k+1))=some n1∧q2=((k+1+n1:Nat):Int)∧scan 1 (l.drop (k+1+n1))=some n2∧q3=((k+1+n1+n2:Nat):Int)∧scan 1 (l.drop (k+1+n1+n2))=some n3∧n=1+n1+n2+n3:=by
 obtain⟨x,c,-,-,-,hc,hs,h1,-,hk⟩:=dkid_scan h
 rw [hq] at hc hk
 obtain rfl:c=3:=by simpa using hc.symm
 obtain⟨r,m,r1,r2,r3,r4,-⟩:=hk 0 (by omega)
 rw [scan_0] at r1
 obtain rfl:0=r:=Option.some.inj r1
 obtain⟨r',m',p1,p2,p3,p4,-⟩:=hk 1 (by omega)
 rw [Nat.add_zero] at r3
 rw [r3] at p1
 obtain rfl:m=r':=Option.some.inj p1
 obtain⟨r'',m'',t1,t2,t3,t4,-⟩:=hk 2 (by omega)
 rw [p4] at t1
 obtain rfl:m+m'=r'':=Option.some.inj t1
 rw [hs] at t4
 have:=Option.some.inj t4
 rw [← Nat.add_assoc] at t2 t3
 exact⟨m,m',m'',by simpa using r2,r3,by simpa using p2,p3,by simpa using t2,t3,by omega⟩
theorem kids_many(h:scan 1 (l.drop k)=some n):∃ P:Nat→Nat,P 0=k+1∧P (akids l k).length=k+n∧∀ j,j<(akids l k).length→(akids l k)[j]? = some ((P j:Nat):Int)∧∃ m,scan 1 (l.drop (P j))=some m∧P (j+1)=P j+m∧m<n:=by
 obtain⟨x,c,-,-,-,hc,hs,h1,-,hk⟩:=dkid_scan h
 rw [hc]
 refine⟨fun j=>k+1+(scan j (l.drop (k+1))).getD 0,by simp only;rw [scan_0];rfl,by simp only;rw [hs];simp only [Option.getD_some];omega,fun j hj=>?_⟩
 obtain⟨r,m,r1,r2,r3,r4,r5⟩:=hk j hj
 simp only
 rw [r1,r4]
 simp only [Option.getD_some]
 exact⟨r2,m,r3,by omega,by omega⟩
theorem if_tags{vs:List Int}{N q q2 q3:Int}(h:scan 1 (l.drop k)=some n)(hx:l[k]? = some (23,N))(hk:0≤okind vs l k)(hq:akids l k=[q,q2,q3]):otag l q2=20∧otag l q3=20:=by
 obtain⟨x',hx',-,-,e'⟩:=okind_kids (vs:=vs) h
 obtain rfl:(23,N)=x':=by rw [hx] at hx';exact Option.some.inj hx'
 rw [e',hq] at hk
 unfold rule at hk
 simp at hk
 have:=(ifso_ge hk).2
 simp [blks] at this
 exact this
theorem otag_at{x:Nd}(hx:l[k]? = some x):otag l k=x.1:=by
 unfold otag
 rw [List.getD_eq_getElem?_getD,Int.toNat_natCast,hx];rfl
theorem blk_zero(h:scan 1 (l.drop k)=some n)(ht:otag l k=20)(s:St):(mean l k s).2=0:=by
 obtain⟨⟨t,v⟩,hx,-,-,e⟩:=mean_kids h
 have h1:=otag_at hx
 rw [ht] at h1
 simp only at h1
 subst h1
 have hr:∀ m∈(akids l k).map (mean l),Rests m:=fun m hm=>by
  obtain⟨q,hq,rfl⟩:=List.mem_map.1 hm
  obtain⟨j,n',rfl,hj⟩:=kid_node h hq
  exact fun s' hs=>mean_over hj hs
 rw [e]
 show(enterM (innerM (20,v) _) s).2=0
 by_cases ho:s.over=true
 ·rw [enter_over ho]
 have ho:s.over=false:=by simpa using ho
 by_cases h0:s.fuel=0
 ·rw [enter_out ho h0]
 rw [Mach.enter_on ho h0]
 show(seqM _ s.tick).2=0
 rw [seq_run _ hr]
end
end Go.Proofs.YtekogckmgkodfaaGreatDoor.Dir
namespace Go.Proofs.YtekogckmgkodfaaGreatDoor.Dir
open Go.RowKit Mem Arena Kinds Path Cat Suite Mach
attribute [local go_sem ↓] Go.wp_at_zero Go.wp_at_succ
def Marked(xs:List Nd)(a b:Nat)(L L':List Int):Prop :=
 L'.length=L.length∧(∀ j,a≤j→j<b→∀ m,scan 1 (xs.drop j)=some m→L'[j]? = some ((j+m:Nat):Int))∧∀ j,(j<a∨b≤j)→L'[j]? = L[j]?
theorem Marked.refl(xs:List Nd)(a:Nat)(L:List Int):Marked xs a a L L:=⟨rfl,fun j h1 h2=>absurd h2 (by omega),fun _ _=>rfl⟩
theorem Marked.trans{xs:List Nd}{a b c:Nat}{L L' L'':List Int}(h:Marked xs a b L L')(k:Marked xs b c L' L'')(h1:a≤b)(h2:b≤c):Marked xs a c L L'':=by
 refine⟨k.1.trans h.1,fun j j1 j2 m hm=>?_,fun j hj=>?_⟩
 ·by_cases q:j<b
  ·rw [k.2.2 j (.inl q)];exact h.2.1 j j1 q m hm
  ·exact k.2.1 j (by omega) j2 m hm
 ·rw [k.2.2 j (by omega),h.2.2 j (by omega)]
theorem Marked.top{xs:List Nd}{a n:Nat}{L L':List Int}(h:Marked xs (a+1) (a+n) L L')(hn:1≤n)(hs:scan 1 (xs.drop a)=some n)(hl:a<L.length):Marked xs a (a+n) L (L'.set a ((a+n:Nat):Int)):=by
 refine⟨by rw [List.length_set];exact h.1,fun j j1 j2 m hm=>?_,fun j hj=>?_⟩
 ·rw [List.getElem?_set]
  by_cases q:a=j
  ·subst q
   rw [hs] at hm
   obtain rfl:=Option.some.inj hm
   rw [if_pos rfl,if_pos (by rw [h.1];exact hl)]
  ·rw [if_neg q];exact h.2.1 j (by omega) j2 m hm
 ·rw [List.getElem?_set,if_neg (by omega)];exact h.2.2 j (by omega)
structure MB (g bb base:Nat) (p:Prg) (bc:Nat) (L:List Int) (W:World):Prop where
 c4:W.cell? ⟨g,4,none⟩=some (.slice p.B p.xs.length p.e)
 c6:W.cell? ⟨g,6,none⟩=some (.slice (some ⟨bb,0,none⟩) p.xs.length bc)
 blk:Blk W bb 3 (icells L).toArray
 len:L.length=p.xs.length
 body:Nodes W base p.B p.xs
 hb:base≤bb
 hg:g≠bb
 gl:g<W.heap.size
 bl:base≤W.heap.size
section
variable {g bb base bc:Nat} {p:Prg} {L L':List Int} {W W':World}
theorem MB.keep(h:MB g bb base p bc L W)(k:Kept (· = bb) W W')(hB:Blk W' bb 3 (icells L').toArray)(hl:L'.length=p.xs.length):MB g bb base p bc L' W' where
 c4:=(k.cell (p:=⟨g,4,none⟩) h.gl h.hg).trans h.c4
 c6:=(k.cell (p:=⟨g,6,none⟩) h.gl h.hg).trans h.c6
 blk:=hB
 len:=hl
 body:=h.body.keep fun i q=>k.block i (by have:=h.bl;omega) (by have:=h.hb;omega)
 hb:=h.hb
 hg:=h.hg
 gl:=Nat.lt_of_lt_of_le h.gl k.size
 bl:=Nat.le_trans h.bl k.size
theorem MB.below(h:MB g bb base p bc L W)(k:Below W.heap.size W W'):MB g bb base p bc L W':=h.keep (Kept.of_below k (Nat.le_refl _)) (h.blk.below k h.blk.lt) h.len
theorem MB.put(h:MB g bb base p bc L W)(i:Nat)(x:Int):MB g bb base p bc (L.set i x) (W.setCell ⟨bb,i,none⟩ (.int .i64 x)):=by
 have B:=h.blk.set i (.int .i64 x)
 rw [show(icells L).toArray.setIfInBounds i (.int .i64 x)=(icells (L.set i x)).toArray by rw [List.setIfInBounds_toArray,Mach.icells_set]] at B
 exact h.keep ((Kept.refl (· = bb) W).setCell (p:=⟨bb,i,none⟩) (.inl rfl) _) B (by rw [List.length_set];exact h.len)
def MarkEnds(g bb base:Nat)(p:Prg)(bc k n:Nat)(L:List Int)(W:World)(e:Ending)(W':World):Prop :=
 e=.returned (.int .i64 ((k+n:Nat):Int))∧∃ L',MB g bb base p bc L' W'∧Kept (· = bb) W W'∧Marked p.xs k (k+n) L L'
theorem mark_any(hlx:p.xs.length≤1000000)(M:Nat):∀ (k n:Nat) (L:List Int) (W:World),n≤M→scan 1 (p.xs.drop k)=some n→MB g bb base p bc L W→Calls Tryz.prog 33 #[.pointer (some ⟨g,0,none⟩),.int .i64 k] W (MarkEnds g bb base p bc k n L W):=by
 induction M with
 | zero =>
  intro k n L W hn h
  have:=(scan_le _ _ _ h).1
  omega
 | succ M ih =>
  intro k n L W hn h hM
  obtain⟨x,c,hx,har,hc,hcl,hsc,hn1,hkn,hks⟩:=dkid_scan h
  obtain⟨ad,hB,-,d0,d1⟩:=hM.body k x hx
  have c4:=hM.c4
  rw [hB] at c4
  have i1:(k:Int)<(p.xs.length:Int):=by omega
  have i2:(0:Int)≤(k:Int):=by omega
  have v1:IntKind.i64.wrap ((k:Int)+1)=(k:Int)+1:=IntWalk.i64_in _ (by omega)
  have HAR:=Lib.hid (fun W=>Arity_any x.1 x.2 W)
  rw [show ar (x.1,x.2)=(c:Int) from har] at HAR
  have HIH:=Lib.hid ih
  have HKS:=Lib.hid hks
  have HSC:=Lib.hid hsc
  have HH:=Lib.hid h
  have HM:=Lib.hid hM
  have HK:=Lib.hid hkn
  have hll:=hM.len
  clear ih hks hsc h hM hB har hx hcl hkn
  go_enter Tryz.func33,Tryz.ntmps33
  go_wp2_with (first | (go_at_call 49;(with_reducible refine(HAR.out _).mono ?_);rintro e w1 ⟨rfl,hb1⟩;have HM1:=Lib.hid (HM.out.below hb1);have HW1:=Lib.hid (show Kept (· = bb) W w1 from Kept.of_below hb1 (Nat.le_refl _))) | fail)
  clear c4 d0 d1
  go_loopw [16,5] (fun i v wr=>∃ (j r:Nat) (L':List Int),j≤c∧i=.int .i64 j∧v=.int .i64 ((k+1+r:Nat):Int)∧scan j (p.xs.drop (k+1))=some r∧MB g bb base p bc L' wr∧Kept (· = bb) W wr∧Marked p.xs (k+1) (k+1+r) L L') (fun i _ _=>c-(intOf i).toNat)
  case atStart=>exact⟨0,0,L,Nat.zero_le _,rfl,by simp,scan_0 _,HM1.out,HW1.out,Marked.refl _ _ _⟩
  case round =>
   obtain⟨j,r,L',hj,rfl,rfl,hr,hMr,hKr,hmr⟩:=hrel
   by_cases hlt:j<c
   ·obtain⟨r',m,s1,-,s3,s4,s5⟩:=HKS.out j hlt
    rw [hr] at s1
    obtain rfl:=Option.some.inj s1
    have j1:(j:Int)<(c:Int):=by omega
    have v2:IntKind.i64.wrap ((j:Int)+1)=(j:Int)+1:=IntWalk.i64_in _ (by omega)
    have HC:=Lib.hid (HIH.out (k+1+r) m L' wr (by omega) s3 hMr)
    have HS4:=Lib.hid s4
    have HMR:=Lib.hid hmr
    have HKR:=Lib.hid hKr
    clear s1 s3 s4 hr hMr hKr hmr
    generalize hq:((k+1+r:Nat):Int)=q at *
    go_wp2_with (first | (go_at_call 33;(with_reducible refine HC.out.mono ?_);rintro e w2 ⟨rfl,L2,hM2,hK2,hm2⟩) | fail)
    go_roundw
    case rel=>exact⟨j+1,r+m,L2,hlt,by go_num,congrArg (Value.int .i64) (by omega),HS4.out,hM2,HKR.out.trans hK2,by rw [← Nat.add_assoc];exact HMR.out.trans hm2 (by omega) (by omega)⟩
    case measure=>simp [intOf];omega
   ·obtain rfl:j=c:=by omega
    rw [HSC.out] at hr
    obtain rfl:=Option.some.inj hr
    have j1:¬ (j:Int)<(j:Int):=by omega
    have hkk:=HK.out
    have e0:k+1+(n-1)=k+n:=by omega
    rw [e0] at hmr ⊢
    have c6:=hMr.c6
    obtain⟨z,hz⟩:∃ z,L'[k]? = some z:=⟨_,List.getElem?_eq_getElem (by rw [hMr.len];omega)⟩
    have cz:wr.cell? ⟨bb,k,none⟩=some (.int .i64 z):=by
     rw [hMr.blk.cell]
     simp [icells,hz]
    have fz:=hMr.blk.frozen k
    have HE:=Lib.hid (show MarkEnds g bb base p bc k n L W (.returned (.int .i64 ((k+n:Nat):Int))) _ from⟨rfl,_,hMr.put k ((k+n:Nat):Int),hKr.trans ((Kept.refl (· = bb) wr).setCell (p:=⟨bb,k,none⟩) (.inl rfl) (.int .i64 ((k+n:Nat):Int))),hmr.top hn1 HH.out (by omega)⟩)
    clear hr hMr hKr hmr hz
    generalize ((k+n:Nat):Int)=q at *
    go_wp2_with fail
    go_ret
    exact HE.out
end
def deedsC:Array Value:=#[.nilIface,.iface 119 (.agg #[]),.iface 119 (.agg #[]),.iface 120 (.agg #[]),.iface 121 (.agg #[]),.iface 122 (.agg #[]),.iface 123 (.agg #[]),.iface 124 (.agg #[]),.iface 125 (.agg #[]),.iface 126 (.agg #[]),.iface 127 (.agg #[]),.iface 128 (.agg #[]),.iface 129 (.agg #[]),.iface 130 (.agg #[]),.iface 131 (.agg #[]),.iface 132 (.agg #[]),.iface 133 (.agg #[]),.iface 134 (.agg #[]),.iface 135 (.agg #[]),.iface 136 (.agg #[]),.iface 137 (.agg #[]),.iface 138 (.agg #[]),.iface 139 (.agg #[]),.iface 140 (.agg #[]),.iface 141 (.agg #[]),.iface 142 (.agg #[]),.iface 143 (.agg #[])]
def deeds0:Array Value:=Array.replicate 27 .nilIface
theorem wpList_build{P:Program}{ops:Array Oper}{rest:List Oper}{op:Oper}{a:Act}{w:World}{Q:Exit→Act→World→Prop}(hgd:op.guard=none)(t:TypeId)(parts:Array (Nat×Operand))(ho:op.op=.build t parts)(v:Value)
  (hr:(Instr.build t (parts.map fun x=>match x with | (i,x)=>(i,a.eval x))).run P w=.ok v w)
  (h:wpList P ops Q rest (a.put op.dst v) w):wpList P ops Q (op::rest) a w:=by
 refine wpList_plain hgd fun _ hK=>?_
 unfold Oper.wp execOp
 simp only [ho,Sem.run_bind,hr,Result.andThen_ok]
 exact hK _ _ h
theorem zero_deeds(W:World):(zeroValue 52).run Tryz.prog W=.ok (.agg deeds0) W:=by kernel_rfl
theorem size_deeds:(Tryz.prog.info? 52).map (·.size)=some deedsC.size:=by kernel_rfl
theorem one_deeds:deedsC.all (·.oneCell')=true:=by kernel_rfl
theorem cells_deeds:(Value.agg deeds0).cells=deeds0:=rfl
theorem results_deeds{P:Program}{fn:Func}{k:Tmp}{ty t:TypeId}{tmps:Array Value}{w:World}{g:Nat}{cs:Array Value}(h:fn.results=#[.cell k ty])(hk:tmps.getD k undef=.pointer (some ⟨g,0,none⟩))
  (hr:Blk w g t cs) {d:TypeDesc} (hu:P.underlying ty=some d) (hd:d.isRow=true) (hi:(P.info? ty).map (·.size)=some cs.size) :
  (results fn tmps).run P w=.ok (.agg cs) w:=by
 have hl:(loadVar ty ⟨g,0,none⟩).run P w=.ok (.agg cs) w:=by
  have:=run_loadVar_mid (P:=P) w g 0 ty cs.toList d (fun j v hv=>by rw [Nat.zero_add,hr.cell];simpa using hv) hu hd (by simpa using hi)
  simpa using this
 have hk':tmps[k]?.getD undef=.pointer (some ⟨g,0,none⟩):=by rw [← hk,Array.getD_eq_getD_getElem?]
 simp only [results,h]
 simp [hk',asAddr,hl]
theorem below_row{w c:World}{g:Nat}(h:Below w.heap.size w c)(hg:w.heap.size≤g)(cs:Array Value):Below w.heap.size w (c.setRow g cs) :=
 ⟨h.os,h.tape,h.output,by simpa [World.setRow] using h.size,fun k hk=>(setRow_other c g k cs (by omega)).trans (h.block k hk)⟩
theorem deeds_any(w:World):Calls Tryz.prog 32 #[] w fun e w'=>e=.returned (.agg deedsC)∧Below w.heap.size w w':=by
 have hb:=(Below.refl w.heap.size w).alloc (Nat.le_refl _) (.cells deeds0 52)
 have bX:=Blk.new w 52 deeds0
 have hz:=zero_deeds
 have hcz:=cells_deeds
 go_enter Tryz.func32,Tryz.ntmps32
 go_wp2_with (first
  | (refine wpList_build rfl 52 _ rfl (.agg deedsC) (by kernel_rfl) ?_)
  | (refine wpList_store_row rfl 52 _ _ rfl w.heap.size deedsC rfl rfl 52 deeds0 bX size_deeds (by kernel_rfl) one_deeds ?_)
  | fail)
 refine bodyPost_ret (v:=.agg deedsC) (results_deeds (g:=w.heap.size) (t:=52) rfl rfl (setRow_heap _ w.heap.size deeds0 deedsC 52 (0,0) bX) Tryz.underlying52 rfl size_deeds) rfl ?_
 exact⟨rfl,below_row hb (Nat.le_refl _) _⟩
end Go.Proofs.YtekogckmgkodfaaGreatDoor.Dir
namespace Go.Proofs.YtekogckmgkodfaaGreatDoor.Dir
open Go.RowKit Mem Arena Kinds Path Cat Suite Mach
theorem step_build{P:Program}{ops:Array Oper}{o:Oper}{a:Act}{w:World}{K:Act→World→Prop}{Q:Exit→Act→World→Prop}{E:Prop}(hgd:o.guard=none)(t:TypeId)(parts:Array (Nat×Operand))(ho:o.op=.build t parts)(v:Value)
  (hr:(Instr.build t (parts.map fun x=>match x with | (i,x)=>(i,a.eval x))).run P w=.ok v w) (h:K (a.put o.dst v) w):if Region.wanted o (yielded ops a.tmps)=true then Oper.wp P o a w K Q else E:=by
 exact zDirG0
theorem step_box{P:Program}{ops:Array Oper}{o:Oper}{a:Act}{w w':World}{K:Act→World→Prop}{Q:Exit→Act→World→Prop}{E:Prop}(hgd:o.guard=none)(t:TypeId)(x:Operand)(ho:o.op=.box t x)(v:Value)
  (hr:(Instr.box t (a.eval x)).run P w=.ok v w') (h:K (a.put o.dst v) w'):if Region.wanted o (yielded ops a.tmps)=true then Oper.wp P o a w K Q else E:=by
 exact zDirG0
def dkOf(p:Prg)(F base g bb ab:Nat):DK:=⟨base,g,p,F,bb,p.xs.length,.slice (some ⟨ab,0,none⟩) p.vs.length p.vs.length⟩
structure BornD (p:Prg) (F:Nat) (w:World) (g bb ab:Nat) (W:World):Prop where
 below:Below w.heap.size w W
 lo:w.heap.size≤g∧w.heap.size≤bb∧w.heap.size≤ab
 ne:g≠bb∧g≠ab∧bb≠ab
 blk:Blk W g 54 (rcells (dkOf p F w.heap.size g bb ab) (.slice none 0 0) 0 0)
 bb:Blk W bb 3 (icells (List.replicate p.xs.length 0)).toArray
 ab:W.ownsRow w.heap.size 22 1 (.slice (some ⟨ab,0,none⟩) p.vs.length p.vs.length) p.vs.length (List.replicate p.vs.length (.slice none 0 0))
theorem born_of(p:Prg)(F:Nat){w c:World}{bb ab:Nat}(hB:Below w.heap.size w c)(hb:Blk c bb 3 (icells (List.replicate p.xs.length 0)).toArray)(hbl:w.heap.size≤bb)
  (ha:c.ownsRow w.heap.size 22 1 (.slice (some ⟨ab,0,none⟩) p.vs.length p.vs.length) p.vs.length (List.replicate p.vs.length (.slice none 0 0))) (hne:bb≠ab) :
  BornD p F w c.heap.size bb ab (c.alloc (.cells (rcells (dkOf p F w.heap.size c.heap.size bb ab) (.slice none 0 0) 0 0) 54)):=by
 have hal:=ha.lt ab rfl
 exact {
  below:=hB.alloc hB.size _
  lo:=⟨hB.size,hbl,hal.1⟩
  ne:=⟨by have:=hb.lt;omega,by omega,hne⟩
  blk:=Blk.new c _ _
  bb:=hb.alloc _
  ab:=ha.alloc _ }
structure MkD (K:DK) (κ:Nat→Nat) (Y:List ((Option Addr×Nat)×List Int)) (W:World):Prop where
 lab:DLab κ K (.slice none 0 0) Y W.heap.size
 body:Nodes W K.base K.p.B K.p.xs
 lx:K.p.xs.length≤1000000
 lv:K.p.vs.length≤1000000
 size:K.base≤W.heap.size
 blk:Blk W K.g 54 (rcells K (.slice none 0 0) 0 0)
 ar:W.ownsRow K.base 22 1 K.cv K.p.vs.length (tcells Y)
 yr:∀ (i:Nat) (y:(Option Addr×Nat)×List Int),Y[i]? = some y→W.ownsRow K.base 3 1 (.slice y.1.1 y.2.length y.1.2) y.2.length (icells y.2)
 br:∀ i n,scan 1 (K.p.xs.drop i)=some n→W.cell? ⟨K.bb,i,none⟩=some (.int .i64 ((i+n:Nat):Int))
section
variable {K:DK} {κ:Nat→Nat} {Y:List ((Option Addr×Nat)×List Int)} {W W':World} {p:Prg} {F:Nat} {w:World}
theorem MkD.move(h:MkD K κ Y W)(hs:W.heap.size≤W'.heap.size)(hb:∀ k,k<W.heap.size→κ k≠0∨k<K.base→W'.heap[k]? = W.heap[k]?):MkD K κ Y W' where
 lab:={ h.lab with lt:=fun k q=>⟨(h.lab.lt k q).1,Nat.lt_of_lt_of_le (h.lab.lt k q).2 hs⟩ }
 body:=h.body.keep fun k q=>hb k (Nat.lt_of_lt_of_le q h.size) (.inr q)
 lx:=h.lx
 lv:=h.lv
 size:=Nat.le_trans h.size hs
 blk:=(hb K.g (h.lab.lt K.g (by rw [h.lab.g];decide)).2 (.inl (by rw [h.lab.g];decide))).trans h.blk
 ar:=own_of_block h.ar fun k e=>by have:=h.lab.a k e;exact hb k (h.lab.lt k (by omega)).2 (.inl (by omega))
 yr:=fun i y q=>own_of_block (h.yr i y q) fun k e=>by have:=h.lab.y i y k q e;exact hb k (h.lab.lt k (by omega)).2 (.inl (by omega))
 br:=fun i n q=>by
  exact zDirG1
theorem MkD.below(h:MkD K κ Y W)(hb:Below W.heap.size W W'):MkD K κ Y W':=h.move hb.size fun k q _=>hb.block k q
theorem MkD.drew(h:MkD K κ Y W):MkD K κ Y W.drew:=h.move (Nat.le_refl _) fun _ _ _=>rfl
theorem MkD.cell(h:MkD K κ Y W)(i:Nat):W.cell? ⟨K.g,i,none⟩=(rcells K (.slice none 0 0) 0 0)[i]? := h.blk.cell i
theorem MkD.dm(h:MkD K κ Y W){s:St}(hY:Y.map (·.2)=dcells K.p.vs s)(h1:s.ev=[])(h2:s.steps=0):DM K κ (.slice none 0 0) Y s 0 W :=
 ⟨h.lab,h.body,h.lx,h.lv,h.size,by rw [h2];exact h.blk,h.ar,hY,h.yr,h.br,by rw [h1];exact World.ownsRow_nil _ _ _ _⟩
theorem MkD.put(h:MkD K κ Y W){ab ac i nb z:Nat}(hav:K.cv=.slice (some ⟨ab,0,none⟩) K.p.vs.length ac)(hi:i<K.p.vs.length)(hnb:κ nb=0)(hnB:K.base≤nb)(hlt:nb<W.heap.size)
  (hL:W.ownsRow K.base 3 1 (.slice (some ⟨nb,0,none⟩) z z) z (icells (List.replicate z 0))) (hold:Y[i]? = some ((none,0),[])) :
  ∃ κ',MkD K κ' (Y.set i ((some ⟨nb,0,none⟩,z),List.replicate z 0)) (W.setCell ⟨ab,i,none⟩ (.slice (some ⟨nb,0,none⟩) z z)):=by
 have hab:K.cv.ownBlock=some ab:=by rw [hav];rfl
 have ha3:=h.lab.a ab hab
 have hb:∀ k,κ k≠2→(W.setCell ⟨ab,i,none⟩ (.slice (some ⟨nb,0,none⟩) z z)).heap[k]? = W.heap[k]? := fun k q=>Below.heap_setCell _ _ _ _ fun z=>q (by
  obtain rfl:k=ab:=by first | exact z | exact z.symm
  exact ha3)
 have hsz:W.heap.size≤(W.setCell ⟨ab,i,none⟩ (.slice (some ⟨nb,0,none⟩) z z)).heap.size:=by simp
 have hYl:i<Y.length:=(List.getElem?_eq_some_iff.1 hold).1
 have V:=own_put (x:=.slice (some ⟨nb,0,none⟩) z z) h.ar hab (i:=i) (by rw [tcells_len];exact hYl)
 have hlr:(List.replicate z (0:Int)).length=z:=List.length_replicate
 have ht:(tcells Y).set i (.slice (some ⟨nb,0,none⟩) z z)=tcells (Y.set i ((some ⟨nb,0,none⟩,z),List.replicate z 0)):=by
  unfold tcells
  rw [List.map_set]
  simp only [hlr]
 rw [ht] at V
 have hre:∀ k,k≠nb→(if k=nb then 5+i else κ k)=κ k:=fun k q=>if_neg q
 have hat:∀ m y,(Y.set i ((some ⟨nb,0,none⟩,z),List.replicate z 0))[m]? = some y→(m=i∧y=((some ⟨nb,0,none⟩,z),List.replicate z 0))∨(m≠i∧Y[m]? = some y):=fun m y q=>by
  rw [List.getElem?_set] at q
  split at q
  ·next q1=>exact .inl ⟨q1.symm,(Option.some.inj q).symm⟩
  ·next q1=>exact .inr ⟨fun e=>q1 e.symm,q⟩
 have hnn:∀ k n,κ k=n→n≠0→k≠nb:=fun k n e q z=>q (by rw [← e,z];exact hnb)
 refine⟨fun k=>if k=nb then 5+i else κ k,{
  lab:={
   g:=by rw [hre _ (hnn _ _ h.lab.g (by decide))];exact h.lab.g
   a:=fun k e=>by rw [hre _ (hnn _ _ (h.lab.a k e) (by decide))];exact h.lab.a k e
   e:=fun k e=>by cases e
   b:=by rw [hre _ (hnn _ _ h.lab.b (by decide))];exact h.lab.b
   y:=fun m y k q e=>by
    rcases hat m y q with⟨rfl,rfl⟩ | ⟨-,q⟩
    ·obtain rfl:nb=k:=Option.some.inj e
     exact if_pos rfl
    ·have:=h.lab.y m y k q e
     rw [hre _ (hnn _ _ this (by omega))];exact this
   lt:=fun k q=>by
    by_cases e:k=nb
    ·subst e;exact⟨hnB,Nat.lt_of_lt_of_le hlt hsz⟩
    ·rw [hre _ e] at q
     exact⟨(h.lab.lt k q).1,Nat.lt_of_lt_of_le (h.lab.lt k q).2 hsz⟩ }
  body:=h.body.keep fun k q=>hb k (by have:=h.lab.nc q;omega)
  lx:=h.lx
  lv:=h.lv
  size:=Nat.le_trans h.size hsz
  blk:=(hb K.g (by rw [h.lab.g];decide)).trans h.blk
  ar:=V
  yr:=fun m y q=>by
   rcases hat m y q with⟨rfl,rfl⟩ | ⟨-,q⟩
   ·show World.ownsRow _ _ _ _ (.slice (some ⟨nb,0,none⟩) (List.replicate z (0:Int)).length z) (List.replicate z (0:Int)).length _
    rw [hlr]
    exact own_of_block hL fun k e=>hb k (by obtain rfl:nb=k:=Option.some.inj e;rw [hnb];decide)
   ·exact own_of_block (h.yr m y q) fun k e=>hb k (by have:=h.lab.y m y k q e;omega)
  br:=fun j n q=>by rw [← h.br j n q];exact World.cell?_of_block (hb K.bb (by rw [h.lab.b];decide)) }⟩
theorem BornD.marked{g bb ab:Nat}(h:BornD p F w g bb ab W)(hp:Nodes w w.heap.size p.B p.xs)(hlx:p.xs.length≤1000000)(hlv:p.vs.length≤1000000)(hnv:0<p.xs.length){L':List Int}(hM:MB g bb w.heap.size p p.xs.length L' W')(hk:Kept (· = bb) W W')(hm:Marked p.xs 0 (0+p.xs.length) (List.replicate p.xs.length 0) L') :
  MkD (dkOf p F w.heap.size g bb ab) (fun k=>if k=g then 1 else if k=ab then 2 else if k=bb then 4 else 0) (List.replicate p.vs.length ((none,0),[])) W':=by
 obtain⟨l1,l2,l3⟩:=h.lo
 obtain⟨n1,n2,n3⟩:=h.ne
 have hal:=(h.ab.lt ab rfl).2
 exact {
  lab:={
   g:=if_pos rfl
   a:=fun k e=>by
    obtain rfl:ab=k:=Option.some.inj e
    show(if ab=g then 1 else if ab=ab then 2 else if ab=bb then 4 else 0)=2
    rw [if_neg (fun z=>n2 z.symm),if_pos rfl]
   e:=fun k e=>by cases e
   b:=by
    show(if bb=g then 1 else if bb=ab then 2 else if bb=bb then 4 else 0)=4
    rw [if_neg (fun z=>n1 z.symm),if_neg n3,if_pos rfl]
   y:=fun i y k q e=>by
    rw [List.getElem?_replicate] at q
    split at q
    ·cases q;cases e
    ·cases q
   lt:=fun k q=>by
    show w.heap.size≤k∧k<W'.heap.size
    by_cases z1:k=g
    ·subst z1;exact⟨l1,hM.gl⟩
    rw [if_neg z1] at q
    by_cases z2:k=ab
    ·subst z2;exact⟨l3,Nat.lt_of_lt_of_le hal hk.size⟩
    rw [if_neg z2] at q
    by_cases z3:k=bb
    ·subst z3;exact⟨l2,hM.blk.lt⟩
    rw [if_neg z3] at q
    exact absurd rfl q }
  body:=hM.body
  lx:=hlx
  lv:=hlv
  size:=hM.bl
  blk:=h.blk.kept hk n1
  ar:=by
   have:=own_of_block h.ab (w':=W') fun k e=>by
    obtain rfl:ab=k:=Option.some.inj e
    exact hk.block ab hal (fun z=>n3 z.symm)
   show W'.ownsRow w.heap.size _ 1 (.slice (some ⟨ab,0,none⟩) p.vs.length p.vs.length) p.vs.length (tcells _)
   rw [show tcells (List.replicate p.vs.length (((none,0):Option Addr×Nat),([]:List Int)))=List.replicate p.vs.length (Value.slice none 0 0) by unfold tcells;rw [List.map_replicate];rfl]
   exact this
  yr:=fun i y q=>by
   rw [List.getElem?_replicate] at q
   split at q
   ·cases q;exact World.ownsRow_nil _ _ _ _
   ·cases q
  br:=fun i n q=>by
   have hi:i<p.xs.length:=by
    by_cases z:i<p.xs.length
    ·exact z
    ·rw [show(dkOf p F w.heap.size g bb ab).p.xs=p.xs from rfl,List.drop_eq_nil_of_le (by omega),show scan 1 ([]:List Nd)=none from scan_nil 0] at q;cases q
   have hc:=hm.2.1 i (Nat.zero_le _) (by omega) n q
   show W'.cell? ⟨bb,i,none⟩=_
   rw [hM.blk.cell]
   simp [icells,hc] }
end
end Go.Proofs.YtekogckmgkodfaaGreatDoor.Dir
namespace Go.Proofs.YtekogckmgkodfaaGreatDoor.Dir
open Go.RowKit Mem Arena Kinds Path Cat Suite Mach
attribute [local go_sem ↓] Go.wp_at_zero Go.wp_at_succ
theorem without_any(k:Int)(w:World):Calls Tryz.prog 36 #[.int .i64 k] w fun e w'=>e=.returned (.agg #[.int .i64 k,.int .i64 0])∧Below w.heap.size w w':=by
 have hb:=(Below.refl w.heap.size w).alloc (Nat.le_refl _) (.cells #[.int .i64 k,.int .i64 0] 83)
 obtain⟨r0,r1⟩:=(Blk.new w 83 #[.int .i64 k,.int .i64 0]).two
 go_enter Tryz.func36,Tryz.ntmps36
 go_wp2_with fail
 refine bodyPost_ret (v:=.agg #[.int .i64 k,.int .i64 0]) (by simp [results,Tryz.results36,go_sem,r0,r1]) rfl ?_
 exact⟨rfl,hb⟩
section
variable {K:DK} {κ:Nat→Nat} {evv:Value} {Y:List ((Option Addr×Nat)×List Int)} {s:St} {pos:Int} {W W':World}
theorem take_out(h:DM K κ evv Y s pos W)(h0:s.steps=K.F):Calls Tryz.prog 77 #[.pointer (some ⟨K.g,0,none⟩)] W fun e W'=>e=.panicked (ended 4 0)∧DM K κ evv Y s pos W'∧Went κ κ W W':=by
 have c2:W.cell? ⟨K.g,2,none⟩=some (.int .i64 s.steps):=h.cell 2
 have c7:W.cell? ⟨K.g,7,none⟩=some (.int .i64 K.F):=h.cell 7
 rw [← h0] at c7
 have HD:=Lib.hid h.drew
 have HW:=Lib.hid (Went.refl κ W).drew
 clear h h0
 generalize s.steps=n at c2 c7
 go_enter Tryz.func77,Tryz.ntmps77
 go_wp2_with fail
 go_region
 go_wp2_with (first | (go_at_call 36;(with_reducible refine(without_any 4 _).mono ?_);rintro e w1 ⟨rfl,hb1⟩) | fail)
 exact⟨rfl,rfl,HD.out.below hb1,HW.out.below hb1⟩
theorem take_on(h:DM K κ evv Y s pos W)(h0:s.steps≠K.F)(hF:s.steps≤10000):Calls Tryz.prog 77 #[.pointer (some ⟨K.g,0,none⟩)] W fun e W'=>e=.returned (.tuple #[])∧DM K κ evv Y s.tick pos W'∧Went κ κ W W':=by
 have c2:W.cell? ⟨K.g,2,none⟩=some (.int .i64 s.steps):=h.cell 2
 have c7:W.cell? ⟨K.g,7,none⟩=some (.int .i64 K.F):=h.cell 7
 have f2:=h.drew.blk.frozen 2
 have e3:((s.steps:Int)==(K.F:Int))=false:=by simp;omega
 have v1:IntKind.i64.wrap ((s.steps:Int)+1)=(s.steps:Int)+1:=IntWalk.i64_in _ (by omega)
 have HD:=Lib.hid h.drew.tick
 have HW:=Lib.hid ((Went.refl κ W).drew.setCell (a:=⟨K.g,2,none⟩) (.inl (by rw [h.lab.g];decide)) (.int .i64 ((s.steps:Int)+1)))
 clear h h0
 go_enter Tryz.func77,Tryz.ntmps77
 exact zDirG2
theorem pass_any{k n:Nat}(h:DM K κ evv Y s k W)(hn:scan 1 (K.p.xs.drop k)=some n):Calls Tryz.prog 130 #[.pointer (some ⟨K.g,0,none⟩)] W fun e W'=>e=.returned (.tuple #[])∧DM K κ evv Y s ((k+n:Nat):Int) W'∧Went κ κ W W':=by
 have c5:W.cell? ⟨K.g,5,none⟩=some (.int .i64 k):=h.cell 5
 have c6:W.cell? ⟨K.g,6,none⟩=some (.slice (some ⟨K.bb,0,none⟩) K.p.xs.length K.bc):=h.cell 6
 have cb:=h.br k n hn
 have f5:=h.drew.blk.frozen 5
 have hk:k<K.p.xs.length:=by
  by_cases q:k<K.p.xs.length
  ·exact q
  ·rw [List.drop_eq_nil_of_le (by omega)] at hn;rw [show scan 1 ([]:List Nd)=none from scan_nil 0] at hn;cases hn
 have i1:(k:Int)<(K.p.xs.length:Int):=by omega
 have i2:(0:Int)≤(k:Int):=by omega
 have HD:=Lib.hid (h.drew.goto ((k+n:Nat):Int))
 have HW:=Lib.hid ((Went.refl κ W).drew.setCell (a:=⟨K.g,5,none⟩) (.inl (by rw [h.lab.g];decide)) (.int .i64 ((k+n:Nat):Int)))
 clear h hn
 generalize ((k+n:Nat):Int)=q at *
 go_enter Tryz.func130,Tryz.ntmps130
 exact zDirG2
theorem place_out(h:DM K κ evv Y s pos W){n:Nat}(hn:n<K.p.vs.length)(h0:0<(dcell K.p.vs s n).length){i:Int}(hi:i<0∨((dcell K.p.vs s n).length:Int)≤i):Calls Tryz.prog 134 #[.pointer (some ⟨K.g,0,none⟩),.int .i64 n,.int .i64 i] W fun e W'=>e=.panicked (ended 2 0)∧DM K κ evv Y s pos W'∧Went κ κ W W':=by
 obtain⟨cb,cc,b,c,e1,y1,y2,y3,y4,y5⟩:=h.var hn h0
 have c8:W.cell? ⟨K.g,8,none⟩=some K.cv:=h.cell 8
 rw [e1] at c8
 have i1:(n:Int)<(K.p.vs.length:Int):=by omega
 have i2:(0:Int)≤(n:Int):=by omega
 have HD:=Lib.hid h
 have HW:=Lib.hid (Went.refl κ W)
 clear h y2 y3 y4 y5
 generalize (dcell K.p.vs s n).length=q at *
 rcases hi with hi | hi
 ·go_enter Tryz.func134,Tryz.ntmps134
  go_wp2_with (first | (go_at_call 36;(with_reducible refine(without_any 2 _).mono ?_);rintro e w1 ⟨rfl,hb1⟩) | fail)
  exact⟨rfl,rfl,HD.out.below hb1,HW.out.below hb1⟩
 ·have hi0:¬ i<0:=by omega
  go_enter Tryz.func134,Tryz.ntmps134
  go_wp2_with (first | (go_at_call 36;(with_reducible refine(without_any 2 _).mono ?_);rintro e w1 ⟨rfl,hb1⟩) | fail)
  exact⟨rfl,rfl,HD.out.below hb1,HW.out.below hb1⟩
def PlaceEnds(K:DK)(κ:Nat→Nat)(Y:List ((Option Addr×Nat)×List Int))(s:St)(n i:Nat)(W:World)(e:Ending)(W':World):Prop :=
 W'=W∧∃ b c,e=.returned (.pointer (some ⟨b,i,none⟩))∧Y[n]? = some ((some ⟨b,0,none⟩,c),dcell K.p.vs s n)∧(∀ (j:Nat) (x:Int),(dcell K.p.vs s n)[j]? = some x→W.cell? ⟨b,j,none⟩=some (.int .i64 x))∧(∀ j,W.frozen? ⟨b,j,none⟩=false)∧κ b=5+n
theorem place_in(h:DM K κ evv Y s pos W){n:Nat}(hn:n<K.p.vs.length){i:Nat}(hi:i<(dcell K.p.vs s n).length):Calls Tryz.prog 134 #[.pointer (some ⟨K.g,0,none⟩),.int .i64 n,.int .i64 i] W (PlaceEnds K κ Y s n i W):=by
 obtain⟨cb,cc,b,c,e1,y1,y2,y3,y4,y5⟩:=h.var hn (by omega)
 have c8:W.cell? ⟨K.g,8,none⟩=some K.cv:=h.cell 8
 rw [e1] at c8
 have i1:(n:Int)<(K.p.vs.length:Int):=by omega
 have i2:(0:Int)≤(n:Int):=by omega
 have HY:=Lib.hid (show PlaceEnds K κ Y s n i W (.returned (.pointer (some ⟨b,i,none⟩))) W from⟨rfl,b,c,rfl,y2,y3,y4,y5⟩)
 generalize hq:(dcell K.p.vs s n).length=q at y1 hi
 clear h y2 y3 y4 y5 hq
 have j1:(i:Int)<(q:Int):=by omega
 have j2:(0:Int)≤(i:Int):=by omega
 have j3:¬ (i:Int)<0:=by omega
 have j4:¬ (q:Int)≤(i:Int):=by omega
 go_enter Tryz.func134,Tryz.ntmps134
 go_wp2_with fail
 go_ret
 exact HY.out
theorem Went.new0{κ κ':Nat→Nat}{W W1 W':World}(hk:Went κ κ W W')(hs:W.heap.size≤W1.heap.size)(h:∀ k,κ' k≠0→κ k≠0∨W1.heap.size≤k):Went κ κ' W W':=⟨hk.kept,fun k q=>by
 rcases h k q with c | c
 ·exact .inl c
 ·exact .inr (Nat.le_trans hs c)⟩
theorem store_any(h:DM K κ evv Y s pos W)(he:s.ev.length<1000000){n j b c:Nat}{L:List Int}(hy:Y[n]? = some ((some ⟨b,0,none⟩,c),L))(hj:j<L.length)(i a x:Int){s':St}(hd:dcells K.p.vs s'=(dcells K.p.vs s).set n (L.set j x))(h3:s'.ev=s.ev++[(i,a,x)])(h4:s'.steps=s.steps) :
  Calls Tryz.prog 154 #[.pointer (some ⟨K.g,0,none⟩),.pointer (some ⟨b,j,none⟩),.agg #[.int .i64 i,.int .i64 a,.int .i64 x]] W fun e W'=>e=.returned (.int .i64 0)∧Came K κ s' pos W W':=by
 have hb1:=(Below.refl W.heap.size W).alloc (Nat.le_refl _) (.cells #[.int .i64 i,.int .i64 a,.int .i64 x] 95)
 have bX:=Blk.new W 95 #[.int .i64 i,.int .i64 a,.int .i64 x]
 obtain⟨x0,x1,x2⟩:=bX.three
 have hκb:κ b=5+n:=h.lab.y n _ b hy (by rfl)
 have hblt:=(h.lab.lt b (by omega)).2
 have hr:=(h.below hb1).yr n _ hy
 have fb:(W.alloc (.cells #[.int .i64 i,.int .i64 a,.int .i64 x] 95)).frozen? ⟨b,j,none⟩=false:=World.ownsRow.frozenAt hr j
 have cb:∃ v,(W.alloc (.cells #[.int .i64 i,.int .i64 a,.int .i64 x] 95)).cell? ⟨b,j,none⟩=some v:=by
  obtain⟨v,hv⟩:∃ v,L[j]? = some v:=⟨_,List.getElem?_eq_getElem hj⟩
  exact⟨_,own_read hr hv⟩
 obtain⟨v0,cb⟩:=cb
 have h2a:DM K κ evv (Y.set n ((some ⟨b,0,none⟩,c),L.set j x)) { s' with ev:=s.ev } pos (W.setCell ⟨b,j,none⟩ (.int .i64 x)) :=
  h.set_y hy (by rfl) hj x ((dcells_same rfl rfl).trans hd) rfl h4
 have hb2:=(Below.refl (W.setCell ⟨b,j,none⟩ (.int .i64 x)).heap.size (W.setCell ⟨b,j,none⟩ (.int .i64 x))).alloc (Nat.le_refl _) (.cells #[.int .i64 i,.int .i64 a,.int .i64 x] 95)
 have h2:=h2a.below hb2
 have hw2:=((Went.refl κ W).setCell (a:=⟨b,j,none⟩) (.inl (show κ b≠0 by omega)) (.int .i64 x)).below hb2
 have bX2:=Blk.new (W.setCell ⟨b,j,none⟩ (.int .i64 x)) 95 #[.int .i64 i,.int .i64 a,.int .i64 x]
 rw [show(W.setCell ⟨b,j,none⟩ (.int .i64 x)).heap.size=W.heap.size by simp] at bX2
 clear h2a hb2
 obtain⟨W2,hW2⟩:∃ W2,(W.setCell ⟨b,j,none⟩ (.int .i64 x)).alloc (.cells #[.int .i64 i,.int .i64 a,.int .i64 x] 95)=W2:=⟨_,rfl⟩
 rw [hW2] at h2 hw2 bX2
 have hsz2:W.heap.size<W2.heap.size:=bX2.lt
 have c3:W2.cell? ⟨K.g,3,none⟩=some evv:=h2.cell 3
 obtain⟨q0,q1,q2⟩:=bX2.three
 have hO:=h2.er
 have c3a:(W2.alloc (.cells #[.int .i64 i,.int .i64 a,.int .i64 x] 95)).cell? ⟨K.g,3,none⟩=some evv:=(h2.blk.alloc _).cell 3
 obtain⟨ig,hig,hz0,hz1,hz2⟩:=info_parts info_event
 have HWW:=Lib.hid hW2
 have H2:=Lib.hid (h2.below (((Below.refl W2.heap.size W2).alloc (Nat.le_refl _) (.cells #[.int .i64 i,.int .i64 a,.int .i64 x] 95)).drew))
 have HW2:=Lib.hid (hw2.below (((Below.refl W2.heap.size W2).alloc (Nat.le_refl _) (.cells #[.int .i64 i,.int .i64 a,.int .i64 x] 95)).drew))
 have HE:=Lib.hid (And.intro h3 h4)
 have hbs:=h2.size
 clear h hy hd h3 h4 hr h2 hw2 bX bX2 hb1 hW2
 go_enter Tryz.func154,Tryz.ntmps154
 go_wp2_with fail
 rw [HWW.out]
 go_region_law (refine step_append_lies _ (by rfl) _ _ _ (by rfl) K.base 95 ig _ 3 24 Tryz.underlying30 hig hz0 hz1 hz2 rfl (by omega) _ s.ev.length (ecells s.ev) (by rfl) ((hO.alloc _).drew) ⟨W2.heap.size,0,none⟩ 1 1 [.int .i64 i,.int .i64 a,.int .i64 x] (by rfl) (by rfl) (World.news_of_block (cs:=#[.int .i64 i,.int .i64 a,.int .i64 x]) (t:=95) (fr:=(0,0)) (heap_alloc_new W2 _)) (by simp [Value.oneCell']) (by omega) (by simp only [maxLen];omega) (by omega) (by simp;omega) (W2.heap.size+1) (by simp) ?_;intro gg cap4 w5 hown hgr hat hlt5;have bG:=H2.out.blk.grown hgr (fun z=>by have q:=H2.out.lab.e K.g z.symm;rw [H2.out.lab.g] at q;omega);have yf:=bG.frozen 3;have y3:w5.cell? ⟨K.g,3,none⟩=some evv:=bG.cell 3)
 all_goals
  go_wp2_with fail
  go_ret
  obtain⟨e1,e2⟩:=H2.out.event (e:=(i,a,x)) (evv':=.slice (some ⟨gg,0,none⟩) (s.ev.length+1) cap4) hgr hown (by
   rcases hat with z | z
   ·left;rw [z];rfl
   ·right;rw [z];simp [Value.ownBlock])
  refine⟨rfl,_,_,_,(e1.same (s':=s') rfl rfl HE.out.1 rfl),?_⟩
  have hk:=(HW2.out.grown hgr (fun k q=>by rw [H2.out.lab.e k q];decide)).setCell (a:=⟨K.g,3,none⟩) (.inl (by rw [H2.out.lab.g];decide)) (.slice (some ⟨gg,0,none⟩) (s.ev.length+1) cap4)
  exact Went.new0 hk (by simp;omega) e2
end
end Go.Proofs.YtekogckmgkodfaaGreatDoor.Dir
