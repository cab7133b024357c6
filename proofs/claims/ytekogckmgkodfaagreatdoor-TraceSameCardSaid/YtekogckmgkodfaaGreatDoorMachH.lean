/-
  A run's state, in memory: a struct, its variables, its arrays, its events, each in a block of its own.
  The reference of machine, walked: stop, an event stored, truth, two values.
  The reference of machine, walked: truth, and an operation on two values.
  The reference of machine, walked: a node is entered: over, out of fuel, nodes without kids.
  The reference of machine, walked: nodes with one kid whose value is turned.
  The reference of machine, walked: and, or, if, return.
-/
import Derived.Test.YtekogckmgkodfaaGreatDoorMachG
import Derived.Test.YtekogckmgkodfaaGreatDoorSuiteG
import Derived.Test.YtekogckmgkodfaaGreatDoorRunRow
import Derived.Test.YtekogckmgkodfaaGreatDoorKindsG
import Derived.Deep.CutBlock
import Derived.Deep.CutRange
import Derived.Deep.QuietTactic
set_option linter.unusedVariables false
set_option linter.unusedSimpArgs false
namespace Go.Proofs.YtekogckmgkodfaaGreatDoor.Mach
open Go.RowKit Mem Arena Kinds Path Cat Suite
theorem own_put{w:World}{base:Nat}{e:TypeId}{v:Value}{n:Nat}{xs:List Value}{g i:Nat}{x:Value}(h:w.ownsRow base e 1 v n xs)(hg:v.ownBlock=some g)(hi:i<xs.length):(w.setCell ⟨g,i,none⟩ x).ownsRow base e 1 v n (xs.set i x):=by
 refine⟨by rw [List.length_set];exact h.1,?_⟩
 rcases h.2 with⟨rfl,-⟩ | ⟨g',cap,cur,rfl,hb,hgg,hn,hm,hs,ht⟩
 ·cases hg
 ·obtain rfl:g'=g:=by
   unfold Value.ownBlock at hg
   exact Option.some.inj hg
  have hB:Blk w g' e cur:=hgg
  refine .inr ⟨g',cap,cur.setIfInBounds i x,rfl,hb,hB.set i x,hn,hm,by rw [Array.size_setIfInBounds];exact hs,?_⟩
  rw [Array.toList_setIfInBounds,List.take_set,ht]
theorem own_block{w:World}{base:Nat}{e:TypeId}{v:Value}{n m:Nat}{xs:List Value}(h:w.ownsRow base e m v n xs)(hn:0<n):∃ b cap,v=.slice (some ⟨b,0,none⟩) n cap∧v.ownBlock=some b:=by
 rcases h.2 with⟨-,h0⟩ | ⟨g',cap,cur,rfl,-⟩
 ·omega
 ·exact⟨g',cap,rfl,rfl⟩
structure Labels (κ:Nat→Nat) (g:Nat) (vv av evv:Value) (Y:List ((Option Addr×Nat)×List Int)) (base top:Nat):Prop where
 g:κ g=1
 v:∀ k,vv.ownBlock=some k→κ k=2
 a:∀ k,av.ownBlock=some k→κ k=3
 e:∀ k,evv.ownBlock=some k→κ k=4
 y:∀ (i:Nat) (y:(Option Addr×Nat)×List Int) (k:Nat),Y[i]? = some y→(Value.slice y.1.1 y.2.length y.1.2).ownBlock=some k→κ k=5+i
 lt:∀ k,κ k≠0→base≤k∧k<top
def stcells(p:Prg)(vv av evv:Value)(s:St):Array Value :=
 #[.int .i64 p.ps,.slice p.A p.vs.length p.c,.slice p.B p.xs.length p.e,vv,av,.int .i64 s.fuel,.int .i64 s.steps,evv,.int .i64 s.kind,.int .i64 s.value,.bool s.over]
structure SM (T:TypeId) (base g:Nat) (κ:Nat→Nat) (p:Prg) (vv av evv:Value) (Y:List ((Option Addr×Nat)×List Int)) (s:St) (W:World):Prop where
 lab:Labels κ g vv av evv Y base W.heap.size
 blk:Blk W g T (stcells p vv av evv s)
 vr:W.ownsRow base 3 1 vv s.vals.length (icells s.vals)
 ar:W.ownsRow base 22 1 av s.arrs.length (tcells Y)
 hY:Y.map (·.2)=s.arrs
 yr:∀ (i:Nat) (y:(Option Addr×Nat)×List Int),Y[i]? = some y→W.ownsRow base 3 1 (.slice y.1.1 y.2.length y.1.2) y.2.length (icells y.2)
 er:W.ownsRow base 95 3 evv s.ev.length (ecells s.ev)
section
variable {T:TypeId} {base g:Nat} {κ:Nat→Nat} {p:Prg} {vv av evv:Value} {Y:List ((Option Addr×Nat)×List Int)} {s:St} {W W':World}
theorem SM.move(h:SM T base g κ p vv av evv Y s W)(hs:W.heap.size≤W'.heap.size)(hb:∀ k,κ k≠0→W'.heap[k]? = W.heap[k]?):SM T base g κ p vv av evv Y s W' where
 lab:={ h.lab with lt:=fun k q=>⟨(h.lab.lt k q).1,Nat.lt_of_lt_of_le (h.lab.lt k q).2 hs⟩ }
 blk:=(hb g (by rw [h.lab.g];decide)).trans h.blk
 vr:=own_of_block h.vr fun k e=>hb k (by rw [h.lab.v k e];decide)
 ar:=own_of_block h.ar fun k e=>hb k (by rw [h.lab.a k e];decide)
 hY:=h.hY
 yr:=fun i y q=>own_of_block (h.yr i y q) fun k e=>hb k (by rw [h.lab.y i y k q e];omega)
 er:=own_of_block h.er fun k e=>hb k (by rw [h.lab.e k e];decide)
theorem SM.below(h:SM T base g κ p vv av evv Y s W)(hb:Below W.heap.size W W'):SM T base g κ p vv av evv Y s W' :=
 h.move hb.size fun k q=>hb.block k (h.lab.lt k q).2
theorem SM.grown{row:Option Nat}(h:SM T base g κ p vv av evv Y s W)(hg:W.grownBy W' row)(hr:∀ k,row=some k→κ k=0):SM T base g κ p vv av evv Y s W' :=
 h.move hg.size fun k q=>hg.block k (h.lab.lt k q).2 fun e=>q (hr k e.symm)
theorem SM.glt(h:SM T base g κ p vv av evv Y s W):base≤g∧g<W.heap.size:=h.lab.lt g (by rw [h.lab.g];decide)
theorem SM.cell(h:SM T base g κ p vv av evv Y s W)(i:Nat):W.cell? ⟨g,i,none⟩=(stcells p vv av evv s)[i]? := h.blk.cell i
theorem SM.set_g(h:SM T base g κ p vv av evv Y s W)(i:Nat)(v:Value){s':St}(hC:(stcells p vv av evv s).setIfInBounds i v=stcells p vv av evv s')(h1:s'.vals=s.vals)(h2:s'.arrs=s.arrs)(h3:s'.ev=s.ev):SM T base g κ p vv av evv Y s' (W.setCell ⟨g,i,none⟩ v):=by
 have hb:∀ k,κ k≠0→κ k≠1→(W.setCell ⟨g,i,none⟩ v).heap[k]? = W.heap[k]? := fun k _ q=>Below.heap_setCell _ _ _ _ fun z=>q (by
  obtain rfl:k=g:=by first | exact z | exact z.symm
  exact h.lab.g)
 have B:=h.blk.set i v
 rw [hC] at B
 have hsz:W.heap.size≤(W.setCell ⟨g,i,none⟩ v).heap.size:=by simp
 exact {
  lab:={ h.lab with lt:=fun k q=>⟨(h.lab.lt k q).1,Nat.lt_of_lt_of_le (h.lab.lt k q).2 hsz⟩ }
  blk:=B
  vr:=by rw [h1];exact own_of_block h.vr fun k e=>hb k (by rw [h.lab.v k e];decide) (by rw [h.lab.v k e];decide)
  ar:=by rw [h2];exact own_of_block h.ar fun k e=>hb k (by rw [h.lab.a k e];decide) (by rw [h.lab.a k e];decide)
  hY:=by rw [h2];exact h.hY
  yr:=fun i y q=>own_of_block (h.yr i y q) fun k e=>hb k (by rw [h.lab.y i y k q e];omega) (by rw [h.lab.y i y k q e];omega)
  er:=by rw [h3];exact own_of_block h.er fun k e=>hb k (by rw [h.lab.e k e];decide) (by rw [h.lab.e k e];decide) }
theorem SM.fuel(h:SM T base g κ p vv av evv Y s W){n:Int}{m:Nat}(e:n=m):SM T base g κ p vv av evv Y { s with fuel:=m } (W.setCell ⟨g,5,none⟩ (.int .i64 n)):=by
 subst e;exact h.set_g 5 _ rfl rfl rfl rfl
theorem SM.steps(h:SM T base g κ p vv av evv Y s W){n:Int}{m:Nat}(e:n=m):SM T base g κ p vv av evv Y { s with steps:=m } (W.setCell ⟨g,6,none⟩ (.int .i64 n)):=by
 subst e;exact h.set_g 6 _ rfl rfl rfl rfl
theorem SM.kind(h:SM T base g κ p vv av evv Y s W)(n:Int):SM T base g κ p vv av evv Y { s with kind:=n } (W.setCell ⟨g,8,none⟩ (.int .i64 n)):=h.set_g 8 _ rfl rfl rfl rfl
theorem SM.value(h:SM T base g κ p vv av evv Y s W)(n:Int):SM T base g κ p vv av evv Y { s with value:=n } (W.setCell ⟨g,9,none⟩ (.int .i64 n)):=h.set_g 9 _ rfl rfl rfl rfl
theorem SM.over(h:SM T base g κ p vv av evv Y s W)(b:Bool):SM T base g κ p vv av evv Y { s with over:=b } (W.setCell ⟨g,10,none⟩ (.bool b)):=h.set_g 10 _ rfl rfl rfl rfl
theorem icells_set(l:List Int)(i:Nat)(x:Int):(icells l).set i (.int .i64 x)=icells (l.set i x):=by unfold icells;rw [List.map_set]
theorem SM.set_v(h:SM T base g κ p vv av evv Y s W){b i:Nat}(hv:vv.ownBlock=some b)(hi:i<s.vals.length)(x:Int):SM T base g κ p vv av evv Y { s with vals:=s.vals.set i x } (W.setCell ⟨b,i,none⟩ (.int .i64 x)):=by
 have hb:∀ k,κ k≠0→κ k≠2→(W.setCell ⟨b,i,none⟩ (.int .i64 x)).heap[k]? = W.heap[k]? := fun k _ q=>Below.heap_setCell _ _ _ _ fun z=>q (by
  obtain rfl:k=b:=by first | exact z | exact z.symm
  exact h.lab.v _ hv)
 have hsz:W.heap.size≤(W.setCell ⟨b,i,none⟩ (.int .i64 x)).heap.size:=by simp
 have V:=own_put (x:=.int .i64 x) h.vr hv (by rw [icells_length];exact hi)
 rw [icells_set] at V
 exact {
  lab:={ h.lab with lt:=fun k q=>⟨(h.lab.lt k q).1,Nat.lt_of_lt_of_le (h.lab.lt k q).2 hsz⟩ }
  blk:=(hb g (by rw [h.lab.g];decide) (by rw [h.lab.g];decide)).trans h.blk
  vr:=by show World.ownsRow _ _ _ _ _ (s.vals.set i x).length _;rw [List.length_set];exact V
  ar:=own_of_block h.ar fun k e=>hb k (by rw [h.lab.a k e];decide) (by rw [h.lab.a k e];decide)
  hY:=h.hY
  yr:=fun i y q=>own_of_block (h.yr i y q) fun k e=>hb k (by rw [h.lab.y i y k q e];omega) (by rw [h.lab.y i y k q e];omega)
  er:=own_of_block h.er fun k e=>hb k (by rw [h.lab.e k e];decide) (by rw [h.lab.e k e];decide) }
theorem SM.set_a(h:SM T base g κ p vv av evv Y s W){b i j:Nat}{y:(Option Addr×Nat)×List Int}(hy:Y[i]? = some y)(hv:(Value.slice y.1.1 y.2.length y.1.2).ownBlock=some b)(hj:j<y.2.length)(x:Int):SM T base g κ p vv av evv (Y.set i (y.1,y.2.set j x)) { s with arrs:=s.arrs.set i (y.2.set j x) } (W.setCell ⟨b,j,none⟩ (.int .i64 x)):=by
 have hb:∀ k,κ k≠0→κ k≠5+i→(W.setCell ⟨b,j,none⟩ (.int .i64 x)).heap[k]? = W.heap[k]? := fun k _ q=>Below.heap_setCell _ _ _ _ fun z=>q (by
  obtain rfl:k=b:=by first | exact z | exact z.symm
  exact h.lab.y i y _ hy hv)
 have hsz:W.heap.size≤(W.setCell ⟨b,j,none⟩ (.int .i64 x)).heap.size:=by simp
 have V:=own_put (x:=.int .i64 x) (h.yr i y hy) hv (by rw [icells_length];exact hj)
 rw [icells_set] at V
 have hi:i<Y.length:=(List.getElem?_eq_some_iff.1 hy).1
 have ht:tcells (Y.set i (y.1,y.2.set j x))=tcells Y:=by
  unfold tcells
  rw [List.map_set]
  apply List.ext_getElem?
  intro m
  rw [List.getElem?_set]
  split
  ·next q=>subst q;rw [if_pos (by rw [List.length_map];exact hi),List.getElem?_map,hy];simp
  ·rfl
 have hat:∀ m z,(Y.set i (y.1,y.2.set j x))[m]? = some z→(m=i∧z=(y.1,y.2.set j x))∨(m≠i∧Y[m]? = some z):=fun m z q=>by
  rw [List.getElem?_set] at q
  split at q
  ·next q1=>exact .inl ⟨q1.symm,(Option.some.inj q).symm⟩
  ·next q1=>exact .inr ⟨fun e=>q1 e.symm,q⟩
 exact {
  lab:={ h.lab with
   y:=fun m z k q e=>by
    rcases hat m z q with⟨rfl,rfl⟩ | ⟨-,q⟩
    ·exact h.lab.y m y k hy (by rw [← e];cases y.1.1<;>rfl)
    ·exact h.lab.y m z k q e
   lt:=fun k q=>⟨(h.lab.lt k q).1,Nat.lt_of_lt_of_le (h.lab.lt k q).2 hsz⟩ }
  blk:=(hb g (by rw [h.lab.g];decide) (by rw [h.lab.g];omega)).trans h.blk
  vr:=own_of_block h.vr fun k e=>hb k (by rw [h.lab.v k e];decide) (by rw [h.lab.v k e];omega)
  ar:=by
   rw [ht]
   show World.ownsRow _ _ _ _ _ (s.arrs.set i _).length _
   rw [List.length_set]
   exact own_of_block h.ar fun k e=>hb k (by rw [h.lab.a k e];decide) (by rw [h.lab.a k e];omega)
  hY:=by rw [List.map_set,h.hY]
  yr:=fun m z q=>by
   rcases hat m z q with⟨rfl,rfl⟩ | ⟨hne,q⟩
   ·show World.ownsRow _ _ _ _ (.slice y.1.1 (y.2.set j x).length y.1.2) (y.2.set j x).length _
    rw [List.length_set];exact V
   ·exact own_of_block (h.yr m z q) fun k e=>hb k (by rw [h.lab.y m z k q e];omega) (by rw [h.lab.y m z k q e];omega)
  er:=own_of_block h.er fun k e=>hb k (by rw [h.lab.e k e];decide) (by rw [h.lab.e k e];omega) }
def relab(κ:Nat→Nat)(evv':Value)(k:Nat):Nat:=if evv'.ownBlock=some k then 4 else if κ k=4 then 0 else κ k
theorem SM.event(h:SM T base g κ p vv av evv Y s W){evv':Value}{e:Int×Int×Int}(hg:W.grownBy W' evv.ownBlock)(hO:W'.ownsRow base 95 3 evv' (s.ev.length+1) (ecells s.ev++ecell e))(hat:evv'.ownBlock=evv.ownBlock∨evv'.ownBlock=some W.heap.size) :
    SM T base g (relab κ evv') p vv av evv' Y { s with ev:=s.ev++[e] } (W'.setCell ⟨g,7,none⟩ evv')∧∀ k,relab κ evv' k≠0→κ k≠0∨W.heap.size≤k:=by
  have hnew:∀ k,evv'.ownBlock=some k→κ k=4∨(k=W.heap.size∧κ k=0):=fun k q=>by
    rcases hat with z | z
    · exact .inl (h.lab.e k (z▸q))
    · obtain rfl : W.heap.size = k := Option.some.inj (z.symm.trans q)
      refine .inr ⟨rfl,?_⟩
      by_cases c:κ W.heap.size=0
      · exact c
      · have:=(h.lab.lt _ c).2;omega
  have hre:∀ k,κ k≠0→κ k≠4→relab κ evv' k=κ k:=fun k q1 q2=>by
    unfold relab
    rw [if_neg (fun z=>by rcases hnew k z with c | ⟨-,c⟩<;>omega),if_neg q2]
  have hW:∀ k,κ k≠0→κ k≠4→W'.heap[k]? = W.heap[k]? := fun k q1 q2=>hg.block k (h.lab.lt k q1).2 fun z=>q2 (h.lab.e k z.symm)
  have hb:∀ k,k≠g→(W'.setCell ⟨g,7,none⟩ evv').heap[k]? = W'.heap[k]? := fun k q=>Below.heap_setCell _ _ _ _ fun z=>q (by first | exact z | exact z.symm)
  have hng:∀ k,κ k≠1→k≠g:=fun k q z=>q (by rw [z];exact h.lab.g)
  have hall:∀ k,κ k≠0→κ k≠1→κ k≠4→(W'.setCell ⟨g,7,none⟩ evv').heap[k]? = W.heap[k]? := fun k q1 q2 q3=>(hb k (hng k q2)).trans (hW k q1 q3)
  have hsz:W.heap.size≤(W'.setCell ⟨g,7,none⟩ evv').heap.size:=by have:=hg.size;simpa using this
  have hB:Blk W' g T (stcells p vv av evv s):=(hW g (by rw [h.lab.g];decide) (by rw [h.lab.g];decide)).trans h.blk
  refine⟨{
    lab:={
      g:=by rw [hre g (by rw [h.lab.g];decide) (by rw [h.lab.g];decide)];exact h.lab.g
      v:=fun k e=>by have:=h.lab.v k e;rw [hre k (by omega) (by omega)];exact this
      a:=fun k e=>by have:=h.lab.a k e;rw [hre k (by omega) (by omega)];exact this
      e:=fun k e=>by unfold relab;rw [if_pos e]
      y:=fun i y k q e=>by have:=h.lab.y i y k q e;rw [hre k (by omega) (by omega)];exact this
      lt:=fun k q=>by
        unfold relab at q
        split at q
        · next z =>
          have:=hO.lt k z
          exact⟨this.1,by simpa using this.2⟩
        · split at q
          · exact absurd rfl q
          · exact⟨(h.lab.lt k q).1,Nat.lt_of_lt_of_le (h.lab.lt k q).2 hsz⟩ }
    blk:=hB.set 7 evv'
    vr:=own_of_block h.vr fun k e=>by have:=h.lab.v k e;exact hall k (by omega) (by omega) (by omega)
    ar:=own_of_block h.ar fun k e=>by have:=h.lab.a k e;exact hall k (by omega) (by omega) (by omega)
    hY:=h.hY
    yr:=fun i y q=>own_of_block (h.yr i y q) fun k e=>by have:=h.lab.y i y k q e;exact hall k (by omega) (by omega) (by omega)
    er:=by
      show World.ownsRow _ _ _ _ _ (s.ev++[e]).length (ecells (s.ev++[e]))
      rw [List.length_append,List.length_singleton,ecells_snoc]
      exact own_of_block hO fun k e=>hb k (fun z=>by
        have a:=h.lab.g
        rw [← z] at a
        rcases hnew k e with c | ⟨-,c⟩<;>omega) },?_⟩
  intro k q
  unfold relab at q
  split at q
  · next z => rcases hnew k z with c | ⟨c, -⟩
              · exact .inl (by omega)
              · exact .inr (by omega)
  · split at q
    · exact absurd rfl q
    · exact .inl q
structure Went (κ κ':Nat→Nat) (W W':World):Prop where
 kept:Kept (fun k=>κ k≠0) W W'
 new:∀ k,κ' k≠0→κ k≠0∨W.heap.size≤k
theorem Went.refl(κ:Nat→Nat)(W:World):Went κ κ W W:=⟨Kept.refl _ _,fun k q=>.inl q⟩
theorem Went.trans{κ κ' κ'':Nat→Nat}{W W' W'':World}(h:Went κ κ' W W')(k:Went κ' κ'' W' W''):Went κ κ'' W W'' :=
 ⟨h.kept.then k.kept h.new,fun i q=>by
  rcases k.new i q with c | c
  ·exact h.new i c
  ·exact .inr (Nat.le_trans h.kept.size c)⟩
theorem Went.below{κ κ':Nat→Nat}{W W' W'':World}(h:Went κ κ' W W')(hb:Below W'.heap.size W' W''):Went κ κ' W W'':=⟨h.kept.below hb,h.new⟩
end
end Go.Proofs.YtekogckmgkodfaaGreatDoor.Mach
namespace Go.Proofs.YtekogckmgkodfaaGreatDoor.Mach
open Go.RowKit Mem Arena Kinds Path Cat Suite
attribute [local go_sem ↓] Go.wp_at_zero Go.wp_at_succ
section
variable {T:TypeId} {base g:Nat} {κ:Nat→Nat} {p:Prg} {vv av evv:Value} {Y:List ((Option Addr×Nat)×List Int)} {s:St} {W W':World}
theorem Went.setCell{κ':Nat→Nat}(h:Went κ κ' W W'){a:Addr}(ha:κ a.block≠0∨W.heap.size≤a.block)(v:Value):Went κ κ' W (W'.setCell a v):=⟨h.kept.setCell ha v,h.new⟩
theorem Went.grown{κ':Nat→Nat}{W'':World}{row:Option Nat}(h:Went κ κ' W W')(hg:W'.grownBy W'' row)(hr:∀ k,row=some k→κ' k≠0):Went κ κ' W W'':=⟨h.kept.grown hg fun k q=>h.new k (hr k q),h.new⟩
theorem info_event:(Tryz.prog.info? 95).map (fun i=>(i.zero,i.size,i.bytes))=some (some (.agg #[.int .i64 0,.int .i64 0,.int .i64 0]),3,24):=by kernel_rfl
theorem append_event{w:World}{ops:Array Oper}{rest:List Oper}{o:Oper}{a:Act}{Q:Exit→Act→World→Prop}(hgd:o.guard=none)(s x:Operand)
  (ho:o.op=.call { callee:=.builtin .append,args:=#[s,x],argTypes:=#[30,30] })
  (base:Nat) (hbase:base≤w.heap.size) (v:Value) (L:List (Int×Int×Int)) (hs:a.eval s=v) (hown:w.ownsRow base 95 3 v L.length (ecells L))
  (g:Nat) (e:Int×Int×Int) (hx:a.eval x=.slice (some ⟨g,0,none⟩) 1 1) (hb:Blk w g 95 #[.int .i64 e.1,.int .i64 e.2.1,.int .i64 e.2.2]) (hlen:L.length+1≤100000000)
  (h:∀ v' w',w'.ownsRow base 95 3 v' (L.length+1) (ecells L++ecell e)→w.grownBy w' v.ownBlock→(v'.ownBlock=v.ownBlock∨v'.ownBlock=some w.heap.size)→wpList Tryz.prog ops Q rest (a.put o.dst v') w') :
  wpList Tryz.prog ops Q (o::rest) a w:=by
 obtain⟨ig,hig,hz0,hz1,hz2⟩:=info_parts info_event
 refine wpList_append_own_at _ hgd s x 30 ho base 95 ig _ 3 24 Tryz.underlying30 hig hz0 hz1 hz2 rfl (by decide) v L.length (ecells L) hs hown ⟨g,0,none⟩ 1 1 (ecell e) hx rfl (World.news_of_block (cs:=#[.int .i64 e.1,.int .i64 e.2.1,.int .i64 e.2.2]) hb) ?_ (by simp only [maxLen];omega) (by omega) hbase ?_
 ·intro u hu
  simp only [ecell,List.mem_cons,List.not_mem_nil,or_false] at hu
  rcases hu with rfl | rfl | rfl<;>rfl
 ·intro v' w' hown' hg _ hat
  exact h v' w' hown' hg hat
end
def NEnds(T:TypeId)(base g:Nat)(κ:Nat→Nat)(p:Prg)(vv av:Value)(r:St×Int)(W:World)(e:Ending)(W':World):Prop :=
 e=.returned (.int .i64 r.2)∧∃ κ' evv' Y',SM T base g κ' p vv av evv' Y' r.1 W'∧Went κ κ' W W'
section
variable {T:TypeId} {base g:Nat} {κ:Nat→Nat} {p:Prg} {vv av evv:Value} {Y:List ((Option Addr×Nat)×List Int)} {s:St} {W W':World}
theorem SM.here(h:SM T base g κ p vv av evv Y s W){v:Int}{e:Ending}(he:e=.returned (.int .i64 v)):NEnds T base g κ p vv av (s,v) W e W:=⟨he,_,_,_,h,Went.refl _ _⟩
end
structure EIn (base:Nat) (p:Prg) (W:World):Prop where
 body:Nodes W base p.B p.xs
 lx:p.xs.length≤1000000
 size:base≤W.heap.size
theorem nodes_wide{w:World}{B B':Nat}{A:Option Addr}{xs:List Nd}(h:Nodes w B A xs)(hB:B≤B'):Nodes w B' A xs:=fun i x hx=>by
 obtain⟨ad,h0,h1,h2,h3⟩:=h i x hx
 exact⟨ad,h0,by omega,h2,h3⟩
theorem own_read{w:World}{base b n cap m:Nat}{l:List Int}{x:Int}(h:w.ownsRow base 3 1 (.slice (some ⟨b,0,none⟩) n cap) l.length (icells l))(hm:l[m]? = some x):w.cell? ⟨b,m,none⟩=some (.int .i64 x):=by
 obtain⟨A,c,e,hI,-⟩:=own_ints h
 cases e
 obtain⟨ad,e,-,hc⟩:=hI m x hm
 cases e
 rw [show(⟨b,m,none⟩:Addr)=Addr.add ⟨b,0,none⟩ m by unfold Addr.add;split<;>simp_all]
 exact hc
section
variable {T:TypeId} {base g:Nat} {κ κ':Nat→Nat} {p:Prg} {vv av evv:Value} {Y:List ((Option Addr×Nat)×List Int)} {s:St} {W W':World}
theorem SM.drew(h:SM T base g κ p vv av evv Y s W):SM T base g κ p vv av evv Y s W.drew:=h.move (Nat.le_refl _) fun _ _=>rfl
theorem Went.drew(h:Went κ κ' W W'):Went κ κ' W W'.drew:=⟨h.kept.drew,h.new⟩
theorem EIn.went(h:EIn base p W)(hS:SM T base g κ p vv av evv Y s W)(hw:Went κ κ' W W'):EIn base p W' :=
 ⟨h.body.keep fun k q=>hw.kept.block k (by have:=h.size;omega) fun z=>by have:=(hS.lab.lt k z).1;omega,h.lx,by have:=h.size;have:=hw.kept.size;omega⟩
end
section
variable {T:TypeId} {base g:Nat} {κ κ':Nat→Nat} {p:Prg} {vv av evv:Value} {Y:List ((Option Addr×Nat)×List Int)} {s:St} {W W':World}
theorem SM.none(h:SM T base g κ p vv av evv Y s W){k:Nat}(hk:W.heap.size≤k):¬ κ k≠0:=fun z=>by have:=(h.lab.lt k z).2;omega
end
section
variable {T:TypeId} {base g:Nat} {κ κ':Nat→Nat} {p:Prg} {vv av evv:Value} {Y:List ((Option Addr×Nat)×List Int)} {s:St} {W W':World}
end
end Go.Proofs.YtekogckmgkodfaaGreatDoor.Mach
