/-
  Package machine, walked: a run as it is made.
  Package machine, walked: a run is made.
  Package machine, walked: a run, turn by turn, till it is over.
  Package machine, walked: Run.
-/
import Derived.Test.YtekogckmgkodfaaGreatDoorMachPJ
import Derived.Laws.MakeOwn
import Derived.Laws.CopyOwn
import Derived.Deep.CutBlock
import Derived.Deep.CutRange
import Derived.Test.YtekogckmgkodfaaGreatDoorKindsP
import Derived.Test.YtekogckmgkodfaaGreatDoorMachPChk
import Derived.Test.YtekogckmgkodfaaGreatDoorMachK
set_option linter.unusedVariables false
set_option maxRecDepth 100000
set_option maxHeartbeats 8000000
set_option linter.unusedSimpArgs false
namespace Go.Proofs.YtekogckmgkodfaaGreatDoor
theorem zMachPK0{P:Prop}(h:P:=by
  have HB:=Lib.hid (And.intro hg hborn)
  clear hg hborn hE4 hV4 hA4 hM4
  refine OrdU.one 15 (h:=fun K' hK=>?_)
  go_simp
  refine OrdU.bk hK (h:=?_)
  clear hK K'
  refine OrdU.one 16 (h:=fun K' hK=>?_)
  go_simp
  refine OrdU.bk hK (h:=?_)
  clear hK K'
  refine OrdU.one 17 (h:=fun K' hK=>?_)
  go_simp
  refine OrdU.bk hK (h:=?_)
  clear hK K'
  refine OrdU.wpAnyU_done (by kernel_rfl) ?_ _
  go_wp2_with fail
  go_meet
  exact⟨K,κ,by rw [HB.out.1],HB.out.2⟩):P:=h
theorem zMachPK1{P:Prop}(h:P:=by
  unfold ActV at h ⊢
  rcases h with h | h | h | h | h | h | h | h | h | ⟨h1,b,h2,h3⟩ | ⟨b,q,h1,h2,h3⟩ | ⟨b,c,q,h1,h2,h3,h4⟩ | ⟨b,c,q,h1,h2,h3,h4⟩
  ·exact .inl h
  ·exact .inr (.inl h)
  ·exact .inr (.inr (.inl h))
  ·exact .inr (.inr (.inr (.inl h)))
  ·exact .inr (.inr (.inr (.inr (.inl h))))
  ·exact .inr (.inr (.inr (.inr (.inr (.inl h)))))
  ·exact .inr (.inr (.inr (.inr (.inr (.inr (.inl h))))))
  ·exact .inr (.inr (.inr (.inr (.inr (.inr (.inr (.inl h)))))))
  ·exact .inr (.inr (.inr (.inr (.inr (.inr (.inr (.inr (.inl h))))))))
  ·exact .inr (.inr (.inr (.inr (.inr (.inr (.inr (.inr (.inr (.inl ⟨h1,b,h2,hb h3⟩)))))))))
  ·exact .inr (.inr (.inr (.inr (.inr (.inr (.inr (.inr (.inr (.inr (.inl ⟨b,q,h1,h2,hb h3⟩))))))))))
  ·exact .inr (.inr (.inr (.inr (.inr (.inr (.inr (.inr (.inr (.inr (.inr (.inl ⟨b,c,q,h1,h2,hb h3,hb h4⟩)))))))))))
  ·exact .inr (.inr (.inr (.inr (.inr (.inr (.inr (.inr (.inr (.inr (.inr (.inr ⟨b,c,q,h1,h2,hb h3,hb h4⟩)))))))))))):P:=h
end Go.Proofs.YtekogckmgkodfaaGreatDoor
namespace Go.Proofs.YtekogckmgkodfaaGreatDoor.Mach
open Go.RowKit Mem Arena Kinds Path Cat Suite
attribute [local go_sem ↓] Go.wp_at_zero Go.wp_at_succ
theorem ActV.keep{W W':World}{C:Nat→Prop}{t:Int}{v:Value}(h:ActV W C t v)(hk:∀ k,C k→k<W.heap.size→W'.heap[k]? = W.heap[k]?):ActV W' C t v:=by
 have hb:∀ {b:Nat} {ty:TypeId} {x:Value},BoxIn W C b ty x→BoxIn W' C b ty x:=fun q=>⟨(hk _ q.2 q.1.lt).trans q.1,q.2⟩
 exact zMachPK1
theorem ActV.to{W:World}{C C':Nat→Prop}{t:Int}{v:Value}(h:ActV W C t v)(hC:∀ k,C k→C' k):ActV W C' t v:=by
 have hb:∀ {b:Nat} {ty:TypeId} {x:Value},BoxIn W C b ty x→BoxIn W C' b ty x:=fun q=>⟨q.1,hC _ q.2⟩
 exact zMachPK1
def bare0(n F:Nat):St:=⟨List.replicate n 0,List.replicate n [],F,0,[],0,0,false⟩
def bareY(n:Nat):List ((Option Addr×Nat)×List Int):=List.replicate n ((none,0),[])
structure Born (p:Prg) (F:Nat) (w:World) (K:PK) (κ:Nat→Nat) (W:World):Prop where
 pm:PM K κ (.slice none 0 0) (.slice none 0 0) (bareY p.vs.length) (bare0 p.vs.length F) [] W
 below:Below w.heap.size w W
 kb:K.base=w.heap.size
 kp:K.p=p
 kf:K.F=F
 kv:∃ vb,K.vv=.slice (some ⟨vb,0,none⟩) p.vs.length p.vs.length
 ka:∃ ab,K.av=.slice (some ⟨ab,0,none⟩) p.vs.length p.vs.length
theorem born_of(p:Prg)(F:Nat){w c:World}{eb mb mt vb ab:Nat}{v:Nat→Value}(hp:p.Ok w)(hB:Below w.heap.size w c)
  (hends:∀ i,IsNode p.xs i→c.cell? ⟨eb,i,none⟩=some (.int .i64 (behind p.xs i)))
  (hmap:c.ownsMap Tryz.prog 3 itselfA mb 26 (tableA (laid v))) (hacts:∀ t:Int,1≤t→t≤26→ActV c (fun k=>mb<k∧k<mt) t (laid v t))
  (hv:c.ownsRow w.heap.size 3 1 (.slice (some ⟨vb,0,none⟩) p.vs.length p.vs.length) p.vs.length (icells (List.replicate p.vs.length 0)))
  (ha:c.ownsRow w.heap.size 22 1 (.slice (some ⟨ab,0,none⟩) p.vs.length p.vs.length) p.vs.length (List.replicate p.vs.length (.slice none 0 0)))
  (hne:vb≠ab∧vb≠eb∧ab≠eb∧(vb<mb∨mt≤vb)∧(ab<mb∨mt≤ab)∧mb<mt∧mt≤c.heap.size∧eb<c.heap.size∧w.heap.size≤eb∧w.heap.size≤mb) :
  ∃ K κ,K.g=c.heap.size∧Born p F w K κ (c.alloc (.cells #[.int .i64 0,.int .i64 0,.int .i64 0,.slice none 0 0,.slice p.B p.xs.length p.e,.slice (some ⟨eb,0,none⟩) p.xs.length p.xs.length,.int .i64 (F:Nat),.slice (some ⟨vb,0,none⟩) p.vs.length p.vs.length,.slice (some ⟨ab,0,none⟩) p.vs.length p.vs.length,.map (some mb),.slice none 0 0] 47)):=by
 obtain⟨n1,n2,n3,n4,n5,n6,n7,n8,n9,n10⟩:=hne
 generalize hobj:(Obj.cells #[.int .i64 0,.int .i64 0,.int .i64 0,.slice none 0 0,.slice p.B p.xs.length p.e,.slice (some ⟨eb,0,none⟩) p.xs.length p.xs.length,.int .i64 (F:Nat),.slice (some ⟨vb,0,none⟩) p.vs.length p.vs.length,.slice (some ⟨ab,0,none⟩) p.vs.length p.vs.length,.map (some mb),.slice none 0 0] 47)=ob
 have hbA:Below c.heap.size c (c.alloc ob):=(Below.refl _ _).alloc (Nat.le_refl _) ob
 have hlv:=(hv.lt _ rfl)
 have hla:=(ha.lt _ rfl)
 have hsz:(c.alloc ob).heap.size=c.heap.size+1:=World.size_alloc _ _
 have bG:Blk (c.alloc ob) c.heap.size 47 #[.int .i64 0,.int .i64 0,.int .i64 0,.slice none 0 0,.slice p.B p.xs.length p.e,.slice (some ⟨eb,0,none⟩) p.xs.length p.xs.length,.int .i64 (F:Nat),.slice (some ⟨vb,0,none⟩) p.vs.length p.vs.length,.slice (some ⟨ab,0,none⟩) p.vs.length p.vs.length,.map (some mb),.slice none 0 0]:=by
  rw [← hobj];exact Blk.new c _ _
 have hB2:Below w.heap.size w (c.alloc ob):=hB.trans (hbA.mono hB.size)
 have hbs:=hB.size
 refine⟨⟨w.heap.size,c.heap.size,p,F,eb,p.xs.length,mb,.slice (some ⟨vb,0,none⟩) p.vs.length p.vs.length,.slice (some ⟨ab,0,none⟩) p.vs.length p.vs.length,laid v,fun k=>(mb≤k∧k<mt)∨k=eb,c.alloc ob⟩,
  fun k=>if k=c.heap.size then 1 else if k=vb then 2 else if k=ab then 3 else if(mb≤k∧k<mt)∨k=eb then 6 else 0,rfl,?_,hB2,rfl,rfl,rfl,⟨vb,rfl⟩,⟨ab,rfl⟩⟩
 have hlvb:vb<c.heap.size:=hlv.2
 have hlab:ab<c.heap.size:=hla.2
 have hlvb2:w.heap.size≤vb:=hlv.1
 have hlab2:w.heap.size≤ab:=hla.1
 exact {
  lab:={
   g:=if_pos rfl
   v:=fun k e=>by
    obtain rfl:vb=k:=Option.some.inj e
    simp only
    rw [if_neg (by omega),if_pos trivial]
   a:=fun k e=>by
    obtain rfl:ab=k:=Option.some.inj e
    simp only
    rw [if_neg (by omega),if_neg (by omega),if_pos trivial]
   e:=fun k e=>by cases e
   s:=fun k e=>by cases e
   c:=fun k e=>by
    have e:(mb≤k∧k<mt)∨k=eb:=e
    try simp only
    rw [if_neg (by omega),if_neg (by omega),if_neg (by omega),if_pos e]
   y:=fun i y k q e=>by
    have:=List.mem_of_getElem? q
    rw [List.eq_of_mem_replicate this] at e
    cases e
   lt:=fun k q=>by
    simp only at q ⊢
    split at q
    ·omega
    ·split at q
     ·omega
     ·split at q
      ·omega
      ·split at q
       ·omega
       ·exact absurd rfl q }
  cn:={
   body:=hp.body.below hB2
   ce:=hp.ce
   lx:=hp.lx
   size:=by rw [hsz];show w.heap.size≤_;omega
   lec:=Nat.le_refl _
   ends:=fun i hi=>by
    rw [← hends i hi]
    exact hbA.cell (p:=⟨eb,i,none⟩) n8
   map:=map_move hmap (hbA.block _ hmap.lt)
   acts:=fun t h1 h2=>((hacts t h1 h2).keep fun k q r=>hbA.block k r).to fun k q=>.inl ⟨by omega,q.2⟩
   same:=fun k q=>rfl
   ceb:=.inr rfl
   cmb:=.inl ⟨Nat.le_refl _,n6⟩ }
  blk:=bG
  vr:=by
   show World.ownsRow _ _ _ _ _ (List.replicate p.vs.length (0:Int)).length _
   rw [List.length_replicate]
   exact own_of_block hv fun k e=>hbA.block k (hv.lt k e).2
  ar:=by
   show World.ownsRow _ _ _ _ _ (List.replicate p.vs.length ([]:List Int)).length (tcells (bareY p.vs.length))
   rw [List.length_replicate,show tcells (bareY p.vs.length)=List.replicate p.vs.length (.slice none 0 0) by unfold tcells bareY;rw [List.map_replicate];rfl]
   exact own_of_block ha fun k e=>hbA.block k (ha.lt k e).2
  hY:=by unfold bareY bare0;rw [List.map_replicate]
  yr:=fun i y q=>by
   rw [List.eq_of_mem_replicate (List.mem_of_getElem? q)]
   exact World.ownsRow_nil _ _ _ _
  er:=World.ownsRow_nil _ _ _ _
  sr:=World.ownsRow_nil _ _ _ _ }
section
variable {K:PK} {κ:Nat→Nat} {evv sv:Value} {Y:List ((Option Addr×Nat)×List Int)} {s:St} {S:List Fr} {W W':World}
theorem PM.row_v(h:PM K κ evv sv Y s S W){L:List Int}(hs:W.heap.size≤W'.heap.size)(hb:∀ k,κ k≠2→k<W.heap.size→W'.heap[k]? = W.heap[k]?)(hO:W'.ownsRow K.base 3 1 K.vv L.length (icells L)):PM K κ evv sv Y { s with vals:=L } S W':=by
 have hk:∀ k,κ k≠2→κ k≠0→W'.heap[k]? = W.heap[k]? := fun k q r=>hb k q (h.lab.lt k r).2
 exact {
  lab:={ h.lab with lt:=fun k q=>⟨(h.lab.lt k q).1,Nat.lt_of_lt_of_le (h.lab.lt k q).2 hs⟩ }
  cn:=h.cn.keep hs fun k q=>by
   have hn:=h.lab.nc q
   refine hb k (by omega) ?_
   rcases q with q | q
   ·exact Nat.lt_of_lt_of_le q h.cn.size
   ·have:=h.lab.c k q;exact(h.lab.lt k (by omega)).2
  blk:=(hk K.g (by rw [h.lab.g];decide) (by rw [h.lab.g];decide)).trans h.blk
  vr:=hO
  ar:=own_of_block h.ar fun k e=>by have:=h.lab.a k e;exact hk k (by omega) (by omega)
  hY:=h.hY
  yr:=fun i y q=>own_of_block (h.yr i y q) fun k e=>by have:=h.lab.y i y k q e;exact hk k (by omega) (by omega)
  er:=own_of_block h.er fun k e=>by have:=h.lab.e k e;exact hk k (by omega) (by omega)
  sr:=own_of_block h.sr fun k e=>by have:=h.lab.s k e;exact hk k (by omega) (by omega) }
theorem PM.put_arr(h:PM K κ evv sv Y s S W){ab ac i nb z:Nat}(hav:K.av=.slice (some ⟨ab,0,none⟩) s.arrs.length ac)(hi:i<s.arrs.length)(hnb:κ nb=0)(hnB:K.base≤nb)(hlt:nb<W.heap.size)
  (hL:W.ownsRow K.base 3 1 (.slice (some ⟨nb,0,none⟩) z z) z (icells (List.replicate z 0))) (hold:Y[i]? = some ((none,0),[])) :
  ∃ κ',PM K κ' evv sv (Y.set i ((some ⟨nb,0,none⟩,z),List.replicate z 0)) { s with arrs:=s.arrs.set i (List.replicate z 0) } S (W.setCell ⟨ab,i,none⟩ (.slice (some ⟨nb,0,none⟩) z z)):=by
 have hab:K.av.ownBlock=some ab:=by rw [hav];rfl
 have ha3:=h.lab.a ab hab
 have hb:∀ k,κ k≠3→(W.setCell ⟨ab,i,none⟩ (.slice (some ⟨nb,0,none⟩) z z)).heap[k]? = W.heap[k]? := fun k q=>Below.heap_setCell _ _ _ _ fun z=>q (by
  obtain rfl:k=ab:=by first | exact z | exact z.symm
  exact ha3)
 have hsz:W.heap.size≤(W.setCell ⟨ab,i,none⟩ (.slice (some ⟨nb,0,none⟩) z z)).heap.size:=by simp
 have V:=own_put (x:=.slice (some ⟨nb,0,none⟩) z z) h.ar hab (i:=i) (by rw [tcells_len];have:=congrArg List.length h.hY;rw [List.length_map] at this;omega)
 have hYl:i<Y.length:=(List.getElem?_eq_some_iff.1 hold).1
 have hlr:(List.replicate z (0:Int)).length=z:=List.length_replicate
 have ht:(tcells Y).set i (.slice (some ⟨nb,0,none⟩) z z)=tcells (Y.set i ((some ⟨nb,0,none⟩,z),List.replicate z 0)):=by
  unfold tcells
  rw [List.map_set]
  simp only [hlr]
 rw [ht] at V
 have hre:∀ k,k≠nb→(if k=nb then 7+i else κ k)=κ k:=fun k q=>if_neg q
 have hat:∀ m y,(Y.set i ((some ⟨nb,0,none⟩,z),List.replicate z 0))[m]? = some y→(m=i∧y=((some ⟨nb,0,none⟩,z),List.replicate z 0))∨(m≠i∧Y[m]? = some y):=fun m y q=>by
  rw [List.getElem?_set] at q
  split at q
  ·next q1=>exact .inl ⟨q1.symm,(Option.some.inj q).symm⟩
  ·next q1=>exact .inr ⟨fun e=>q1 e.symm,q⟩
 have hnn:∀ k n,κ k=n→n≠0→k≠nb:=fun k n e q z=>q (by rw [← e,z];exact hnb)
 refine⟨fun k=>if k=nb then 7+i else κ k,{
  lab:={
   g:=by rw [hre _ (hnn _ _ h.lab.g (by decide))];exact h.lab.g
   v:=fun k e=>by rw [hre _ (hnn _ _ (h.lab.v k e) (by decide))];exact h.lab.v k e
   a:=fun k e=>by rw [hre _ (hnn _ _ (h.lab.a k e) (by decide))];exact h.lab.a k e
   e:=fun k e=>by rw [hre _ (hnn _ _ (h.lab.e k e) (by decide))];exact h.lab.e k e
   s:=fun k e=>by rw [hre _ (hnn _ _ (h.lab.s k e) (by decide))];exact h.lab.s k e
   c:=fun k e=>by rw [hre _ (hnn _ _ (h.lab.c k e) (by decide))];exact h.lab.c k e
   y:=fun m y k q e=>by
    rcases hat m y q with⟨rfl,rfl⟩ | ⟨-,q⟩
    ·obtain rfl:nb=k:=Option.some.inj e
     exact if_pos rfl
    ·have:=h.lab.y m y k q e
     rw [hre _ (hnn _ _ this (by omega))];exact this
   lt:=fun k q=>by
    by_cases e:k=nb
    ·subst e;exact⟨hnB,Nat.lt_of_lt_of_le hlt hsz⟩
    ·rw [hre _ e] at q
     exact⟨(h.lab.lt k q).1,Nat.lt_of_lt_of_le (h.lab.lt k q).2 hsz⟩ }
  cn:=h.cn.keep hsz fun k q=>hb k (by have:=h.lab.nc q;omega)
  blk:=(hb K.g (by rw [h.lab.g];decide)).trans h.blk
  vr:=own_of_block h.vr fun k e=>hb k (by rw [h.lab.v k e];decide)
  ar:=by
   show World.ownsRow _ _ _ _ _ (s.arrs.set i _).length _
   rw [List.length_set];exact V
  hY:=by rw [List.map_set,h.hY]
  yr:=fun m y q=>by
   rcases hat m y q with⟨rfl,rfl⟩ | ⟨-,q⟩
   ·show World.ownsRow _ _ _ _ (.slice (some ⟨nb,0,none⟩) (List.replicate z (0:Int)).length z) (List.replicate z (0:Int)).length _
    rw [hlr]
    exact own_of_block hL fun k e=>hb k (by obtain rfl:nb=k:=Option.some.inj e;rw [hnb];decide)
   ·exact own_of_block (h.yr m y q) fun k e=>hb k (by have:=h.lab.y m y k q e;omega)
  er:=own_of_block h.er fun k e=>hb k (by rw [h.lab.e k e];decide)
  sr:=own_of_block h.sr fun k e=>hb k (by rw [h.lab.s k e];decide) }⟩
end
def Making(p:Prg)(args:List Int)(F:Nat)(w:World)(K:PK)(k:Nat)(W:World):Prop :=
 ∃ κ Y s,PM K κ (.slice none 0 0) (.slice none 0 0) Y s [] W∧s.vals=(begin_ p.vs args F).vals∧s.ev=[]∧s.steps=0∧s.arrs.length=p.vs.length ∧
  (∀ j t,j<k→p.vs[j]? = some t→s.arrs[j]? = some (List.replicate (asz t).toNat 0))∧(∀ j,k≤j→j<p.vs.length→Y[j]? = some ((none,0),[]))∧Below w.heap.size w W
theorem Making.all{p:Prg}{args:List Int}{F:Nat}{w:World}{K:PK}{W:World}(h:Making p args F w K p.vs.length W):∃ κ Y,PM K κ (.slice none 0 0) (.slice none 0 0) Y (begin_ p.vs args F) [] W:=by
 obtain⟨κ,Y,s,hP,h1,h2,h3,h4,h5,-,-⟩:=h
 refine⟨κ,Y,hP.same h1.symm ?_ h2.symm h3.symm⟩
 show p.vs.map (fun t=>List.replicate (asz t).toNat (0:Int))=s.arrs
 apply List.ext_getElem?
 intro j
 rw [List.getElem?_map]
 cases hj:p.vs[j]? with
 | none =>
  have:=List.getElem?_eq_none_iff.1 hj
  rw [List.getElem?_eq_none (by omega)];rfl
 | some t=>rw [h5 j t (List.getElem?_eq_some_iff.1 hj).1 hj];rfl
theorem vals_begin{vs args:List Int}(F:Nat)(h:args.length≤vs.length):(begin_ vs args F).vals=args++List.replicate (vs.length-args.length) 0:=by
 show(List.range vs.length).map (fun i=>args.getD i 0)=_
 apply List.ext_getElem?
 intro j
 rw [List.getElem?_map]
 by_cases h1:j<args.length
 ·rw [List.getElem?_range (by omega),List.getElem?_append_left h1,List.getElem?_eq_getElem h1]
  show some (args.getD j 0)=_
  rw [List.getD_eq_getElem?_getD,List.getElem?_eq_getElem h1];rfl
 ·rw [List.getElem?_append_right (by omega),List.getElem?_replicate]
  by_cases h2:j<vs.length
  ·rw [List.getElem?_range h2,if_pos (by omega)]
   show some (args.getD j 0)=_
   rw [List.getD_eq_getElem?_getD,List.getElem?_eq_none (by omega)];rfl
  ·rw [List.getElem?_eq_none (by simpa using h2),if_neg (by omega)];rfl
theorem Born.copied{p:Prg}{F:Nat}{w:World}{K:PK}{κ:Nat→Nat}{W:World}(h:Born p F w K κ W)(args:List Int)(hl:args.length≤p.vs.length){vb:Nat}(hkv:K.vv=.slice (some ⟨vb,0,none⟩) p.vs.length p.vs.length){cur:Array Value}(hg:W.heap[vb]? = some (.cells cur 3 (0,0)))(hcur:cur.toList=icells (List.replicate p.vs.length 0)) :
  Making p args F w K 0 (W.setRow vb (cur.toList.take 0++(icells args++cur.toList.drop (0+(icells args).length))).toArray):=by
 have hrow:cur.toList.take 0++(icells args++cur.toList.drop (0+(icells args).length))=icells (begin_ p.vs args F).vals:=by
  rw [vals_begin F hl,hcur,List.take_zero,List.nil_append,Nat.zero_add,icells_length]
  unfold icells
  rw [List.map_append,← List.map_drop,List.drop_replicate]
 rw [hrow]
 have hv2:=h.pm.lab.v vb (by rw [hkv];rfl)
 have hvl:=h.pm.lab.lt vb (by omega)
 have hlen:(begin_ p.vs args F).vals.length=p.vs.length:=by show((List.range _).map _).length=_;simp
 have hsz:(W.setRow vb (icells (begin_ p.vs args F).vals).toArray).heap.size=W.heap.size:=by simp [World.setRow]
 have hO:(W.setRow vb (icells (begin_ p.vs args F).vals).toArray).ownsRow K.base 3 1 K.vv (begin_ p.vs args F).vals.length (icells (begin_ p.vs args F).vals):=by
  rw [hkv,hlen]
  refine⟨by rw [icells_length,hlen,Nat.mul_one],.inr ⟨vb,p.vs.length,_,rfl,hvl.1,setRow_heap W vb cur _ _ _ hg,Nat.le_refl _,?_,?_,?_⟩⟩
  ·have:=h.pm.vr
   rw [hkv,show(bare0 p.vs.length F).vals=List.replicate p.vs.length 0 from rfl,List.length_replicate] at this
   rcases this.2 with⟨q,-⟩ | ⟨_,_,_,q,-,-,-,hm,-⟩
   ·cases q
   ·cases q;exact hm
  ·rw [List.size_toArray,icells_length,hlen,Nat.mul_one]
  ·rw [List.toList_toArray,List.take_of_length_le (by rw [icells_length,hlen];omega)]
 have hb:∀ k,κ k≠2→k<W.heap.size→(W.setRow vb (icells (begin_ p.vs args F).vals).toArray).heap[k]? = W.heap[k]? := fun k q _=>setRow_other W vb k _ (fun e=>q (by first | (rw [e];exact hv2) | (rw [← e];exact hv2)))
 refine⟨κ,_,_,h.pm.row_v (Nat.le_of_eq hsz.symm) hb hO,rfl,rfl,rfl,by show(List.replicate _ _).length=_;rw [List.length_replicate],fun j t hj=>absurd hj (by omega),fun j _ hj=>by unfold bareY;rw [List.getElem?_replicate,if_pos hj],below_setRow h.below (by have:=hvl.1;rw [h.kb] at this;exact this) _⟩
theorem Born.fresh{p:Prg}{F:Nat}{w:World}{K:PK}{κ:Nat→Nat}{W:World}(h:Born p F w K κ W):Making p [] F w K 0 W:=by
 refine⟨κ,_,_,h.pm,?_,rfl,rfl,by show(List.replicate _ _).length=_;rw [List.length_replicate],fun j t hj=>absurd hj (by omega),fun j _ hj=>by unfold bareY;rw [List.getElem?_replicate,if_pos hj],h.below⟩
 rw [vals_begin F (Nat.zero_le _)];rfl
theorem Born.row{p:Prg}{F:Nat}{w:World}{K:PK}{κ:Nat→Nat}{W:World}(h:Born p F w K κ W){vb:Nat}(hkv:K.vv=.slice (some ⟨vb,0,none⟩) p.vs.length p.vs.length):∃ cur:Array Value,W.heap[vb]? = some (.cells cur 3 (0,0))∧cur.toList=icells (List.replicate p.vs.length 0):=by
 have hv:=h.pm.vr
 rw [hkv,show(bare0 p.vs.length F).vals=List.replicate p.vs.length 0 from rfl,List.length_replicate] at hv
 rcases hv.2 with⟨q,-⟩ | ⟨g',cap,cur,q,-,hg,-,-,hs,ht⟩
 ·cases q
 ·cases q
  refine⟨cur,hg,?_⟩
  rw [← ht,List.take_of_length_le (by rw [Array.length_toList,hs];omega)]
theorem sz_int:(Tryz.prog.info? 3).map (·.size)=some 1:=by kernel_rfl
theorem Making.next{p:Prg}{args:List Int}{F:Nat}{w:World}{K:PK}{k:Nat}{t:Int}{W:World}{ab:Nat}(h:Making p args F w K k W)(hkb:K.base=w.heap.size)(hka:K.av=.slice (some ⟨ab,0,none⟩) p.vs.length p.vs.length)(ht:p.vs[k]? = some t){z:Nat}(hz:asz t=z)(hzm:z≤maxLen) :
  Making p args F w K (k+1) ((W.alloc (.cells (madeCells #[.int .i64 0] z) 3)).setCell ⟨ab,k,none⟩ (.slice (some ⟨W.heap.size,0,none⟩) z z)):=by
 obtain⟨κ,Y,s,hP,h1,h2,h3,h4,h5,h6,hB⟩:=h
 have hk:=(List.getElem?_eq_some_iff.1 ht).1
 have hbs:=hP.cn.size
 have hb:Below W.heap.size W (W.alloc (.cells (madeCells #[.int .i64 0] z) 3)):=(Below.refl _ _).alloc (Nat.le_refl _) _
 have hκ:κ W.heap.size=0:=by
  by_cases q:κ W.heap.size=0
  ·exact q
  ·have:=(hP.lab.lt _ q).2;omega
 have hL:=World.ownsRow_lit (e:=3) (size:=1) (base:=K.base) W (madeCells #[.int .i64 0] z) z hbs hzm (by rw [size_madeCells,Nat.mul_one])
 rw [toList_madeCells_one] at hL
 obtain⟨κ',hP'⟩:=(hP.below hb).put_arr (nb:=W.heap.size) (z:=z) (i:=k) (ab:=ab) (ac:=p.vs.length) (by rw [h4];exact hka) (by rw [h4];exact hk) hκ hbs (by simp) (by simpa [icells] using hL) (h6 k (Nat.le_refl _) hk)
 have hal:=hP.lab.lt ab (by rw [hP.lab.a ab (by rw [hka];rfl)];decide)
 refine⟨κ',_,_,hP',h1,h2,h3,by show(s.arrs.set k _).length=_;rw [List.length_set];exact h4,fun j u hj hu=>?_,fun j h7 h8=>?_,(hB.trans (hb.mono hB.size)).setCell (p:=⟨ab,k,none⟩) (by rw [← hkb];exact hal.1) _⟩
 ·show(s.arrs.set k _)[j]? = _
  rw [List.getElem?_set]
  by_cases q:k=j
  ·subst q
   rw [if_pos rfl,if_pos (by rw [h4];exact hk)]
   rw [ht] at hu
   cases hu
   rw [hz,Int.toNat_natCast]
  ·rw [if_neg q]
   exact h5 j u (by omega) hu
 ·rw [List.getElem?_set,if_neg (by omega)]
  exact h6 j (by omega) h8
theorem copy_args{p:Prg}{F:Nat}{w1 w:World}{K:PK}{κ:Nat→Nat}{ops:Array Oper}{rest:List Oper}{o:Oper}{a:Act}{Q:Exit→Act→World→Prop}(hgd:o.guard=none)(d s:Operand)
  (ho:o.op=.call { callee:=.builtin .copy,args:=#[d,s],argTypes:=#[22,22] }) {vb c:Nat} {A:Option Addr} (args:List Int)
  (hd:a.eval d=.slice (some ⟨vb,0,none⟩) p.vs.length p.vs.length) (hs:a.eval s=.slice A args.length c) (hBn:Born p F w1 K κ w) (hkv:K.vv=.slice (some ⟨vb,0,none⟩) p.vs.length p.vs.length) (hI:IRow w w.heap.size A args) (hle:args.length≤p.vs.length)
  (h:∀ v' w',Making p args F w1 K 0 w'→wpList Tryz.prog ops Q rest (a.put o.dst v') w'):wpList Tryz.prog ops Q (o::rest) a w:=by
 obtain⟨cur,hg,hcur⟩:=hBn.row hkv
 by_cases he:args=[]
 ·subst he
  exact wpList_copy_nothing hgd d s _ _ ho 3 Tryz.underlying22 sz_int _ _ _ _ _ _ hd hs (by simp) (h _ _ hBn.fresh)
 ·obtain⟨z,hz⟩:∃ z,args[0]? = some z:=⟨_,List.getElem?_eq_getElem (by cases args;exact absurd rfl he;simp)⟩
  obtain⟨ad,rfl,-⟩:=hI 0 z hz
  refine wpList_copy_own hgd d s _ _ ho 3 Tryz.underlying22 sz_int vb 0 _ _ ad _ _ hd hs cur 3 hg (icells args) ?_ ?_ ?_ ?_ (h _ _ (hBn.copied args hle hkv hg hcur))
  ·rw [icells_length];show _=min _ _;omega
  ·intro j v hj
   unfold icells at hj
   rw [List.getElem?_map] at hj
   obtain⟨x,hx,rfl⟩:=Option.map_eq_some_iff.1 hj
   obtain⟨ad',e,-,hc⟩:=hI j x hx
   cases e
   exact hc
  ·have:=congrArg List.length hcur
   rw [Array.length_toList,icells_length,List.length_replicate] at this
   rw [icells_length];omega
  ·intro v hv
   unfold icells at hv
   obtain⟨x,-,rfl⟩:=List.mem_map.1 hv
   rfl
def StartEnds(p:Prg)(args:List Int)(F:Nat)(w:World)(e:Ending)(w':World):Prop :=
 ∃ K κ Y,e=.returned (.pointer (some ⟨K.g,0,none⟩))∧PM K κ (.slice none 0 0) (.slice none 0 0) Y (begin_ p.vs args F) [] w'∧Below w.heap.size w w'∧w.heap.size≤K.base∧K.p=p∧K.F=F
theorem info_ints2:(Tryz.prog.info? 22).map (fun i=>(i.zero,i.size,i.bytes))=some (some (.slice none 0 0),1,24):=by kernel_rfl
theorem start_any(p:Prg)(A:Option Addr)(c:Nat)(args:List Int)(F:Nat)(w:World)(hp:p.Ok w)(hA:IRow w w.heap.size A args)(hw:MRight p.ps p.vs p.xs args.length F) :
    Calls Tryz.prog 12 #[.agg #[.int .i64 p.ps,.slice p.A p.vs.length p.c,.slice p.B p.xs.length p.e],.slice A args.length c,.int .i64 (F:Nat)] w (StartEnds p args F w):=by
  obtain⟨hnv,hps0,hpsn⟩:=hw.nv
  have hargs:=hw.args
  have hle:args.length≤p.vs.length:=by omega
  obtain⟨bd,hBd⟩:∃ bd,p.B=some bd:=by
    obtain⟨x,hx⟩:∃ x,p.xs[0]? = some x:=⟨_,List.getElem?_eq_getElem hw.pos⟩
    obtain⟨ad,h0,-⟩:=hp.body 0 x hx
    exact⟨ad,h0⟩
  have hb1:=(Below.refl w.heap.size w).alloc (Nat.le_refl _) (.cells #[.int .i64 p.ps,.slice p.A p.vs.length p.c,.slice p.B p.xs.length p.e] 25)
  have bX:=Blk.new w 25 #[.int .i64 p.ps,.slice p.A p.vs.length p.c,.slice p.B p.xs.length p.e]
  have hp1:=hp.at hb1
  have hA1:=hA.at hb1
  obtain⟨W1,hW1⟩:∃ W1,w.alloc (.cells #[.int .i64 p.ps,.slice p.A p.vs.length p.c,.slice p.B p.xs.length p.e] 25)=W1:=⟨_,rfl⟩
  rw [hW1] at hb1 bX hp1 hA1
  have hbx:=bX.lt
  have HE:=Lib.hid (fun W (hb:Below W1.heap.size W1 W)=>ends_any bd p.e p.xs W (by have:=(hp1.at hb).body;rw [hBd] at this;exact this) hp.lx hw.whole)
  have HACT:=Lib.hid (fun W=>acts_any W)
  obtain⟨ig,hig,hz0,hz1,hz2⟩:=info_parts info_int
  obtain⟨jg,hjg,hy0,hy1,hy2⟩:=info_parts info_ints2
  have hmk1:∀ W:World,(Instr.makeSlice 22 (.int .i64 (p.vs.length:Int)) (.int .i64 (p.vs.length:Int))).run Tryz.prog W=.ok (.slice (some ⟨W.heap.size,0,none⟩) p.vs.length p.vs.length) (W.alloc (.cells (madeCells #[.int .i64 0] p.vs.length) 3)):=fun W=>by
    have:=run_make (P:=Tryz.prog) W 22 3 ig _ Tryz.underlying22 hig hz0 .i64 .i64 (p.vs.length:Int) (p.vs.length:Int) (by omega) (by omega) (by rw [hz2];omega) (by omega)
    rw [hz1,Int.toNat_natCast,Nat.mul_one] at this
    exact this
  have hmk2:∀ W:World,(Instr.makeSlice 43 (.int .i64 (p.vs.length:Int)) (.int .i64 (p.vs.length:Int))).run Tryz.prog W=.ok (.slice (some ⟨W.heap.size,0,none⟩) p.vs.length p.vs.length) (W.alloc (.cells (madeCells #[.slice none 0 0] p.vs.length) 22)):=fun W=>by
    have:=run_make (P:=Tryz.prog) W 43 22 jg _ Tryz.underlying43 hjg hy0 .i64 .i64 (p.vs.length:Int) (p.vs.length:Int) (by omega) (by omega) (by rw [hy2];omega) (by omega)
    rw [hy1,Int.toNat_natCast,Nat.mul_one] at this
    exact this
  have HV:=Lib.hid (fun(C:World) (hb:Below W1.heap.size W1 C)=>show Below C.heap.size C (C.alloc (.cells (madeCells #[.int .i64 0] p.vs.length) 3))∧(C.alloc (.cells (madeCells #[.int .i64 0] p.vs.length) 3)).ownsRow W1.heap.size 3 1 (.slice (some ⟨C.heap.size,0,none⟩) p.vs.length p.vs.length) p.vs.length (icells (List.replicate p.vs.length 0))∧C.heap.size<(C.alloc (.cells (madeCells #[.int .i64 0] p.vs.length) 3)).heap.size from
    ⟨(Below.refl _ _).alloc (Nat.le_refl _) _, by
      have:=World.ownsRow_lit (e:=3) (size:=1) (base:=W1.heap.size) C (madeCells #[.int .i64 0] p.vs.length) p.vs.length hb.size (by simp only [maxLen];omega) (by rw [size_madeCells,Nat.mul_one])
      rw [toList_madeCells_one] at this
      simpa [icells] using this,by simp⟩)
  have HA:=Lib.hid (fun(C:World) (hb:Below W1.heap.size W1 C)=>show Below C.heap.size C (C.alloc (.cells (madeCells #[.slice none 0 0] p.vs.length) 22))∧(C.alloc (.cells (madeCells #[.slice none 0 0] p.vs.length) 22)).ownsRow W1.heap.size 22 1 (.slice (some ⟨C.heap.size,0,none⟩) p.vs.length p.vs.length) p.vs.length (List.replicate p.vs.length (.slice none 0 0))∧C.heap.size<(C.alloc (.cells (madeCells #[.slice none 0 0] p.vs.length) 22)).heap.size from
    ⟨(Below.refl _ _).alloc (Nat.le_refl _) _, by
      have:=World.ownsRow_lit (e:=22) (size:=1) (base:=W1.heap.size) C (madeCells #[.slice none 0 0] p.vs.length) p.vs.length hb.size (by simp only [maxLen];omega) (by rw [size_madeCells,Nat.mul_one])
      rw [toList_madeCells_one] at this
      exact this,by simp⟩)
  have HBORN:=Lib.hid (fun c eb mb mt vb ab v=>born_of p F (w:=W1) (c:=c) (eb:=eb) (mb:=mb) (mt:=mt) (vb:=vb) (ab:=ab) (v:=v) hp1)
  have HSS:=Lib.hid (fun W (hb:Below W1.heap.size W1 W)=>show(fun w'=>w'.cell? ⟨w.heap.size,1,none⟩=some (.slice p.A p.vs.length p.c)∧w'.cell? ⟨w.heap.size,2,none⟩=some (.slice (some bd) p.xs.length p.e)) W from by
    have b:=bX.below hb hbx
    rw [← hBd]
    exact⟨b.cell 1,b.cell 2⟩)
  rw [hBd] at HBORN hW1
  have HSZ:=Lib.hid (fun t W=>Size_any t W)
  have HP1:=Lib.hid hp1
  have HA1:=Lib.hid hA1
  have HB1:=Lib.hid hb1
  have HBD:=Lib.hid hBd
  have hC0:(fun w'=>w'.cell? ⟨w.heap.size,1,none⟩=some (.slice p.A p.vs.length p.c)∧w'.cell? ⟨w.heap.size,2,none⟩=some (.slice (some bd) p.xs.length p.e)) W1.drew:=HSS.out _ (Below.refl _ _).drew
  rw [hBd]
  have HW:=Lib.hid hw
  clear hp hA hp1 hA1 hb1 bX hBd hw hps0 hpsn
  go_enter Tryz.func12,Tryz.ntmps12
  go_upto_region 1 with fail
  go_cut [7] from 10 to 27 (fun r wx=>∃ K κ,r=.pointer (some ⟨K.g,0,none⟩)∧Born p F W1 K κ wx)
  case first =>
    refine OrdU.wp_region_U 15 (fun w'=>w'.cell? ⟨w.heap.size,1,none⟩=some (.slice p.A p.vs.length p.c)∧w'.cell? ⟨w.heap.size,2,none⟩=some (.slice (some bd) p.xs.length p.e)) (by kernel_rfl) hC0 (fun hHeld=>?_)
    refine OrdU.tk 0 (h:=?_)
    refine OrdU.tk 1 (h:=?_)
    refine OrdU.tk 2 (h:=?_)
    refine OrdU.tk 3 (h:=?_)
    refine OrdU.tk 5 (h:=?_)
    refine OrdU.tk 6 (h:=?_)
    refine OrdU.tk 7 (h:=?_)
    refine OrdU.tk 8 (h:=?_)
    refine OrdU.tk 10 (h:=?_)
    refine OrdU.tk 11 (h:=?_)
    refine OrdU.tk 12 (h:=?_)
    obtain⟨c0,hc0⟩:∃ c,W1.drew=c:=⟨_,rfl⟩
    have hB0:Below W1.heap.size W1 c0:=by rw [← hc0];exact(Below.refl _ _).drew
    rw [hc0] at hHeld ⊢
    clear hc0
    refine OrdU.wpAnyU_ready (rs:=[4,9,13]) (by kernel_rfl) (by simp) ?_
    refine OrdU.AllReadyU.cons (o:=⟨some 14,_,_,_,_,none⟩) rfl (fun K' hK=>?_) (OrdU.AllReadyU.cons (o:=⟨some 19,_,_,_,_,none⟩) rfl (fun K' hK=>?_) (OrdU.AllReadyU.cons (o:=⟨some 23,_,_,_,_,none⟩) rfl (fun K' hK=>?_) OrdU.AllReadyU.nil))
    · go_simp
      go_at_call 26
      with_reducible refine(HE.out c0 hB0).mono ?_
      rintro e c1 ⟨rfl,hl1,hen,hb1⟩
      go_wp2_with fail
      have hB1:=hB0.trans (hb1.mono hB0.size)
      refine OrdU.bh hK (HSS.out _ hB1) (h:=fun hHeld=>?_)
      clear hK K'
      refine OrdU.wpAnyU_ready (rs:=[9,13,14]) (by kernel_rfl) (by simp) ?_
      refine OrdU.AllReadyU.cons (o:=⟨some 19,_,_,_,_,none⟩) rfl (fun K' hK=>?_) (OrdU.AllReadyU.cons (o:=⟨some 23,_,_,_,_,none⟩) rfl (fun K' hK=>?_) (OrdU.AllReadyU.cons (o:=⟨some 24,_,_,_,_,none⟩) rfl (fun K' hK=>?_) OrdU.AllReadyU.nil))
      · go_simp
        obtain⟨hb2,hv,hl2⟩:=HV.out c1 hB1
        obtain⟨c2,hc⟩:∃ c,c1.alloc (.cells (madeCells #[.int .i64 0] p.vs.length) 3)=c:=⟨_,rfl⟩
        rw [hc] at hb2 hv hl2 ⊢
        clear hc
        have hB2:=hB1.trans (hb2.mono hB1.size)
        refine OrdU.bh hK (HSS.out _ hB2) (h:=fun hHeld=>?_)
        clear hK K'
        refine OrdU.wpAnyU_ready (rs:=[13,14]) (by kernel_rfl) (by simp) ?_
        refine OrdU.AllReadyU.cons (o:=⟨some 23,_,_,_,_,none⟩) rfl (fun K' hK=>?_) (OrdU.AllReadyU.cons (o:=⟨some 24,_,_,_,_,none⟩) rfl (fun K' hK=>?_) OrdU.AllReadyU.nil)
        · go_simp
          obtain⟨hb3,ha,hl3⟩:=HA.out c2 hB2
          obtain⟨c3,hc⟩:∃ c,c2.alloc (.cells (madeCells #[.slice none 0 0] p.vs.length) 22)=c:=⟨_,rfl⟩
          rw [hc] at hb3 ha hl3 ⊢
          clear hc
          have hB3:=hB2.trans (hb3.mono hB2.size)
          refine OrdU.bh hK (HSS.out _ hB3) (h:=fun hHeld=>?_)
          clear hK K'
          refine OrdU.one 14 (h:=fun K' hK=>?_)
          go_simp
          go_at_call 27
          with_reducible refine(HACT.out c3).mono ?_
          rintro e c4 ⟨vv,rfl,hmap,hmade,hb4⟩
          have hl4:=hmap.lt
          go_wp2_with fail
          have hB4:=hB3.trans (hb4.mono hB3.size)
          refine OrdU.bh hK (HSS.out _ hB4) (h:=fun hHeld=>?_)
          clear hK K'
          have hs1:=hb1.size
          have hs2:=hb2.size
          have hs3:=hb3.size
          have hs4:=hb4.size
          have hE4:=(below2 (below2 hb2 hb3) hb4)
          have hV4:=(below2 hb3 hb4)
          have hA4:=hb4
          have hM4:=(Below.refl c4.heap.size c4)
          obtain⟨K,κ,hg,hborn⟩:=HBORN.out c4 c0.heap.size c3.heap.size c4.heap.size c1.heap.size c2.heap.size vv hB4 (fun i hi=>(hE4.cell (p:=⟨c0.heap.size,i,none⟩) hl1).trans (hen i hi)) (map_move hmap (hM4.block _ hl4)) (fun t h1 h2=>(hmade.acts (C:=fun k=>c3.heap.size<k∧k<c4.heap.size) (fun k q r=>⟨q,r⟩) t h1 h2).keep (fun k q r=>hM4.block k r)) (own_of_block hv (fun i e=>hV4.block i (hv.lt i e).2)) (own_of_block ha (fun i e=>hA4.block i (ha.lt i e).2)) (by have:=hB0.size;omega)
          exact zMachPK0
        · go_simp
          go_at_call 27
          with_reducible refine(HACT.out c2).mono ?_
          rintro e c3 ⟨vv,rfl,hmap,hmade,hb3⟩
          have hl3:=hmap.lt
          go_wp2_with fail
          have hB3:=hB2.trans (hb3.mono hB2.size)
          refine OrdU.bh hK (HSS.out _ hB3) (h:=fun hHeld=>?_)
          clear hK K'
          refine OrdU.one 13 (h:=fun K' hK=>?_)
          go_simp
          obtain⟨hb4,ha,hl4⟩:=HA.out c3 hB3
          obtain⟨c4,hc⟩:∃ c,c3.alloc (.cells (madeCells #[.slice none 0 0] p.vs.length) 22)=c:=⟨_,rfl⟩
          rw [hc] at hb4 ha hl4 ⊢
          clear hc
          have hB4:=hB3.trans (hb4.mono hB3.size)
          refine OrdU.bh hK (HSS.out _ hB4) (h:=fun hHeld=>?_)
          clear hK K'
          have hs1:=hb1.size
          have hs2:=hb2.size
          have hs3:=hb3.size
          have hs4:=hb4.size
          have hE4:=(below2 (below2 hb2 hb3) hb4)
          have hV4:=(below2 hb3 hb4)
          have hA4:=(Below.refl c4.heap.size c4)
          have hM4:=hb4
          obtain⟨K,κ,hg,hborn⟩:=HBORN.out c4 c0.heap.size c2.heap.size c3.heap.size c1.heap.size c3.heap.size vv hB4 (fun i hi=>(hE4.cell (p:=⟨c0.heap.size,i,none⟩) hl1).trans (hen i hi)) (map_move hmap (hM4.block _ hl3)) (fun t h1 h2=>(hmade.acts (C:=fun k=>c2.heap.size<k∧k<c3.heap.size) (fun k q r=>⟨q,r⟩) t h1 h2).keep (fun k q r=>hM4.block k r)) (own_of_block hv (fun i e=>hV4.block i (hv.lt i e).2)) (own_of_block ha (fun i e=>hA4.block i (ha.lt i e).2)) (by have:=hB0.size;omega)
          exact zMachPK0
      · go_simp
        obtain⟨hb2,ha,hl2⟩:=HA.out c1 hB1
        obtain⟨c2,hc⟩:∃ c,c1.alloc (.cells (madeCells #[.slice none 0 0] p.vs.length) 22)=c:=⟨_,rfl⟩
        rw [hc] at hb2 ha hl2 ⊢
        clear hc
        have hB2:=hB1.trans (hb2.mono hB1.size)
        refine OrdU.bh hK (HSS.out _ hB2) (h:=fun hHeld=>?_)
        clear hK K'
        refine OrdU.wpAnyU_ready (rs:=[9,14]) (by kernel_rfl) (by simp) ?_
        refine OrdU.AllReadyU.cons (o:=⟨some 19,_,_,_,_,none⟩) rfl (fun K' hK=>?_) (OrdU.AllReadyU.cons (o:=⟨some 24,_,_,_,_,none⟩) rfl (fun K' hK=>?_) OrdU.AllReadyU.nil)
        · go_simp
          obtain⟨hb3,hv,hl3⟩:=HV.out c2 hB2
          obtain⟨c3,hc⟩:∃ c,c2.alloc (.cells (madeCells #[.int .i64 0] p.vs.length) 3)=c:=⟨_,rfl⟩
          rw [hc] at hb3 hv hl3 ⊢
          clear hc
          have hB3:=hB2.trans (hb3.mono hB2.size)
          refine OrdU.bh hK (HSS.out _ hB3) (h:=fun hHeld=>?_)
          clear hK K'
          refine OrdU.one 14 (h:=fun K' hK=>?_)
          go_simp
          go_at_call 27
          with_reducible refine(HACT.out c3).mono ?_
          rintro e c4 ⟨vv,rfl,hmap,hmade,hb4⟩
          have hl4:=hmap.lt
          go_wp2_with fail
          have hB4:=hB3.trans (hb4.mono hB3.size)
          refine OrdU.bh hK (HSS.out _ hB4) (h:=fun hHeld=>?_)
          clear hK K'
          have hs1:=hb1.size
          have hs2:=hb2.size
          have hs3:=hb3.size
          have hs4:=hb4.size
          have hE4:=(below2 (below2 hb2 hb3) hb4)
          have hV4:=hb4
          have hA4:=(below2 hb3 hb4)
          have hM4:=(Below.refl c4.heap.size c4)
          obtain⟨K,κ,hg,hborn⟩:=HBORN.out c4 c0.heap.size c3.heap.size c4.heap.size c2.heap.size c1.heap.size vv hB4 (fun i hi=>(hE4.cell (p:=⟨c0.heap.size,i,none⟩) hl1).trans (hen i hi)) (map_move hmap (hM4.block _ hl4)) (fun t h1 h2=>(hmade.acts (C:=fun k=>c3.heap.size<k∧k<c4.heap.size) (fun k q r=>⟨q,r⟩) t h1 h2).keep (fun k q r=>hM4.block k r)) (own_of_block hv (fun i e=>hV4.block i (hv.lt i e).2)) (own_of_block ha (fun i e=>hA4.block i (ha.lt i e).2)) (by have:=hB0.size;omega)
          exact zMachPK0
        · go_simp
          go_at_call 27
          with_reducible refine(HACT.out c2).mono ?_
          rintro e c3 ⟨vv,rfl,hmap,hmade,hb3⟩
          have hl3:=hmap.lt
          go_wp2_with fail
          have hB3:=hB2.trans (hb3.mono hB2.size)
          refine OrdU.bh hK (HSS.out _ hB3) (h:=fun hHeld=>?_)
          clear hK K'
          refine OrdU.one 9 (h:=fun K' hK=>?_)
          go_simp
          obtain⟨hb4,hv,hl4⟩:=HV.out c3 hB3
          obtain⟨c4,hc⟩:∃ c,c3.alloc (.cells (madeCells #[.int .i64 0] p.vs.length) 3)=c:=⟨_,rfl⟩
          rw [hc] at hb4 hv hl4 ⊢
          clear hc
          have hB4:=hB3.trans (hb4.mono hB3.size)
          refine OrdU.bh hK (HSS.out _ hB4) (h:=fun hHeld=>?_)
          clear hK K'
          have hs1:=hb1.size
          have hs2:=hb2.size
          have hs3:=hb3.size
          have hs4:=hb4.size
          have hE4:=(below2 (below2 hb2 hb3) hb4)
          have hV4:=(Below.refl c4.heap.size c4)
          have hA4:=(below2 hb3 hb4)
          have hM4:=hb4
          obtain⟨K,κ,hg,hborn⟩:=HBORN.out c4 c0.heap.size c2.heap.size c3.heap.size c3.heap.size c1.heap.size vv hB4 (fun i hi=>(hE4.cell (p:=⟨c0.heap.size,i,none⟩) hl1).trans (hen i hi)) (map_move hmap (hM4.block _ hl3)) (fun t h1 h2=>(hmade.acts (C:=fun k=>c2.heap.size<k∧k<c3.heap.size) (fun k q r=>⟨q,r⟩) t h1 h2).keep (fun k q r=>hM4.block k r)) (own_of_block hv (fun i e=>hV4.block i (hv.lt i e).2)) (own_of_block ha (fun i e=>hA4.block i (ha.lt i e).2)) (by have:=hB0.size;omega)
          exact zMachPK0
      · go_simp
        go_at_call 27
        with_reducible refine(HACT.out c1).mono ?_
        rintro e c2 ⟨vv,rfl,hmap,hmade,hb2⟩
        have hl2:=hmap.lt
        go_wp2_with fail
        have hB2:=hB1.trans (hb2.mono hB1.size)
        refine OrdU.bh hK (HSS.out _ hB2) (h:=fun hHeld=>?_)
        clear hK K'
        refine OrdU.wpAnyU_ready (rs:=[9,13]) (by kernel_rfl) (by simp) ?_
        refine OrdU.AllReadyU.cons (o:=⟨some 19,_,_,_,_,none⟩) rfl (fun K' hK=>?_) (OrdU.AllReadyU.cons (o:=⟨some 23,_,_,_,_,none⟩) rfl (fun K' hK=>?_) OrdU.AllReadyU.nil)
        · go_simp
          obtain⟨hb3,hv,hl3⟩:=HV.out c2 hB2
          obtain⟨c3,hc⟩:∃ c,c2.alloc (.cells (madeCells #[.int .i64 0] p.vs.length) 3)=c:=⟨_,rfl⟩
          rw [hc] at hb3 hv hl3 ⊢
          clear hc
          have hB3:=hB2.trans (hb3.mono hB2.size)
          refine OrdU.bh hK (HSS.out _ hB3) (h:=fun hHeld=>?_)
          clear hK K'
          refine OrdU.one 13 (h:=fun K' hK=>?_)
          go_simp
          obtain⟨hb4,ha,hl4⟩:=HA.out c3 hB3
          obtain⟨c4,hc⟩:∃ c,c3.alloc (.cells (madeCells #[.slice none 0 0] p.vs.length) 22)=c:=⟨_,rfl⟩
          rw [hc] at hb4 ha hl4 ⊢
          clear hc
          have hB4:=hB3.trans (hb4.mono hB3.size)
          refine OrdU.bh hK (HSS.out _ hB4) (h:=fun hHeld=>?_)
          clear hK K'
          have hs1:=hb1.size
          have hs2:=hb2.size
          have hs3:=hb3.size
          have hs4:=hb4.size
          have hE4:=(below2 (below2 hb2 hb3) hb4)
          have hV4:=hb4
          have hA4:=(Below.refl c4.heap.size c4)
          have hM4:=(below2 hb3 hb4)
          obtain⟨K,κ,hg,hborn⟩:=HBORN.out c4 c0.heap.size c1.heap.size c2.heap.size c2.heap.size c3.heap.size vv hB4 (fun i hi=>(hE4.cell (p:=⟨c0.heap.size,i,none⟩) hl1).trans (hen i hi)) (map_move hmap (hM4.block _ hl2)) (fun t h1 h2=>(hmade.acts (C:=fun k=>c1.heap.size<k∧k<c2.heap.size) (fun k q r=>⟨q,r⟩) t h1 h2).keep (fun k q r=>hM4.block k r)) (own_of_block hv (fun i e=>hV4.block i (hv.lt i e).2)) (own_of_block ha (fun i e=>hA4.block i (ha.lt i e).2)) (by have:=hB0.size;omega)
          exact zMachPK0
        · go_simp
          obtain⟨hb3,ha,hl3⟩:=HA.out c2 hB2
          obtain⟨c3,hc⟩:∃ c,c2.alloc (.cells (madeCells #[.slice none 0 0] p.vs.length) 22)=c:=⟨_,rfl⟩
          rw [hc] at hb3 ha hl3 ⊢
          clear hc
          have hB3:=hB2.trans (hb3.mono hB2.size)
          refine OrdU.bh hK (HSS.out _ hB3) (h:=fun hHeld=>?_)
          clear hK K'
          refine OrdU.one 9 (h:=fun K' hK=>?_)
          go_simp
          obtain⟨hb4,hv,hl4⟩:=HV.out c3 hB3
          obtain⟨c4,hc⟩:∃ c,c3.alloc (.cells (madeCells #[.int .i64 0] p.vs.length) 3)=c:=⟨_,rfl⟩
          rw [hc] at hb4 hv hl4 ⊢
          clear hc
          have hB4:=hB3.trans (hb4.mono hB3.size)
          refine OrdU.bh hK (HSS.out _ hB4) (h:=fun hHeld=>?_)
          clear hK K'
          have hs1:=hb1.size
          have hs2:=hb2.size
          have hs3:=hb3.size
          have hs4:=hb4.size
          have hE4:=(below2 (below2 hb2 hb3) hb4)
          have hV4:=(Below.refl c4.heap.size c4)
          have hA4:=hb4
          have hM4:=(below2 hb3 hb4)
          obtain⟨K,κ,hg,hborn⟩:=HBORN.out c4 c0.heap.size c1.heap.size c2.heap.size c3.heap.size c2.heap.size vv hB4 (fun i hi=>(hE4.cell (p:=⟨c0.heap.size,i,none⟩) hl1).trans (hen i hi)) (map_move hmap (hM4.block _ hl2)) (fun t h1 h2=>(hmade.acts (C:=fun k=>c1.heap.size<k∧k<c2.heap.size) (fun k q r=>⟨q,r⟩) t h1 h2).keep (fun k q r=>hM4.block k r)) (own_of_block hv (fun i e=>hV4.block i (hv.lt i e).2)) (own_of_block ha (fun i e=>hA4.block i (ha.lt i e).2)) (by have:=hB0.size;omega)
          exact zMachPK0
    · go_simp
      obtain⟨hb1,hv,hl1⟩:=HV.out c0 hB0
      obtain⟨c1,hc⟩:∃ c,c0.alloc (.cells (madeCells #[.int .i64 0] p.vs.length) 3)=c:=⟨_,rfl⟩
      rw [hc] at hb1 hv hl1 ⊢
      clear hc
      have hB1:=hB0.trans (hb1.mono hB0.size)
      refine OrdU.bh hK (HSS.out _ hB1) (h:=fun hHeld=>?_)
      clear hK K'
      refine OrdU.wpAnyU_ready (rs:=[4,13]) (by kernel_rfl) (by simp) ?_
      refine OrdU.AllReadyU.cons (o:=⟨some 14,_,_,_,_,none⟩) rfl (fun K' hK=>?_) (OrdU.AllReadyU.cons (o:=⟨some 23,_,_,_,_,none⟩) rfl (fun K' hK=>?_) OrdU.AllReadyU.nil)
      · go_simp
        go_at_call 26
        with_reducible refine(HE.out c1 hB1).mono ?_
        rintro e c2 ⟨rfl,hl2,hen,hb2⟩
        go_wp2_with fail
        have hB2:=hB1.trans (hb2.mono hB1.size)
        refine OrdU.bh hK (HSS.out _ hB2) (h:=fun hHeld=>?_)
        clear hK K'
        refine OrdU.wpAnyU_ready (rs:=[13,14]) (by kernel_rfl) (by simp) ?_
        refine OrdU.AllReadyU.cons (o:=⟨some 23,_,_,_,_,none⟩) rfl (fun K' hK=>?_) (OrdU.AllReadyU.cons (o:=⟨some 24,_,_,_,_,none⟩) rfl (fun K' hK=>?_) OrdU.AllReadyU.nil)
        · go_simp
          obtain⟨hb3,ha,hl3⟩:=HA.out c2 hB2
          obtain⟨c3,hc⟩:∃ c,c2.alloc (.cells (madeCells #[.slice none 0 0] p.vs.length) 22)=c:=⟨_,rfl⟩
          rw [hc] at hb3 ha hl3 ⊢
          clear hc
          have hB3:=hB2.trans (hb3.mono hB2.size)
          refine OrdU.bh hK (HSS.out _ hB3) (h:=fun hHeld=>?_)
          clear hK K'
          refine OrdU.one 14 (h:=fun K' hK=>?_)
          go_simp
          go_at_call 27
          with_reducible refine(HACT.out c3).mono ?_
          rintro e c4 ⟨vv,rfl,hmap,hmade,hb4⟩
          have hl4:=hmap.lt
          go_wp2_with fail
          have hB4:=hB3.trans (hb4.mono hB3.size)
          refine OrdU.bh hK (HSS.out _ hB4) (h:=fun hHeld=>?_)
          clear hK K'
          have hs1:=hb1.size
          have hs2:=hb2.size
          have hs3:=hb3.size
          have hs4:=hb4.size
          have hE4:=(below2 hb3 hb4)
          have hV4:=(below2 (below2 hb2 hb3) hb4)
          have hA4:=hb4
          have hM4:=(Below.refl c4.heap.size c4)
          obtain⟨K,κ,hg,hborn⟩:=HBORN.out c4 c1.heap.size c3.heap.size c4.heap.size c0.heap.size c2.heap.size vv hB4 (fun i hi=>(hE4.cell (p:=⟨c1.heap.size,i,none⟩) hl2).trans (hen i hi)) (map_move hmap (hM4.block _ hl4)) (fun t h1 h2=>(hmade.acts (C:=fun k=>c3.heap.size<k∧k<c4.heap.size) (fun k q r=>⟨q,r⟩) t h1 h2).keep (fun k q r=>hM4.block k r)) (own_of_block hv (fun i e=>hV4.block i (hv.lt i e).2)) (own_of_block ha (fun i e=>hA4.block i (ha.lt i e).2)) (by have:=hB0.size;omega)
          exact zMachPK0
        · go_simp
          go_at_call 27
          with_reducible refine(HACT.out c2).mono ?_
          rintro e c3 ⟨vv,rfl,hmap,hmade,hb3⟩
          have hl3:=hmap.lt
          go_wp2_with fail
          have hB3:=hB2.trans (hb3.mono hB2.size)
          refine OrdU.bh hK (HSS.out _ hB3) (h:=fun hHeld=>?_)
          clear hK K'
          refine OrdU.one 13 (h:=fun K' hK=>?_)
          go_simp
          obtain⟨hb4,ha,hl4⟩:=HA.out c3 hB3
          obtain⟨c4,hc⟩:∃ c,c3.alloc (.cells (madeCells #[.slice none 0 0] p.vs.length) 22)=c:=⟨_,rfl⟩
          rw [hc] at hb4 ha hl4 ⊢
          clear hc
          have hB4:=hB3.trans (hb4.mono hB3.size)
          refine OrdU.bh hK (HSS.out _ hB4) (h:=fun hHeld=>?_)
          clear hK K'
          have hs1:=hb1.size
          have hs2:=hb2.size
          have hs3:=hb3.size
          have hs4:=hb4.size
          have hE4:=(below2 hb3 hb4)
          have hV4:=(below2 (below2 hb2 hb3) hb4)
          have hA4:=(Below.refl c4.heap.size c4)
          have hM4:=hb4
          obtain⟨K,κ,hg,hborn⟩:=HBORN.out c4 c1.heap.size c2.heap.size c3.heap.size c0.heap.size c3.heap.size vv hB4 (fun i hi=>(hE4.cell (p:=⟨c1.heap.size,i,none⟩) hl2).trans (hen i hi)) (map_move hmap (hM4.block _ hl3)) (fun t h1 h2=>(hmade.acts (C:=fun k=>c2.heap.size<k∧k<c3.heap.size) (fun k q r=>⟨q,r⟩) t h1 h2).keep (fun k q r=>hM4.block k r)) (own_of_block hv (fun i e=>hV4.block i (hv.lt i e).2)) (own_of_block ha (fun i e=>hA4.block i (ha.lt i e).2)) (by have:=hB0.size;omega)
          exact zMachPK0
      · go_simp
        obtain⟨hb2,ha,hl2⟩:=HA.out c1 hB1
        obtain⟨c2,hc⟩:∃ c,c1.alloc (.cells (madeCells #[.slice none 0 0] p.vs.length) 22)=c:=⟨_,rfl⟩
        rw [hc] at hb2 ha hl2 ⊢
        clear hc
        have hB2:=hB1.trans (hb2.mono hB1.size)
        refine OrdU.bh hK (HSS.out _ hB2) (h:=fun hHeld=>?_)
        clear hK K'
        refine OrdU.one 4 (h:=fun K' hK=>?_)
        go_simp
        go_at_call 26
        with_reducible refine(HE.out c2 hB2).mono ?_
        rintro e c3 ⟨rfl,hl3,hen,hb3⟩
        go_wp2_with fail
        have hB3:=hB2.trans (hb3.mono hB2.size)
        refine OrdU.bh hK (HSS.out _ hB3) (h:=fun hHeld=>?_)
        clear hK K'
        refine OrdU.one 14 (h:=fun K' hK=>?_)
        go_simp
        go_at_call 27
        with_reducible refine(HACT.out c3).mono ?_
        rintro e c4 ⟨vv,rfl,hmap,hmade,hb4⟩
        have hl4:=hmap.lt
        go_wp2_with fail
        have hB4:=hB3.trans (hb4.mono hB3.size)
        refine OrdU.bh hK (HSS.out _ hB4) (h:=fun hHeld=>?_)
        clear hK K'
        have hs1:=hb1.size
        have hs2:=hb2.size
        have hs3:=hb3.size
        have hs4:=hb4.size
        have hE4:=hb4
        have hV4:=(below2 (below2 hb2 hb3) hb4)
        have hA4:=(below2 hb3 hb4)
        have hM4:=(Below.refl c4.heap.size c4)
        obtain⟨K,κ,hg,hborn⟩:=HBORN.out c4 c2.heap.size c3.heap.size c4.heap.size c0.heap.size c1.heap.size vv hB4 (fun i hi=>(hE4.cell (p:=⟨c2.heap.size,i,none⟩) hl3).trans (hen i hi)) (map_move hmap (hM4.block _ hl4)) (fun t h1 h2=>(hmade.acts (C:=fun k=>c3.heap.size<k∧k<c4.heap.size) (fun k q r=>⟨q,r⟩) t h1 h2).keep (fun k q r=>hM4.block k r)) (own_of_block hv (fun i e=>hV4.block i (hv.lt i e).2)) (own_of_block ha (fun i e=>hA4.block i (ha.lt i e).2)) (by have:=hB0.size;omega)
        exact zMachPK0
    · go_simp
      obtain⟨hb1,ha,hl1⟩:=HA.out c0 hB0
      obtain⟨c1,hc⟩:∃ c,c0.alloc (.cells (madeCells #[.slice none 0 0] p.vs.length) 22)=c:=⟨_,rfl⟩
      rw [hc] at hb1 ha hl1 ⊢
      clear hc
      have hB1:=hB0.trans (hb1.mono hB0.size)
      refine OrdU.bh hK (HSS.out _ hB1) (h:=fun hHeld=>?_)
      clear hK K'
      refine OrdU.wpAnyU_ready (rs:=[4,9]) (by kernel_rfl) (by simp) ?_
      refine OrdU.AllReadyU.cons (o:=⟨some 14,_,_,_,_,none⟩) rfl (fun K' hK=>?_) (OrdU.AllReadyU.cons (o:=⟨some 19,_,_,_,_,none⟩) rfl (fun K' hK=>?_) OrdU.AllReadyU.nil)
      · go_simp
        go_at_call 26
        with_reducible refine(HE.out c1 hB1).mono ?_
        rintro e c2 ⟨rfl,hl2,hen,hb2⟩
        go_wp2_with fail
        have hB2:=hB1.trans (hb2.mono hB1.size)
        refine OrdU.bh hK (HSS.out _ hB2) (h:=fun hHeld=>?_)
        clear hK K'
        refine OrdU.wpAnyU_ready (rs:=[9,14]) (by kernel_rfl) (by simp) ?_
        refine OrdU.AllReadyU.cons (o:=⟨some 19,_,_,_,_,none⟩) rfl (fun K' hK=>?_) (OrdU.AllReadyU.cons (o:=⟨some 24,_,_,_,_,none⟩) rfl (fun K' hK=>?_) OrdU.AllReadyU.nil)
        · go_simp
          obtain⟨hb3,hv,hl3⟩:=HV.out c2 hB2
          obtain⟨c3,hc⟩:∃ c,c2.alloc (.cells (madeCells #[.int .i64 0] p.vs.length) 3)=c:=⟨_,rfl⟩
          rw [hc] at hb3 hv hl3 ⊢
          clear hc
          have hB3:=hB2.trans (hb3.mono hB2.size)
          refine OrdU.bh hK (HSS.out _ hB3) (h:=fun hHeld=>?_)
          clear hK K'
          refine OrdU.one 14 (h:=fun K' hK=>?_)
          go_simp
          go_at_call 27
          with_reducible refine(HACT.out c3).mono ?_
          rintro e c4 ⟨vv,rfl,hmap,hmade,hb4⟩
          have hl4:=hmap.lt
          go_wp2_with fail
          have hB4:=hB3.trans (hb4.mono hB3.size)
          refine OrdU.bh hK (HSS.out _ hB4) (h:=fun hHeld=>?_)
          clear hK K'
          have hs1:=hb1.size
          have hs2:=hb2.size
          have hs3:=hb3.size
          have hs4:=hb4.size
          have hE4:=(below2 hb3 hb4)
          have hV4:=hb4
          have hA4:=(below2 (below2 hb2 hb3) hb4)
          have hM4:=(Below.refl c4.heap.size c4)
          obtain⟨K,κ,hg,hborn⟩:=HBORN.out c4 c1.heap.size c3.heap.size c4.heap.size c2.heap.size c0.heap.size vv hB4 (fun i hi=>(hE4.cell (p:=⟨c1.heap.size,i,none⟩) hl2).trans (hen i hi)) (map_move hmap (hM4.block _ hl4)) (fun t h1 h2=>(hmade.acts (C:=fun k=>c3.heap.size<k∧k<c4.heap.size) (fun k q r=>⟨q,r⟩) t h1 h2).keep (fun k q r=>hM4.block k r)) (own_of_block hv (fun i e=>hV4.block i (hv.lt i e).2)) (own_of_block ha (fun i e=>hA4.block i (ha.lt i e).2)) (by have:=hB0.size;omega)
          exact zMachPK0
        · go_simp
          go_at_call 27
          with_reducible refine(HACT.out c2).mono ?_
          rintro e c3 ⟨vv,rfl,hmap,hmade,hb3⟩
          have hl3:=hmap.lt
          go_wp2_with fail
          have hB3:=hB2.trans (hb3.mono hB2.size)
          refine OrdU.bh hK (HSS.out _ hB3) (h:=fun hHeld=>?_)
          clear hK K'
          refine OrdU.one 9 (h:=fun K' hK=>?_)
          go_simp
          obtain⟨hb4,hv,hl4⟩:=HV.out c3 hB3
          obtain⟨c4,hc⟩:∃ c,c3.alloc (.cells (madeCells #[.int .i64 0] p.vs.length) 3)=c:=⟨_,rfl⟩
          rw [hc] at hb4 hv hl4 ⊢
          clear hc
          have hB4:=hB3.trans (hb4.mono hB3.size)
          refine OrdU.bh hK (HSS.out _ hB4) (h:=fun hHeld=>?_)
          clear hK K'
          have hs1:=hb1.size
          have hs2:=hb2.size
          have hs3:=hb3.size
          have hs4:=hb4.size
          have hE4:=(below2 hb3 hb4)
          have hV4:=(Below.refl c4.heap.size c4)
          have hA4:=(below2 (below2 hb2 hb3) hb4)
          have hM4:=hb4
          obtain⟨K,κ,hg,hborn⟩:=HBORN.out c4 c1.heap.size c2.heap.size c3.heap.size c3.heap.size c0.heap.size vv hB4 (fun i hi=>(hE4.cell (p:=⟨c1.heap.size,i,none⟩) hl2).trans (hen i hi)) (map_move hmap (hM4.block _ hl3)) (fun t h1 h2=>(hmade.acts (C:=fun k=>c2.heap.size<k∧k<c3.heap.size) (fun k q r=>⟨q,r⟩) t h1 h2).keep (fun k q r=>hM4.block k r)) (own_of_block hv (fun i e=>hV4.block i (hv.lt i e).2)) (own_of_block ha (fun i e=>hA4.block i (ha.lt i e).2)) (by have:=hB0.size;omega)
          exact zMachPK0
      · go_simp
        obtain⟨hb2,hv,hl2⟩:=HV.out c1 hB1
        obtain⟨c2,hc⟩:∃ c,c1.alloc (.cells (madeCells #[.int .i64 0] p.vs.length) 3)=c:=⟨_,rfl⟩
        rw [hc] at hb2 hv hl2 ⊢
        clear hc
        have hB2:=hB1.trans (hb2.mono hB1.size)
        refine OrdU.bh hK (HSS.out _ hB2) (h:=fun hHeld=>?_)
        clear hK K'
        refine OrdU.one 4 (h:=fun K' hK=>?_)
        go_simp
        go_at_call 26
        with_reducible refine(HE.out c2 hB2).mono ?_
        rintro e c3 ⟨rfl,hl3,hen,hb3⟩
        go_wp2_with fail
        have hB3:=hB2.trans (hb3.mono hB2.size)
        refine OrdU.bh hK (HSS.out _ hB3) (h:=fun hHeld=>?_)
        clear hK K'
        refine OrdU.one 14 (h:=fun K' hK=>?_)
        go_simp
        go_at_call 27
        with_reducible refine(HACT.out c3).mono ?_
        rintro e c4 ⟨vv,rfl,hmap,hmade,hb4⟩
        have hl4:=hmap.lt
        go_wp2_with fail
        have hB4:=hB3.trans (hb4.mono hB3.size)
        refine OrdU.bh hK (HSS.out _ hB4) (h:=fun hHeld=>?_)
        clear hK K'
        have hs1:=hb1.size
        have hs2:=hb2.size
        have hs3:=hb3.size
        have hs4:=hb4.size
        have hE4:=hb4
        have hV4:=(below2 hb3 hb4)
        have hA4:=(below2 (below2 hb2 hb3) hb4)
        have hM4:=(Below.refl c4.heap.size c4)
        obtain⟨K,κ,hg,hborn⟩:=HBORN.out c4 c2.heap.size c3.heap.size c4.heap.size c1.heap.size c0.heap.size vv hB4 (fun i hi=>(hE4.cell (p:=⟨c2.heap.size,i,none⟩) hl3).trans (hen i hi)) (map_move hmap (hM4.block _ hl4)) (fun t h1 h2=>(hmade.acts (C:=fun k=>c3.heap.size<k∧k<c4.heap.size) (fun k q r=>⟨q,r⟩) t h1 h2).keep (fun k q r=>hM4.block k r)) (own_of_block hv (fun i e=>hV4.block i (hv.lt i e).2)) (own_of_block ha (fun i e=>hA4.block i (ha.lt i e).2)) (by have:=hB0.size;omega)
        exact zMachPK0
  case rest =>
    obtain⟨K,κ,rfl,hBn⟩:=hcut
    obtain⟨vb,hkv⟩:=hBn.kv
    obtain⟨ab,hka⟩:=hBn.ka
    have c7:wc.cell? ⟨K.g,7,none⟩=some (.slice (some ⟨vb,0,none⟩) p.vs.length p.vs.length):=(hBn.pm.cell 7).trans (congrArg some hkv)
    have HKB:=Lib.hid (And.intro hBn.kb (And.intro hBn.kp hBn.kf))
    have HKA:=Lib.hid hka
    have HIA:=Lib.hid (HA1.out.at hBn.below)
    have HBN:=Lib.hid hBn
    have HKV:=Lib.hid hkv
    clear hBn hkv hka
    go_wp2_with (first | (refine copy_args rfl _ _ rfl args rfl rfl HBN.out HKV.out HIA.out hle ?_;intro v2 w2 hM2;have b2:=HSS.out w2 (by obtain⟨_,_,_,-,-,-,-,-,-,-,q⟩:=hM2;exact q);obtain⟨b2a,b2b⟩:=b2;have HM2:=Lib.hid hM2;clear hM2) | fail)
    go_loopw [36] (fun i wr=>∃ k:Nat,k≤p.vs.length∧i=.int .i64 k∧Making p args F W1 K k wr) (fun i _=>p.vs.length-(intOf i).toNat)
    case atStart=>exact⟨0,by omega,rfl,HM2.out⟩
    case round =>
      obtain⟨k,hk,rfl,hM⟩:=hrel
      by_cases hlt:k<p.vs.length
      · obtain ⟨t, ht⟩ : ∃ t, p.vs[k]? = some t := ⟨_, List.getElem?_eq_getElem hlt⟩
        have hM0:=hM
        obtain⟨κ2,Y2,s2,hP,h1,h2,h3,h4,h5,h6,hB⟩:=hM0
        obtain⟨vd,hvd,-,d0⟩:=(HP1.out.at hB).vars k t ht
        have c8:wr.cell? ⟨K.g,8,none⟩=some (.slice (some ⟨ab,0,none⟩) p.vs.length p.vs.length):=(hP.cell 8).trans (congrArg some HKA.out)
        have hg0:0≤asz t:=by unfold asz;split<;>omega
        have hg1:asz t≤8:=by unfold asz;split<;>omega
        obtain⟨z,hz⟩:=Int.eq_ofNat_of_zero_le hg0
        have HZ:=Lib.hid (fun W=>show Calls Tryz.prog 28 #[.int .i64 t] W fun e w'=>e=.returned (.int .i64 (z:Int))∧w'=W from by rw [← hz];exact Size_any t W)
        have hmk3:∀ W:World,(Instr.makeSlice 22 (.int .i64 (z:Int)) (.int .i64 (z:Int))).run Tryz.prog W=.ok (.slice (some ⟨W.heap.size,0,none⟩) z z) (W.alloc (.cells (madeCells #[.int .i64 0] z) 3)):=fun W=>by
          have:=run_make (P:=Tryz.prog) W 22 3 ig _ Tryz.underlying22 hig hz0 .i64 .i64 (z:Int) (z:Int) (by omega) (by omega) (by rw [hz2];omega) (by omega)
          rw [hz1,Int.toNat_natCast,Nat.mul_one] at this
          exact this
        have hN:Making p args F W1 K k wr.drew:=⟨κ2,Y2,s2,hP.drew,h1,h2,h3,h4,h5,h6,hB.drew⟩
        have HN:=Lib.hid (hN.next HKB.out.1 HKA.out ht hz (by simp only [maxLen];omega))
        have hbA:Below wr.drew.heap.size wr.drew (wr.drew.alloc (.cells (madeCells #[.int .i64 0] z) 3)):=(Below.refl _ _).alloc (Nat.le_refl _) _
        have hC2:(fun w'=>w'.cell? ⟨K.g,8,none⟩=some (.slice (some ⟨ab,0,none⟩) p.vs.length p.vs.length)) wr.drew:=c8
        have hPA:=hP.drew.below hbA
        have hC3:(fun w'=>w'.cell? ⟨K.g,8,none⟩=some (.slice (some ⟨ab,0,none⟩) p.vs.length p.vs.length)) (wr.drew.alloc (.cells (madeCells #[.int .i64 0] z) 3)):=(hPA.cell 8).trans (congrArg some HKA.out)
        have hfz:∀ j,(wr.alloc (.cells (madeCells #[.int .i64 0] z) 3)).drew.frozen? ⟨ab,j,none⟩=false:=fun j=>by
          have:=hPA.ar
          rw [HKA.out,h4] at this
          exact World.ownsRow.frozenAt this j
        have hcl:(wr.alloc (.cells (madeCells #[.int .i64 0] z) 3)).drew.cell? ⟨ab,k,none⟩=some (.slice none 0 0):=by
          have:=hPA.ar
          rw [HKA.out,h4] at this
          refine(World.ownsRow.cellAt this k (by omega)).trans ?_
          unfold tcells
          rw [List.getElem?_map,h6 k (Nat.le_refl _) hlt];rfl
        have i1:(k:Int)<(p.vs.length:Int):=by omega
        have i2:(0:Int)≤(k:Int):=by omega
        rw [hvd]
        clear hP h1 h2 h3 h4 h5 h6 hB hPA hN hM hvd hg0 hg1 hz hbA ht
        go_wp2_with fail
        refine OrdU.wp_region_U 8 (fun w'=>w'.cell? ⟨K.g,8,none⟩=some (.slice (some ⟨ab,0,none⟩) p.vs.length p.vs.length)) (by kernel_rfl) hC2 (fun hHeld=>?_)
        refine OrdU.tk 0 (h:=?_)
        refine OrdU.tk 1 (h:=?_)
        refine OrdU.tk 2 (h:=?_)
        refine OrdU.tk 3 (h:=?_)
        refine OrdU.tk 4 (h:=?_)
        refine OrdU.tk 5 (h:=?_)
        refine OrdU.one 6 (h:=fun K' hK=>?_)
        go_simp
        go_at_call 28
        with_reducible refine(HZ.out _).mono ?_
        rintro e w9 ⟨rfl,hw9⟩
        obtain rfl:=hw9
        go_wp2_with fail
        refine OrdU.bh hK (hC2) (h:=fun hHeld=>?_)
        clear hK K'
        refine OrdU.one 7 (h:=fun K' hK=>?_)
        go_simp
        refine OrdU.bh hK (hC3) (h:=fun hHeld=>?_)
        clear hK K'
        refine OrdU.one 8 (h:=fun K' hK=>?_)
        go_simp
        refine OrdU.bk hK (h:=?_)
        clear hK K'
        refine OrdU.one 9 (h:=fun K' hK=>?_)
        go_simp
        refine OrdU.bk hK (h:=?_)
        clear hK K'
        refine OrdU.wpAnyU_done (by kernel_rfl) ?_ _
        go_wp2_with fail
        go_roundw
        case rel=>exact⟨k+1,by omega,by go_num,HN.out⟩
        case measure=>simp [intOf];omega
      · have hkn : k = p.vs.length := by omega
        have hlt2:decide ((k:Int)<(p.vs.length:Int))=false:=decide_eq_false (by omega)
        subst hkn
        obtain⟨κ2,Y2,hP⟩:=hM.all
        obtain⟨_,_,_,-,-,-,-,-,-,-,hB⟩:=hM
        have HF:=Lib.hid (show StartEnds p args F w (.returned (.pointer (some ⟨K.g,0,none⟩))) wr from⟨K,κ2,Y2,rfl,hP,HB1.out.trans (hB.mono HB1.out.size),by rw [HKB.out.1];exact HB1.out.size,HKB.out.2.1,HKB.out.2.2⟩)
        clear hP hB
        go_wp2_with fail
        go_ret
        exact HF.out
theorem least_ex(P:Nat→Prop):∃ m,∀ n,P n→P m∧m≤n:=by
 by_cases h:∃ n,P n
 ·obtain⟨n,hn⟩:=h
  induction n using Nat.strongRecOn with
  | _ n ih =>
   by_cases hk:∃ k,k<n∧P k
   ·obtain⟨k,hkn,hk⟩:=hk
    exact ih k hkn hk
   ·exact⟨n,fun k hk'=>⟨hn,Nat.le_of_not_lt fun z=>hk ⟨k,z,hk'⟩⟩⟩
 ·exact⟨0,fun n hn=>absurd ⟨n,hn⟩ h⟩
def Low(S:List Fr):Prop:=∀ f∈S,f.owed≤200
theorem low_enter{l:List Nd}{k:Nat}{c:Cfg}(h:Low c.2):Low (enterC l k c).2:=by
 unfold enterC
 split
 ·exact h
 ·intro f hf
  rcases List.mem_cons.1 hf with rfl | hf
  ·show owedN (l.getD k (0,0))≤200
   unfold owedN
   have:=(ar_le (l.getD k (0,0))).2
   split<;>omega
  ·exact h f hf
theorem low_tell{v:Int}{c:Cfg}(h:Low c.2):Low (tellC v c).2:=by
 obtain⟨s,S⟩:=c
 cases S with
 | nil=>exact h
 | cons f S =>
  intro g hg
  rcases List.mem_cons.1 hg with rfl | hg
  ·exact h f (List.mem_cons_self ..)
  ·exact h g (List.mem_cons_of_mem _ hg)
theorem low_step{l:List Nd}{c:Cfg}(h:Low c.2):Low (stepC l c).2:=by
  obtain⟨s,S⟩:=c
  cases S with
  | nil=>exact h
  | cons f S =>
    have hS:Low S:=fun g hg=>h g (List.mem_cons_of_mem _ hg)
    unfold stepC
    simp only
    split
    · unfold doC
      repeat' split
      all_goals first
        | exact low_enter (c:=(s,S)) hS
        | exact low_tell (c:=(s,S)) hS
        | (intro g hg
           rcases List.mem_cons.1 hg with rfl | hg
           · show 1≤200;omega
           · exact hS g hg)
        | (unfold semC
           split
           · exact hS
           · exact low_tell (c:=(_,S)) hS)
    · refine low_enter (c := (s, _ :: S)) fun g hg => ?_
      rcases List.mem_cons.1 hg with rfl | hg
      · show f.owed - 1 ≤ 200
        have:=h f (List.mem_cons_self ..)
        omega
      · exact hS g hg
theorem nil_nil(w:World):(binOp .neq 77 .nilFunc .nilFunc).run Tryz.prog w=.ok (.bool false) w:=by kernel_rfl
theorem stop_nil(k:Int)(w:World):(binOp .neq 77 (.func (.func 30) #[.int .i64 k] #[]) .nilFunc).run Tryz.prog w=.ok (.bool true) w:=by kernel_rfl
theorem result_nil(k:Int)(w:World):(binOp .neq 77 (.func (.func 97) #[.int .i64 k] #[]) .nilFunc).run Tryz.prog w=.ok (.bool true) w:=by kernel_rfl
section
variable {K:PK} {κ:Nat→Nat} {evv sv:Value} {Y:List ((Option Addr×Nat)×List Int)} {s:St} {S:List Fr} {W W':World}
theorem PM.far(h:PM K κ evv sv Y s S W){b:Nat}(hb:κ b=0)(hB:K.base≤b)(i:Nat)(v:Value):PM K κ evv sv Y s S (W.setCell ⟨b,i,none⟩ v) :=
 h.move (by simp) fun k q1 q2=>Below.heap_setCell _ _ _ _ fun z=>by
  obtain rfl:k=b:=by first | exact z | exact z.symm
  omega
def Way(K:PK)(κ:Nat→Nat)(W:World)(cE:Cfg)(n:Nat)(v:Value)(wr:World):Prop :=
 ∃ κ' evv' sv' Y' c,PM K κ' evv' sv' Y' c.1 c.2 wr∧Went κ κ' W wr∧Ender c.1 v∧Reach K.p.xs n c cE∧Sized K.F c∧Low c.2
def OutEnds(K:PK)(κ:Nat→Nat)(W:World)(sE:St)(e:Ending)(W':World):Prop :=
 e=.returned (.agg #[.int .i64 sE.kind,.int .i64 sE.value])∧∃ κ' evv' sv' Y' S',PM K κ' evv' sv' Y' sE S' W'∧Went κ κ' W W'
theorem outcome_any(h:PM K κ evv sv Y s [] W)(hL:Live K s [])(hk:IsNode K.p.xs 0){n:Nat}{cE:Cfg}(hR:Reach K.p.xs n (enterC K.p.xs 0 (s,[])) cE)(hE:cE.1.over=true):Calls Tryz.prog 13 #[.pointer (some ⟨K.g,0,none⟩)] W (OutEnds K κ W cE.1):=by
 have hb1:=(Below.refl W.heap.size W).alloc (Nat.le_refl _) (.cells #[.int .i64 0,.int .i64 0] 29)
 have bX:=Blk.new W 29 #[.int .i64 0,.int .i64 0]
 have h1:=h.below hb1
 have HEN:=Lib.hid (show Calls Tryz.prog 29 #[.pointer (some ⟨K.g,0,none⟩),.int .i64 0] _ (Turn K κ _ (enterC K.p.xs 0 (s,[]))) from enter_any16 h1 hL hk)
 have hκ:κ W.heap.size=0:=by
  by_cases z:κ W.heap.size=0
  ·exact z
  ·have:=(h.lab.lt _ z).2;omega
 have HX:=Lib.hid (fun(κ':Nat→Nat) W2 (q:Went κ κ' (W.alloc (.cells #[.int .i64 0,.int .i64 0] 29)) W2)=>show Blk W2 W.heap.size 29 #[.int .i64 0,.int .i64 0] from bX.kept q.kept (fun z=>z hκ))
 have HW1:=Lib.hid ((Went.refl κ W).below hb1)
 have HKW:=Lib.hid (And.intro hκ (And.intro h.cn.size (show W.heap.size<(W.alloc (.cells #[.int .i64 0,.int .i64 0] 29)).heap.size by simp)))
 have hz0:Sized K.F (s,([]:List Fr)):=⟨hL.few,hL.sum⟩
 have hsz:=sized_enter (l:=K.p.xs) hz0 0
 have hlow:Low (enterC K.p.xs 0 (s,([]:List Fr))).2:=low_enter (c:=(s,[])) fun f hf=>by cases hf
 have HTOP:=Lib.hid hL.top
 obtain⟨W1,hW1⟩:∃ W1,W.alloc (.cells #[.int .i64 0,.int .i64 0] 29)=W1:=⟨_,rfl⟩
 rw [hW1] at HEN HX HW1 HKW
 obtain⟨mu,hmu⟩:∃ mu:Value→World→Nat,∀ v wr n,Way K κ W1 cE n v wr→Way K κ W1 cE (mu v wr) v wr∧mu v wr≤n :=
  ⟨fun v wr=>Classical.choose (least_ex fun n=>Way K κ W1 cE n v wr),fun v wr=>Classical.choose_spec (least_ex fun n=>Way K κ W1 cE n v wr)⟩
 have HMU:=Lib.hid hmu
 have HS:=Lib.hid (And.intro hR (And.intro hsz (And.intro hlow hE)))
 clear h h1 hb1 bX hκ hz0 hsz hlow hR hE hmu hL hk
 have hn1:=nil_nil
 have hn2:=stop_nil
 have hn3:=result_nil
 go_enter Tryz.func13,Tryz.ntmps13
 go_wp2_with fail
 go_step3
 go_wp2_with (first | (go_at_call 29;(with_reducible refine HEN.out.mono ?_);rintro e w2 ⟨κ2,evv2,sv2,Y2,v,q1,q2,rfl,q3⟩;have HV:=Lib.hid (show Way K κ W1 cE n v w2 from⟨κ2,evv2,sv2,Y2,_,q1,q2,q3,HS.out.1,HS.out.2.1,HS.out.2.2.1⟩);clear q1 q2 q3) | fail)
 go_step3
 go_wp2_with fail
 go_loopw [3] (fun v wr=>∃ n,Way K κ W1 cE n v wr) (fun v wr=>mu v wr)
 case atStart=>exact⟨n,HV.out⟩
 case round =>
  obtain⟨n0,hw0⟩:=hrel
  obtain⟨hw1,-⟩:=HMU.out _ _ _ hw0
  obtain⟨N,hN⟩:∃ N,mu u3 wr=N:=⟨_,rfl⟩
  rw [hN] at hw1
  have HNN:=Lib.hid hN
  clear hw0 hN
  obtain⟨κ',evv',sv',Y',⟨s',S'⟩,hP,hwt,hEn,hRe,hSz,hLo⟩:=hw1
  rcases hEn with⟨ho,hv⟩ | ⟨ho,hv⟩
  ·subst hv
   simp only at ho
   cases N with
   | zero =>
    have e:(s',S')=cE:=hRe
    have:=HS.out.2.2.2
    rw [← e,ho] at this
    cases this
   | succ N =>
    obtain⟨⟨-,hsafe⟩,hRe⟩:=hRe
    have hSz2:=sized_step (l:=K.p.xs) hSz
    have hLo2:=low_step (l:=K.p.xs) hLo
    cases S' with
    | nil =>
     obtain⟨A,c,rfl⟩:=hP.bare
     have c10:wr.cell? ⟨K.g,10,none⟩=some (.slice A 0 c):=hP.cell 10
     have HR:=Lib.hid (show Way K κ W1 cE N (.func (.func 30) #[.int .i64 3] #[]) wr from
      ⟨κ',evv',_,Y',(s'.stop 3 0,[]),hP.stop 3 0,hwt,.inr ⟨stop_over _ _ _,.inl ⟨by show(s'.stop 3 0).value=0;rw [stop_no ho],by show _=Value.func _ #[.int .i64 (s'.stop 3 0).kind] #[];rw [stop_no ho]⟩⟩,hRe,hSz2,hLo2⟩)
     clear hP hwt hRe hSz hLo hSz2 hLo2 hsafe ho
     go_wp2_with fail
     go_roundw
     case rel=>exact⟨N,HR.out⟩
     case measure =>
      have:=(HMU.out _ _ _ HR.out).2
      have:=HNN.out
      omega
    | cons f S =>
     obtain⟨b,cap,rfl,-⟩:=hP.top
     have c10:wr.cell? ⟨K.g,10,none⟩=some (.slice (some ⟨b,0,none⟩) (S.length+1) cap):=hP.cell 10
     have e0:((S.length:Int)+1==0)=false:=by simp;omega
     have HT:=Lib.hid (turn_any hP ⟨ho,hSz.sum,HTOP.out,hSz.few⟩ hsafe (hLo f (List.mem_cons_self ..)))
     have HW:=Lib.hid hwt
     have HRE:=Lib.hid (And.intro hRe (And.intro hSz2 hLo2))
     clear hP hwt hRe hSz hLo hSz2 hLo2 hsafe ho
     go_wp2_with (first | (go_at_call 31;(with_reducible refine HT.out.mono ?_);rintro e w2 ⟨κ2,evv2,sv2,Y2,v,q1,q2,rfl,q3⟩;have HV2:=Lib.hid (show Way K κ W1 cE N v w2 from⟨κ2,evv2,sv2,Y2,_,q1,HW.out.trans q2,q3,HRE.out.1,HRE.out.2.1,HRE.out.2.2⟩);clear q1 q2 q3) | fail)
     go_roundw
     case rel=>exact⟨N,HV2.out⟩
     case measure =>
      have:=(HMU.out _ _ _ HV2.out).2
      have:=HNN.out
      omega
  ·have hN0:N=0:=by
    cases N with
    | zero=>rfl
    | succ N =>
     have:=hRe.1.1
     simp only at ho
     rw [ho] at this
     cases this
   subst hN0
   have e:(s',S')=cE:=hRe
   subst e
   have hk2:κ' W.heap.size=0:=by
    by_cases z:κ' W.heap.size=0
    ·exact z
    ·have:=hwt.new _ z
     have:=HKW.out
     omega
   have HP:=Lib.hid hP
   have HW:=Lib.hid (HW1.out.trans hwt)
   have HBX:=Lib.hid (HX.out _ _ hwt)
   clear hP hwt hRe hSz hLo ho HV HMU HNN
   simp only at hv
   unfold OutEnds
   simp only
   rcases hv with⟨h0,hv⟩ | ⟨h0,hv⟩
   ·subst hv
    have HST:=Lib.hid stop_any
    have HH:=Lib.hid h0
    clear h0
    go_wp2_with (first | (go_at_call 30;(with_reducible refine(HST.out _ _).mono ?_);rintro e w3 ⟨rfl,hb3⟩;have hbX:=HBX.out.below hb3 HBX.out.lt;obtain⟨z0,z1⟩:=hbX.two;have zf0:=hbX.frozen 0;have zf1:=hbX.frozen 1) | fail)
    rw [Exit.noGoto_ret]
    have s0:(w3.setCell ⟨W.heap.size,0,none⟩ (.int .i64 s'.kind)).cell? ⟨W.heap.size,0,none⟩=some (.int .i64 s'.kind):=(hbX.set 0 _).cell 0
    have s1:((w3.setCell ⟨W.heap.size,0,none⟩ (.int .i64 s'.kind)).setCell ⟨W.heap.size,1,none⟩ (.int .i64 0)).cell? ⟨W.heap.size,0,none⟩=some (.int .i64 s'.kind):=((hbX.set 0 _).set 1 _).cell 0
    have s2:((w3.setCell ⟨W.heap.size,0,none⟩ (.int .i64 s'.kind)).setCell ⟨W.heap.size,1,none⟩ (.int .i64 0)).cell? ⟨W.heap.size,1,none⟩=some (.int .i64 0):=((hbX.set 0 _).set 1 _).cell 1
    refine bodyPost_ret (v:=.agg #[.int .i64 s'.kind,.int .i64 0]) (by simp [results,Tryz.results13,go_sem,s0,s1,s2]) rfl ?_
    have hP2:=((HP.out.below hb3).far (b:=W.heap.size) hk2 HKW.out.2.1 0 (.int .i64 s'.kind)).far (b:=W.heap.size) hk2 HKW.out.2.1 1 (.int .i64 0)
    have hw2:=((HW.out.below hb3).setCell (a:=⟨W.heap.size,0,none⟩) (.inr (Nat.le_refl _)) (.int .i64 s'.kind)).setCell (a:=⟨W.heap.size,1,none⟩) (.inr (Nat.le_refl _)) (.int .i64 0)
    exact⟨by rw [HH.out],κ',evv',sv',Y',S',hP2,hw2⟩
   ·subst hv
    have HST:=Lib.hid result_any
    have HH:=Lib.hid h0
    clear h0
    go_wp2_with (first | (go_at_call 97;(with_reducible refine(HST.out _ _).mono ?_);rintro e w3 ⟨rfl,hb3⟩;have hbX:=HBX.out.below hb3 HBX.out.lt;obtain⟨z0,z1⟩:=hbX.two;have zf0:=hbX.frozen 0;have zf1:=hbX.frozen 1) | fail)
    rw [Exit.noGoto_ret]
    have s0:(w3.setCell ⟨W.heap.size,0,none⟩ (.int .i64 0)).cell? ⟨W.heap.size,0,none⟩=some (.int .i64 0):=(hbX.set 0 _).cell 0
    have s1:((w3.setCell ⟨W.heap.size,0,none⟩ (.int .i64 0)).setCell ⟨W.heap.size,1,none⟩ (.int .i64 s'.value)).cell? ⟨W.heap.size,0,none⟩=some (.int .i64 0):=((hbX.set 0 _).set 1 _).cell 0
    have s2:((w3.setCell ⟨W.heap.size,0,none⟩ (.int .i64 0)).setCell ⟨W.heap.size,1,none⟩ (.int .i64 s'.value)).cell? ⟨W.heap.size,1,none⟩=some (.int .i64 s'.value):=((hbX.set 0 _).set 1 _).cell 1
    refine bodyPost_ret (v:=.agg #[.int .i64 0,.int .i64 s'.value]) (by simp [results,Tryz.results13,go_sem,s0,s1,s2]) rfl ?_
    have hP2:=((HP.out.below hb3).far (b:=W.heap.size) hk2 HKW.out.2.1 0 (.int .i64 0)).far (b:=W.heap.size) hk2 HKW.out.2.1 1 (.int .i64 s'.value)
    have hw2:=((HW.out.below hb3).setCell (a:=⟨W.heap.size,0,none⟩) (.inr (Nat.le_refl _)) (.int .i64 0)).setCell (a:=⟨W.heap.size,1,none⟩) (.inr (Nat.le_refl _)) (.int .i64 s'.value)
    exact⟨by rw [HH.out],κ',evv',sv',Y',S',hP2,hw2⟩
end
theorem run_bad(p:Prg)(A:Option Addr)(c:Nat)(args:List Int)(f:Int)(w:World)(hp:p.Ok w)(hm:mcheck p.ps p.vs p.xs args.length f≠0) :
    Calls Tryz.prog 6 #[.agg #[.int .i64 p.ps,.slice p.A p.vs.length p.c,.slice p.B p.xs.length p.e],.slice A args.length c,.int .i64 f] w fun e w'=>e=.returned (.tuple #[Rn.zero.val,.int .i64 (mcheck p.ps p.vs p.xs args.length f)])∧Below w.heap.size w w':=by
  have hb0:Below w.heap.size w (w.alloc (.cells #[.int .i64 p.ps,.slice p.A p.vs.length p.c,.slice p.B p.xs.length p.e] 25)):=(Below.refl _ _).alloc (Nat.le_refl _) _
  have hb1:=hb0.alloc hb0.size (.cells #[.int .i64 0,.int .i64 0,.int .i64 0,.slice none 0 0] 32)
  have bX:=(Blk.new w 25 #[.int .i64 p.ps,.slice p.A p.vs.length p.c,.slice p.B p.xs.length p.e]).alloc (.cells #[.int .i64 0,.int .i64 0,.int .i64 0,.slice none 0 0] 32)
  have bR:=Blk.new (w.alloc (.cells #[.int .i64 p.ps,.slice p.A p.vs.length p.c,.slice p.B p.xs.length p.e] 25)) 32 #[.int .i64 0,.int .i64 0,.int .i64 0,.slice none 0 0]
  simp only [World.size_alloc] at bR
  obtain⟨x0,x1,x2⟩:=bX.three
  obtain⟨w1,hw1⟩:∃ w1,(w.alloc (.cells #[.int .i64 p.ps,.slice p.A p.vs.length p.c,.slice p.B p.xs.length p.e] 25)).alloc (.cells #[.int .i64 0,.int .i64 0,.int .i64 0,.slice none 0 0] 32)=w1:=⟨_,rfl⟩
  rw [hw1] at hb1 bX bR
  have HC:=Lib.hid (check_any p A c args.length f w1 (hp.at hb1))
  have HW:=Lib.hid hw1
  have HB:=Lib.hid hb1
  have HR:=Lib.hid (fun W (hb:Below w1.heap.size w1 W)=>bR.below hb bR.lt)
  generalize mcheck p.ps p.vs p.xs args.length f=E at *
  have e1:(E != 0)=true:=by simpa using hm
  clear hp hb0 hb1 bX bR hw1
  go_enter Tryz.func6,Tryz.ntmps6
  go_wp2_with (first
    | (go_at_call 11; rw [HW.out]; (with_reducible refine HC.out.mono ?_); rintro e w3 ⟨rfl, hb3⟩
       have bR3:=HR.out _ hb3
       have r0:=bR3.cell 0
       have r1:=bR3.cell 1
       have r2:=bR3.cell 2
       have r3:=bR3.cell 3
       have rf:=bR3.frozen)
    | fail)
  refine bodyPost_ret (v:=.tuple #[Rn.zero.val,.int .i64 E]) (by simp [results,Tryz.results6,go_sem,r0,r1,r2,r3,Rn.zero,Rn.val]) rfl ?_
  exact⟨rfl,((((HB.out.trans (hb3.mono HB.out.size)).setCell (p:=⟨w.heap.size+1,0,none⟩) (Nat.le_succ _) _).setCell (p:=⟨w.heap.size+1,1,none⟩) (Nat.le_succ _) _).setCell (p:=⟨w.heap.size+1,2,none⟩) (Nat.le_succ _) _).setCell (p:=⟨w.heap.size+1,3,none⟩) (Nat.le_succ _) _⟩
structure RunOut (w2:World) (s:St) (g:Nat) (A:Option Addr) (c:Nat) (w':World):Prop where
 below:Below w2.heap.size w2 w'
 g2:w2.heap.size≤g
 z0:w'.cell? ⟨g,0,none⟩=some (.int .i64 0)
 z1:w'.cell? ⟨g,1,none⟩=some (.int .i64 0)
 z2:w'.cell? ⟨g,2,none⟩=some (.int .i64 s.steps)
 z3:w'.cell? ⟨g,3,none⟩=some (.slice A s.ev.length c)
 fz:∀ j,w'.frozen? ⟨g,j,none⟩=false
 lt:g<w'.heap.size
 row:ERow w' w'.heap.size A s.ev
 cap:s.ev.length≤c
 none_:A=none→c=0
 far:∀ ad,A=some ad→w2.heap.size≤ad.block∧ad.block≠g
theorem runOut_of{p:Prg}{args:List Int}{F:Nat}{w2 w3 w4:World}{K:PK}{κ κ':Nat→Nat}{evv0 sv0 evv sv:Value}{Y0 Y:List ((Option Addr×Nat)×List Int)}{s0 s:St}{S0 S:List Fr}(h3:PM K κ evv0 sv0 Y0 s0 S0 w3)(hb3:Below w2.heap.size w2 w3)(hbase:w2.heap.size≤K.base)(h4:PM K κ' evv sv Y s S w4)(hw:Went κ κ' w3 w4) :
  ∃ A c,RunOut w2 s K.g A c w4:=by
 obtain⟨A,c,rfl,hc,hA,hE,hlo⟩:=own_events h4.er
 refine⟨A,c,hb3.trans (hw.kept.to_below hb3.size fun k q=>Nat.le_trans hbase (h3.lab.lt k q).1),Nat.le_trans hbase h4.glt.1,h4.cell 0,h4.cell 1,h4.cell 2,h4.cell 3,h4.blk.frozen,h4.glt.2,hE,hc,hA,fun ad e=>⟨Nat.le_trans hbase (hlo ad e),fun q=>?_⟩⟩
 subst e
 have h:=h4.lab.e ad.block rfl
 rw [q,h4.lab.g] at h
 cases h
theorem run_good(p:Prg)(A:Option Addr)(c:Nat)(args:List Int)(fn:Nat)(w:World)(hp:p.Ok w)(hA:IRow w w.heap.size A args)(hm:MRight p.ps p.vs p.xs args.length (fn:Int)) :
    Calls Tryz.prog 6 #[.agg #[.int .i64 p.ps,.slice p.A p.vs.length p.c,.slice p.B p.xs.length p.e],.slice A args.length c,.int .i64 (fn:Int)] w (REnds p.vs p.xs args fn w):=by
  have hb0:Below w.heap.size w (w.alloc (.cells #[.int .i64 p.ps,.slice p.A p.vs.length p.c,.slice p.B p.xs.length p.e] 25)):=(Below.refl _ _).alloc (Nat.le_refl _) _
  have hb1:=hb0.alloc hb0.size (.cells #[.int .i64 0,.int .i64 0,.int .i64 0,.slice none 0 0] 32)
  have bX:=(Blk.new w 25 #[.int .i64 p.ps,.slice p.A p.vs.length p.c,.slice p.B p.xs.length p.e]).alloc (.cells #[.int .i64 0,.int .i64 0,.int .i64 0,.slice none 0 0] 32)
  have bR:=Blk.new (w.alloc (.cells #[.int .i64 p.ps,.slice p.A p.vs.length p.c,.slice p.B p.xs.length p.e] 25)) 32 #[.int .i64 0,.int .i64 0,.int .i64 0,.slice none 0 0]
  simp only [World.size_alloc] at bR
  obtain⟨x0,x1,x2⟩:=bX.three
  obtain⟨w1,hw1⟩:∃ w1,(w.alloc (.cells #[.int .i64 p.ps,.slice p.A p.vs.length p.c,.slice p.B p.xs.length p.e] 25)).alloc (.cells #[.int .i64 0,.int .i64 0,.int .i64 0,.slice none 0 0] 32)=w1:=⟨_,rfl⟩
  rw [hw1] at hb1 bX bR
  have HC:=Lib.hid (check_any p A c args.length fn w1 (hp.at hb1))
  rw [mcheck_zero.2 hm] at HC
  have HW:=Lib.hid hw1
  have HB:=Lib.hid hb1
  have HX:=Lib.hid (fun W (hb:Below w1.heap.size w1 W)=>(bX.below hb bX.lt).three)
  have HR:=Lib.hid (fun W (hb:Below w1.heap.size w1 W)=>bR.below hb bR.lt)
  have HS:=Lib.hid (fun W (hb:Below w1.heap.size w1 W)=>start_any p A c args fn W ((hp.at hb1).at hb) ((hA.at hb1).at hb) hm)
  have hf1:fn≤10000:=by have:=hm.f1;omega
  obtain⟨nt,cE,hR1,hR2,hR3⟩:=run_comes (args:=args) hm
  rw [Int.toNat_natCast] at hR1 hR2
  have hn0:IsNode p.xs 0:=⟨_,by rw [List.drop_zero];exact hm.whole⟩
  have HO:=Lib.hid (fun(w2 w3:World) (K:PK) (κ:Nat→Nat) (Y:List ((Option Addr×Nat)×List Int)) (h:PM K κ (.slice none 0 0) (.slice none 0 0) Y (begin_ p.vs args fn) [] w3) (hb:Below w2.heap.size w2 w3) (hbase:w2.heap.size≤K.base) (hkp:K.p=p) (hkf:K.F=fn) =>
    show Calls Tryz.prog 13 #[.pointer (some ⟨K.g,0,none⟩)] w3 fun e w'=>e=.returned (.agg #[.int .i64 (mrun p.vs p.xs args fn).kind,.int .i64 (mrun p.vs p.xs args fn).value])∧∃ A c,RunOut w2 (mrun p.vs p.xs args fn) K.g A c w' from by
      refine(outcome_any h ⟨rfl,by rw [hkf];show 0+fn=fn;omega,by rw [hkf];exact hf1,Nat.le_refl _⟩ (by rw [hkp];exact hn0) (by rw [hkp];exact hR1) hR3).mono ?_
      rintro e w' ⟨he,κ',evv',sv',Y',S',h4,hw⟩
      rw [hR2] at he h4
      exact⟨he,runOut_of (p:=p) (args:=args) (F:=fn) h hb hbase h4 hw⟩)
  have hev:(mrun p.vs p.xs args fn).ev.length≤1000000:=by
    have h1:=few_mean p.xs 0 (begin_ p.vs args fn) rfl
    have h2:=(nice_mean p.xs 0).sum (begin_ p.vs args fn) rfl
    have h0:(mrun p.vs p.xs args fn).ev=(mean p.xs 0 (begin_ p.vs args fn)).1.ev:=(stop_steps _ 3 0).2.1
    rw [h0]
    have h3:(begin_ p.vs args fn).ev.length=0:=rfl
    have h4:(begin_ p.vs args fn).steps+(begin_ p.vs args fn).fuel=0+fn:=rfl
    omega
  unfold REnds
  generalize mrun p.vs p.xs args fn=s6 at *
  have HSZ:=Lib.hid hb1.size
  clear hp hA hb0 hb1 bX bR hw1 hm hR1 hR2 hR3 hn0 hf1
  go_enter Tryz.func6,Tryz.ntmps6
  go_wp2_with (first
    | (go_at_call 11; rw [HW.out]; (with_reducible refine HC.out.mono ?_); rintro e w2 ⟨rfl, hb2⟩
       obtain⟨y0,y1,y2⟩:=HX.out _ hb2)
    | (go_at_call 12; (with_reducible refine (HS.out _ hb2).mono ?_); rintro e w3 ⟨K, κ, Y, rfl, h3, hb3, hbase, hkp, hkf⟩
       have HOO:=Lib.hid (HO.out w2 w3 K κ Y h3 hb3 hbase hkp hkf)
       clear h3 hbase hkp hkf)
    | (go_at_call 13; (with_reducible refine HOO.out.mono ?_); rintro e w4 ⟨rfl, A', c', hO⟩
       have z0:=hO.z0
       have z1:=hO.z1
       have z2:=hO.z2
       have z3:=hO.z3
       have zf:=hO.fz
       have bR4:=HR.out _ (hb2.trans (hO.below.mono hb2.size))
       have r0:=bR4.cell 0
       have r1:=bR4.cell 1
       have r2:=bR4.cell 2
       have r3:=bR4.cell 3
       have rf:=bR4.frozen
       have hgne:K.g≠w.heap.size+1:=by have h1:=hO.g2;have h2:=(HR.out _ hb2).lt;omega
       have hglt:=hO.lt
       have HOH:=Lib.hid hO
       clear hO)
    | fail)
  have hO:=HOH.out
  obtain⟨w5,hw5⟩:∃ w5,(w4.setCell ⟨K.g,0,none⟩ (.int .i64 s6.kind)).setCell ⟨K.g,1,none⟩ (.int .i64 s6.value)=w5:=⟨_,rfl⟩
  have hB5:Below w.heap.size w w5:=by
    have h1:=((HB.out.trans (hb2.mono HB.out.size)).trans (hO.below.mono (Nat.le_trans HB.out.size hb2.size)))
    have h2:w.heap.size≤K.g:=Nat.le_trans (Nat.le_trans HB.out.size hb2.size) hO.g2
    rw [← hw5]
    exact(h1.setCell (p:=⟨K.g,0,none⟩) h2 _).setCell (p:=⟨K.g,1,none⟩) h2 _
  have hE5:ERow w5 w5.heap.size A' s6.ev:=by
    have h1:=((hO.row).far (g:=K.g) 0 (.int .i64 s6.kind) (fun ad e=>(hO.far ad e).2)).far (g:=K.g) 1 (.int .i64 s6.value) (fun ad e=>(hO.far ad e).2)
    rw [hw5] at h1
    have h2:w5.heap.size=w4.heap.size:=by rw [← hw5];simp
    rw [h2];exact h1
  have bR5:Blk w5 (w.heap.size+1) 32 #[.int .i64 0,.int .i64 0,.int .i64 0,.slice none 0 0]:=by
    rw [← hw5]
    exact(bR4.apart (p:=⟨K.g,0,none⟩) (fun e=>hgne e.symm) _).apart (p:=⟨K.g,1,none⟩) (fun e=>hgne e.symm) _
  have q0:=bR5.cell 0
  have q1:=bR5.cell 1
  have q2:=bR5.cell 2
  have q3:=bR5.cell 3
  rw [hw5]
  clear hw5
  refine bodyPost_ret (v:=.tuple #[.agg #[.int .i64 s6.kind,.int .i64 s6.value,.int .i64 s6.steps,.slice A' s6.ev.length c'],.int .i64 0]) (by simp [results,Tryz.results6,go_sem,q0,q1,q2,q3]) rfl ?_
  have hb7:=(((hB5.setCell (p:=⟨w.heap.size+1,0,none⟩) (Nat.le_succ _) (.int .i64 s6.kind)).setCell (p:=⟨w.heap.size+1,1,none⟩) (Nat.le_succ _) (.int .i64 s6.value)).setCell (p:=⟨w.heap.size+1,2,none⟩) (Nat.le_succ _) (.int .i64 s6.steps)).setCell (p:=⟨w.heap.size+1,3,none⟩) (Nat.le_succ _) (.slice A' s6.ev.length c')
  refine⟨hb7,A',c',rfl,?_,hO.cap,hO.none_,hev⟩
  have hlt2:=(HR.out _ hb2).lt
  have hne:∀ ad,A'=some ad→ad.block≠w.heap.size+1:=fun ad e=>by have:=(hO.far ad e).1;omega
  have h4:=(((hE5.far 0 (.int .i64 s6.kind) hne).far 1 (.int .i64 s6.value) hne).far 2 (.int .i64 s6.steps) hne).far 3 (.slice A' s6.ev.length c') hne
  intro i e hi
  obtain⟨ad,q1,q2,q3⟩:=h4 i e hi
  exact⟨ad,q1,by simpa using q2,q3⟩
end Go.Proofs.YtekogckmgkodfaaGreatDoor.Mach
