/-
  The reference of machine, walked: are runs alike.
  A run's state, in memory, as it is made: a variable more; an array more.
  The reference of machine, walked: a program is run.
  The reference of machine, walked: a program that may be run is run.
  What the functions of machine come to: the reference's, and what is asked of the package's.
-/
import Derived.Test.YtekogckmgkodfaaGreatDoorMachJ
import Derived.Deep.QuietTactic
import Derived.Laws.MakeOwn
import Derived.Deep.RegionLaw
import Derived.Deep.AppendLies
set_option linter.unusedVariables false
namespace Go.Proofs.YtekogckmgkodfaaGreatDoor
theorem zMachK0{P:Prop}(h:P:=by
  obtain rfl:W.heap.size=k:=Option.some.inj (z.symm.trans q)
  refine .inr ⟨rfl,?_⟩
  by_cases c:κ W.heap.size=0
  ·exact c
  ·have:=(h.lab.lt _ c).2;omega):P:=h
end Go.Proofs.YtekogckmgkodfaaGreatDoor
namespace Go.Proofs.YtekogckmgkodfaaGreatDoor.Mach
open Go.RowKit Mem Arena Kinds Path Cat Suite
attribute [local go_sem ↓] Go.wp_at_zero Go.wp_at_succ
end Go.Proofs.YtekogckmgkodfaaGreatDoor.Mach
namespace Go.Proofs.YtekogckmgkodfaaGreatDoor.Mach
open Go.RowKit Mem Arena Kinds Path Cat Suite
def relabN(n:Nat)(κ:Nat→Nat)(v:Value)(k:Nat):Nat:=if v.ownBlock=some k then n else if κ k=n then 0 else κ k
section
variable {T:TypeId} {base g:Nat} {κ:Nat→Nat} {p:Prg} {vv av evv:Value} {Y:List ((Option Addr×Nat)×List Int)} {s:St} {W W':World}
theorem SM.push_v(h:SM T base g κ p vv av evv Y s W){vv':Value}{x:Int}(hg:W.grownBy W' vv.ownBlock)(hO:W'.ownsRow base 3 1 vv' (s.vals++[x]).length (icells (s.vals++[x])))(hat:vv'.ownBlock=vv.ownBlock∨vv'.ownBlock=some W.heap.size) :
  SM T base g (relabN 2 κ vv') p vv' av evv Y { s with vals:=s.vals++[x] } (W'.setCell ⟨g,3,Option.none⟩ vv'):=by
 have hnew:∀ k,vv'.ownBlock=some k→κ k=2∨(k=W.heap.size∧κ k=0):=fun k q=>by
  rcases hat with z | z
  ·exact .inl (h.lab.v k (z▸q))
  ·exact zMachK0
 have hre:∀ k,κ k≠0→κ k≠2→relabN 2 κ vv' k=κ k:=fun k q1 q2=>by
  unfold relabN
  rw [if_neg (fun z=>by rcases hnew k z with c | ⟨-,c⟩<;>omega),if_neg q2]
 have hW:∀ k,κ k≠0→κ k≠2→W'.heap[k]? = W.heap[k]? := fun k q1 q2=>hg.block k (h.lab.lt k q1).2 fun z=>q2 (h.lab.v k z.symm)
 have hb:∀ k,k≠g→(W'.setCell ⟨g,3,Option.none⟩ vv').heap[k]? = W'.heap[k]? := fun k q=>Below.heap_setCell _ _ _ _ fun z=>q (by first | exact z | exact z.symm)
 have hng:∀ k,κ k≠1→k≠g:=fun k q z=>q (by rw [z];exact h.lab.g)
 have hall:∀ k,κ k≠0→κ k≠1→κ k≠2→(W'.setCell ⟨g,3,Option.none⟩ vv').heap[k]? = W.heap[k]? := fun k q1 q2 q3=>(hb k (hng k q2)).trans (hW k q1 q3)
 have hsz:W.heap.size≤(W'.setCell ⟨g,3,Option.none⟩ vv').heap.size:=by have:=hg.size;simpa using this
 have hB:Blk W' g T (stcells p vv av evv s):=(hW g (by rw [h.lab.g];decide) (by rw [h.lab.g];decide)).trans h.blk
 exact {
  lab:={
   g:=by rw [hre g (by rw [h.lab.g];decide) (by rw [h.lab.g];decide)];exact h.lab.g
   v:=fun k e=>by unfold relabN;rw [if_pos e]
   a:=fun k e=>by have:=h.lab.a k e;rw [hre k (by omega) (by omega)];exact this
   e:=fun k e=>by have:=h.lab.e k e;rw [hre k (by omega) (by omega)];exact this
   y:=fun i y k q e=>by have:=h.lab.y i y k q e;rw [hre k (by omega) (by omega)];exact this
   lt:=fun k q=>by
    unfold relabN at q
    split at q
    ·next z =>
     have:=hO.lt k z
     exact⟨this.1,by simpa using this.2⟩
    ·split at q
     ·exact absurd rfl q
     ·exact⟨(h.lab.lt k q).1,Nat.lt_of_lt_of_le (h.lab.lt k q).2 hsz⟩ }
  blk:=hB.set 3 vv'
  vr:=own_of_block hO fun k e=>hb k (fun z=>by
    have a:=h.lab.g
    rw [← z] at a
    rcases hnew k e with c | ⟨-,c⟩<;>omega)
  ar:=own_of_block h.ar fun k e=>by have:=h.lab.a k e;exact hall k (by omega) (by omega) (by omega)
  hY:=h.hY
  yr:=fun i y q=>own_of_block (h.yr i y q) fun k e=>by have:=h.lab.y i y k q e;exact hall k (by omega) (by omega) (by omega)
  er:=own_of_block h.er fun k e=>by have:=h.lab.e k e;exact hall k (by omega) (by omega) (by omega) }
def relabA(n:Nat)(κ:Nat→Nat)(av':Value)(b k:Nat):Nat:=if b=k then 5+n else relabN 3 κ av' k
theorem SM.push_a(h:SM T base g κ p vv av evv Y s W){av':Value}{b:Nat}{L:List Int}(hbn:κ b=0)(hbW:b<W.heap.size)(hbb:base≤b)(hL:W.ownsRow base 3 1 (.slice (some ⟨b,0,Option.none⟩) L.length L.length) L.length (icells L))
    (hg:W.grownBy W' av.ownBlock) (hO:W'.ownsRow base 22 1 av' (s.arrs++[L]).length (tcells (Y++[((some ⟨b,0,Option.none⟩,L.length),L)]))) (hat:av'.ownBlock=av.ownBlock∨av'.ownBlock=some W.heap.size) :
    SM T base g (relabA Y.length κ av' b) p vv av' evv (Y++[((some ⟨b,0,Option.none⟩,L.length),L)]) { s with arrs:=s.arrs++[L] } (W'.setCell ⟨g,4,Option.none⟩ av'):=by
  have hnew:∀ k,av'.ownBlock=some k→κ k=3∨(k=W.heap.size∧κ k=0):=fun k q=>by
    rcases hat with z | z
    · exact .inl (h.lab.a k (z▸q))
    · exact zMachK0
  have hre:∀ k,κ k≠0→κ k≠3→relabA Y.length κ av' b k=κ k:=fun k q1 q2=>by
    unfold relabA relabN
    rw [if_neg (fun z=>q1 (by rw [← z];exact hbn)),if_neg (fun z=>by rcases hnew k z with c | ⟨-,c⟩<;>omega),if_neg q2]
  have hW:∀ k,k<W.heap.size→κ k≠3→W'.heap[k]? = W.heap[k]? := fun k q1 q2=>hg.block k q1 fun z=>q2 (h.lab.a k z.symm)
  have hb:∀ k,k≠g→(W'.setCell ⟨g,4,Option.none⟩ av').heap[k]? = W'.heap[k]? := fun k q=>Below.heap_setCell _ _ _ _ fun z=>q (by first | exact z | exact z.symm)
  have hng:∀ k,κ k≠1→k≠g:=fun k q z=>q (by rw [z];exact h.lab.g)
  have hall:∀ k,κ k≠0→κ k≠1→κ k≠3→(W'.setCell ⟨g,4,Option.none⟩ av').heap[k]? = W.heap[k]? := fun k q1 q2 q3=>(hb k (hng k q2)).trans (hW k (h.lab.lt k q1).2 q3)
  have hsz:W.heap.size≤(W'.setCell ⟨g,4,Option.none⟩ av').heap.size:=by have:=hg.size;simpa using this
  have hB:Blk W' g T (stcells p vv av evv s):=(hW g h.glt.2 (by rw [h.lab.g];decide)).trans h.blk
  have hat2:∀ m z,(Y++[((some ⟨b,0,Option.none⟩,L.length),L)])[m]? = some z→Y[m]? = some z∨(m=Y.length∧z=((some ⟨b,0,Option.none⟩,L.length),L)):=fun m z q=>by
    rcases Nat.lt_or_ge m Y.length with c | c
    · rw [List.getElem?_append_left c] at q;exact .inl q
    · rw [List.getElem?_append_right c] at q
      have hm:m-Y.length=0:=by
        have:=(List.getElem?_eq_some_iff.1 q).1
        simpa using this
      rw [hm] at q
      exact .inr ⟨by omega,by simpa using q.symm⟩
  exact {
    lab:={
      g:=by rw [hre g (by rw [h.lab.g];decide) (by rw [h.lab.g];decide)];exact h.lab.g
      v:=fun k e=>by have:=h.lab.v k e;rw [hre k (by omega) (by omega)];exact this
      a := fun k e => by
        unfold relabA relabN
        rw [if_neg (fun z => by rcases hnew k e with c | ⟨c, -⟩
                                · rw [← z,hbn] at c;omega
                                · omega),if_pos e]
      e:=fun k e=>by have:=h.lab.e k e;rw [hre k (by omega) (by omega)];exact this
      y := fun i y k q e => by
        rcases hat2 i y q with q | ⟨rfl,rfl⟩
        · have:=h.lab.y i y k q e;rw [hre k (by omega) (by omega)];exact this
        · obtain rfl : b = k := Option.some.inj e
          unfold relabA
          rw [if_pos rfl]
      lt:=fun k q=>by
        unfold relabA at q
        split at q
        · next z=>subst z;exact⟨hbb,Nat.lt_of_lt_of_le hbW hsz⟩
        · unfold relabN at q
          split at q
          · next z =>
            have:=hO.lt k z
            exact⟨this.1,by simpa using this.2⟩
          · split at q
            · exact absurd rfl q
            · exact⟨(h.lab.lt k q).1,Nat.lt_of_lt_of_le (h.lab.lt k q).2 hsz⟩ }
    blk:=hB.set 4 av'
    vr:=own_of_block h.vr fun k e=>by have:=h.lab.v k e;exact hall k (by omega) (by omega) (by omega)
    ar:=own_of_block hO fun k e=>hb k (fun z=>by
        have a:=h.lab.g
        rw [← z] at a
        rcases hnew k e with c | ⟨-,c⟩<;>omega)
    hY:=by rw [List.map_append,h.hY];rfl
    yr:=fun i y q=>by
      rcases hat2 i y q with q | ⟨rfl,rfl⟩
      · exact own_of_block (h.yr i y q) fun k e=>by have:=h.lab.y i y k q e;exact hall k (by omega) (by omega) (by omega)
      · refine own_of_block hL fun k e => ?_
        obtain rfl:b=k:=Option.some.inj e
        exact(hb b (hng b (by omega))).trans (hW b hbW (by omega))
    er:=own_of_block h.er fun k e=>by have:=h.lab.e k e;exact hall k (by omega) (by omega) (by omega) }
end
end Go.Proofs.YtekogckmgkodfaaGreatDoor.Mach
namespace Go.Proofs.YtekogckmgkodfaaGreatDoor.Mach
open Go.RowKit Mem Arena Kinds Path Cat Suite
attribute [local go_sem ↓] Go.wp_at_zero Go.wp_at_succ
def part_(vs args:List Int)(f k:Nat):St:={ begin_ vs args f with vals:=(begin_ vs args f).vals.take k,arrs:=(begin_ vs args f).arrs.take k }
theorem part_zero(vs args:List Int)(f:Nat):part_ vs args f 0=⟨[],[],f,0,[],0,0,false⟩:=rfl
theorem part_all(vs args:List Int)(f:Nat):part_ vs args f vs.length=begin_ vs args f:=by
 unfold part_
 rw [List.take_of_length_le (by unfold begin_;simp),List.take_of_length_le (by unfold begin_;simp)]
theorem part_succ(vs args:List Int)(f:Nat){k:Nat}{t:Int}(h:vs[k]? = some t):part_ vs args f (k+1)={ { part_ vs args f k with vals:=(part_ vs args f k).vals++[args.getD k 0] } with arrs:=(part_ vs args f k).arrs++[List.replicate (asz t).toNat 0] }:=by
 have hk:=(List.getElem?_eq_some_iff.1 h).1
 unfold part_
 have h1:(begin_ vs args f).vals[k]? = some (args.getD k 0):=by
  unfold begin_
  simp only
  rw [List.getElem?_map,List.getElem?_range hk];rfl
 have h2:(begin_ vs args f).arrs[k]? = some (List.replicate (asz t).toNat 0):=by
  unfold begin_
  simp only
  rw [List.getElem?_map,h];rfl
 rw [take_one h1,take_one h2]
theorem part_len(vs args:List Int)(f:Nat){k:Nat}(h:k≤vs.length):(part_ vs args f k).vals.length=k∧(part_ vs args f k).arrs.length=k:=by
 unfold part_ begin_
 simp only [List.length_take,List.length_map,List.length_range]
 omega
theorem SM.new(T:TypeId)(p:Prg)(f:Nat)(w:World):SM T w.heap.size w.heap.size (fun k=>if k=w.heap.size then 1 else 0) p (.slice Option.none 0 0) (.slice Option.none 0 0) (.slice Option.none 0 0) [] ⟨[],[],f,0,[],0,0,false⟩ (w.alloc (.cells (stcells p (.slice Option.none 0 0) (.slice Option.none 0 0) (.slice Option.none 0 0) ⟨[],[],f,0,[],0,0,false⟩) T)) where
 lab:={
  g:=if_pos rfl
  v:=fun k e=>by cases e
  a:=fun k e=>by cases e
  e:=fun k e=>by cases e
  y:=fun i y k q e=>by simp at q
  lt:=fun k q=>by
   by_cases z:k=w.heap.size
   ·subst z;simp
   ·rw [if_neg z] at q;exact absurd rfl q }
 blk:=Blk.new _ _ _
 vr:=World.ownsRow_nil _ _ _ _
 ar:=World.ownsRow_nil _ _ _ _
 hY:=rfl
 yr:=fun i y q=>by simp at q
 er:=World.ownsRow_nil _ _ _ _
section
variable {T:TypeId} {base g:Nat} {κ:Nat→Nat} {p:Prg} {vv evv:Value} {Y:List ((Option Addr×Nat)×List Int)} {s:St}
theorem SM.push_arr{A0:Option Addr}{n c0:Nat}{w9:World}(h:SM T base g κ p vv (.slice A0 n c0) evv Y s w9)(hn:s.arrs.length=n){z gg cap:Nat}{w10:World}
    (hown:w10.ownsRow base 22 1 (.slice (some ⟨gg,0,Option.none⟩) (n+1) cap) (n+1) (tcells Y++[.slice (some ⟨w9.heap.size,0,Option.none⟩) z z]))
    (hgr:((w9.alloc (.cells (madeCells #[.int .i64 0] z) 3)).alloc (.cells #[.slice (some ⟨w9.heap.size,0,Option.none⟩) z z] 22)).grownBy w10 (Value.slice A0 n c0).ownBlock)
    (hat:(Value.slice A0 n c0).ownBlock=some gg∨gg=w9.heap.size+2) (hz:z≤maxLen) :
    ∃ κ' Y',SM T base g κ' p vv (.slice (some ⟨gg,0,Option.none⟩) (n+1) cap) evv Y' { s with arrs:=s.arrs++[List.replicate z 0] } (w10.setCell ⟨g,4,Option.none⟩ (.slice (some ⟨gg,0,Option.none⟩) (n+1) cap)):=by
  have hbw:base≤w9.heap.size:=by have:=h.glt;omega
  have hz0:κ w9.heap.size=0:=by
    by_cases c:κ w9.heap.size=0
    · exact c
    · have:=(h.lab.lt _ c).2;omega
  have hb1:Below w9.heap.size w9 (w9.alloc (.cells (madeCells #[.int .i64 0] z) 3)):=(Below.refl _ _).alloc (Nat.le_refl _) _
  have hb2:Below (w9.alloc (.cells (madeCells #[.int .i64 0] z) 3)).heap.size (w9.alloc (.cells (madeCells #[.int .i64 0] z) 3)) ((w9.alloc (.cells (madeCells #[.int .i64 0] z) 3)).alloc (.cells #[.slice (some ⟨w9.heap.size,0,Option.none⟩) z z] 22)):=(Below.refl _ _).alloc (Nat.le_refl _) _
  have hSa:=(h.below hb1).below hb2
  have hL:=World.ownsRow_lit (e:=3) (size:=1) (base:=base) w9 (madeCells #[.int .i64 0] z) z hbw hz (by rw [size_madeCells,Nat.mul_one])
  rw [toList_madeCells_one] at hL
  have hL2:=hL.alloc (.cells #[.slice (some ⟨w9.heap.size,0,Option.none⟩) z z] 22)
  have hlen:(List.replicate z (0:Int)).length=z:=List.length_replicate
  have e1:tcells (Y++[((some ⟨w9.heap.size,0,Option.none⟩,(List.replicate z (0:Int)).length),List.replicate z 0)])=tcells Y++[.slice (some ⟨w9.heap.size,0,Option.none⟩) z z]:=by
    rw [tcells_snoc];simp [hlen]
  have:=hSa.push_a (b:=w9.heap.size) (L:=List.replicate z 0) (av':=.slice (some ⟨gg,0,Option.none⟩) (n+1) cap) hz0 (by simp;omega) hbw
    (by rw [hlen];simpa [icells] using hL2) hgr (by rw [e1,List.length_append,hn];exact hown)
    (by rcases hat with q | q
        · exact .inl q.symm
        · right;show some gg=some _;rw [q];simp)
  exact⟨_,_,this⟩
end
theorem ERow.far{w:World}{B:Nat}{A:Option Addr}{l:List (Int×Int×Int)}{g:Nat}(h:ERow w B A l)(i:Nat)(v:Value)(hA:∀ ad,A=some ad→ad.block≠g):ERow (w.setCell ⟨g,i,none⟩ v) B A l:=by
 intro j x hx
 obtain⟨ad,e,hlt,q,q1,q2⟩:=h j x hx
 have hk:∀ a:Addr,a.block=ad.block→(w.setCell ⟨g,i,none⟩ v).cell? a=w.cell? a:=fun a ha=>World.cell?_of_block (Below.heap_setCell _ _ _ _ (by rw [ha];exact hA ad e))
 exact⟨ad,e,hlt,(hk _ (add_blockN _ _)).trans q,(hk ⟨(ad.add (j*3)).block,(ad.add (j*3)).off+1,Option.none⟩ (add_blockN _ _)).trans q1,(hk ⟨(ad.add (j*3)).block,(ad.add (j*3)).off+2,Option.none⟩ (add_blockN _ _)).trans q2⟩
def REnds(vs:List Int)(xs:List Nd)(args:List Int)(f:Nat)(w:World)(e:Ending)(w':World):Prop :=
 Below w.heap.size w w'∧∃ A c,e=.returned (.tuple #[(Rn.mk (mrun vs xs args f).kind (mrun vs xs args f).value (mrun vs xs args f).steps A c (mrun vs xs args f).ev).val,.int .i64 0])∧(Rn.mk (mrun vs xs args f).kind (mrun vs xs args f).value (mrun vs xs args f).steps A c (mrun vs xs args f).ev).Ok w'
end Go.Proofs.YtekogckmgkodfaaGreatDoor.Mach
namespace Go.Proofs.YtekogckmgkodfaaGreatDoor.Mach
open Go.RowKit Mem Arena Kinds Path Cat Suite Delta
def rrun(ps:Int)(vs:List Int)(xs:List Nd)(args:List Int)(f:Int):St :=
 if mcheck ps vs xs args.length f=0 then mrun vs xs args f.toNat else⟨[],[],0,0,[],0,0,false⟩
def rn(A:Option Addr)(c:Nat)(s:St):Rn:=⟨s.kind,s.value,s.steps,A,c,s.ev⟩
def RunEnds(p:Prg)(args:List Int)(f:Int)(w:World)(e:Ending)(w':World):Prop :=
 Below w.heap.size w w'∧∃ A c,e=.returned (.tuple #[(rn A c (rrun p.ps p.vs p.xs args f)).val,.int .i64 (mcheck p.ps p.vs p.xs args.length f)])∧(rn A c (rrun p.ps p.vs p.xs args f)).Ok w'
structure MPkg:Prop where
 check:∀ (p:Prg) (A:Option Addr) (c:Nat) (args:List Int) (f:Int) (w:World),p.Ok w→IRow w w.heap.size A args→args.length≤c→(A=none→c=0)→args.length≤1000000→N64 f →
  Calls Tryz.prog 11 #[.agg #[.int .i64 p.ps,.slice p.A p.vs.length p.c,.slice p.B p.xs.length p.e],.slice A args.length c,.int .i64 f] w fun e w'=>e=.returned (.int .i64 (mcheck p.ps p.vs p.xs args.length f))∧Below w.heap.size w w'
 run:∀ (p:Prg) (A:Option Addr) (c:Nat) (args:List Int) (f:Int) (w:World),p.Ok w→IRow w w.heap.size A args→args.length≤c→(A=none→c=0)→args.length≤1000000→N64 f →
  Calls Tryz.prog 6 #[.agg #[.int .i64 p.ps,.slice p.A p.vs.length p.c,.slice p.B p.xs.length p.e],.slice A args.length c,.int .i64 f] w (RunEnds p args f w)
theorem rrun_ok{ps:Int}{vs:List Int}{xs:List Nd}{args:List Int}{f:Int}(h:mcheck ps vs xs args.length f=0):rrun ps vs xs args f=mrun vs xs args f.toNat:=if_pos h
theorem mcheck_fuel{ps:Int}{vs:List Int}{xs:List Nd}{al:Nat}{f f':Int}(h:(f<0∨10000<f)↔(f'<0∨10000<f')):mcheck ps vs xs al f=mcheck ps vs xs al f':=by
 unfold mcheck
 simp only [h]
theorem rrun_fuel(ps:Int)(vs:List Int)(xs:List Nd)(args:List Int){f d:Int}(h0:0≤d)(h:mcheck ps vs xs args.length f=0)(h':mcheck ps vs xs args.length (f+d)=0) :
  ((rrun ps vs xs args f).steps:Int)≤f∧(rrun ps vs xs args f).steps≤(rrun ps vs xs args (f+d)).steps∧(rrun ps vs xs args f).ev <+: (rrun ps vs xs args (f+d)).ev ∧
  ((rrun ps vs xs args f).kind≠4→Alike (rrun ps vs xs args f) (rrun ps vs xs args (f+d))) ∧
  ((rrun ps vs xs args f).kind=4→((rrun ps vs xs args f).steps:Int)=f∧(d=0∨(rrun ps vs xs args f).steps<(rrun ps vs xs args (f+d)).steps)):=by
 have hf:=(mcheck_zero.1 h).f0
 obtain⟨n,rfl⟩:=Int.eq_ofNat_of_zero_le hf
 obtain⟨m,rfl⟩:=Int.eq_ofNat_of_zero_le h0
 rw [rrun_ok h,rrun_ok h',Int.toNat_natCast,show((n:Int)+(m:Int)).toNat=n+m by omega]
 obtain⟨m1,m2,m3,m4⟩:=run_more vs xs args n m
 have hs:=run_steps vs xs args n
 have ho:=(run_out vs xs args n).2.2.2
 exact⟨by omega,m1,m2,m3,fun q=>⟨by have:=ho q;omega,(m4 q).imp (fun z=>by omega) id⟩⟩
end Go.Proofs.YtekogckmgkodfaaGreatDoor.Mach
