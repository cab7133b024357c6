/-
  The laws of layer 16, walked on what the package's functions come to: what a program does is just what the document says.
  The document's examples, plain: two programs, run.
  The examples' programs in memory, and what they come to.
-/
import Derived.Test.YtekogckmgkodfaaGreatDoorMachK
set_option linter.unusedVariables false
set_option linter.unusedSimpArgs false
namespace Go.Proofs.YtekogckmgkodfaaGreatDoor
theorem zMachN0{P:Prop}(h:P:=by
  rw [rrun_ok (x5_right rfl (by decide) (by decide))]
  unfold mrun
  rw [mean_whole x5w]
  decide +kernel):P:=h
end Go.Proofs.YtekogckmgkodfaaGreatDoor
namespace Go.Proofs.YtekogckmgkodfaaGreatDoor.Mach
open Go.RowKit Mem Arena Kinds Path Cat Suite Delta
attribute [local go_sem ↓] Go.wp_at_zero Go.wp_at_succ
def mfew(p:Prg)(al:Nat)(f:Int):Bool:=(decide (p.xs.length≤60) && decide (p.vs.length≤20)) && (decide (al≤40) && (decide (f≤400) || decide (10000<f)))
theorem mfew_ok{p:Prg}{al:Nat}{f:Int}(h:mfew p al f=true):p.vs.length≤20∧p.xs.length≤60∧al≤40∧(f≤400∨10000<f):=by
 unfold mfew at h
 rw [Bool.and_eq_true,Bool.and_eq_true,Bool.and_eq_true,Bool.or_eq_true] at h
 simp only [decide_eq_true_eq] at h
 exact⟨h.1.2,h.1.1,h.2.1,h.2.2⟩
def RunEnds'(p:Prg)(args:List Int)(f:Int)(s:St)(E:Int)(w:World)(e:Ending)(w':World):Prop :=
 Below w.heap.size w w'∧∃ A c,e=.returned (.tuple #[.agg #[.int .i64 s.kind,.int .i64 s.value,.int .i64 s.steps,.slice A s.ev.length c],.int .i64 E])∧(rn A c s).Ok w'
theorem RunEnds.open(p:Prg)(args:List Int)(f:Int)(w:World)(e:Ending)(w':World)(h:RunEnds p args f w e w'):RunEnds' p args f (rrun p.ps p.vs p.xs args f) (mcheck p.ps p.vs p.xs args.length f) w e w':=h
theorem blk4{W:World}{g:Nat}{t:TypeId}{a b c d:Value}(h:Blk W g t #[a,b,c,d]):W.cell? ⟨g,0,none⟩=some a∧W.cell? ⟨g,1,none⟩=some b∧W.cell? ⟨g,2,none⟩=some c∧W.cell? ⟨g,3,none⟩=some d:=⟨h.cell 0,h.cell 1,h.cell 2,h.cell 3⟩
end Go.Proofs.YtekogckmgkodfaaGreatDoor.Mach
namespace Go.Proofs.YtekogckmgkodfaaGreatDoor.Mach
open Arena Kinds
def X5:List Nd:=[(20,1),(25,0),(7,0),(3,0),(1,1)]
def X3:List Nd:=[(20,1),(21,0),(1,7)]
theorem x5w:scan 1 X5=some X5.length:=by simp [X5,scan_cons,scan_0,ar,asks]
theorem x3w:scan 1 X3=some X3.length:=by simp [X3,scan_cons,scan_0,ar,asks]
theorem okind_whole'{vs:List Int}{l:List Nd}(h:scan 1 l=some l.length):okind vs l 0=((fold (kd vs) l).headD (-1,0)).1:=by unfold okind val;rw [whole_part h]
theorem mean_whole{l:List Nd}(h:scan 1 l=some l.length):mean l 0=(fold nodeM l).headD (pureM 0):=by unfold mean val;rw [whole_part h]
theorem x5k:okind [0] X5 0=2:=by rw [okind_whole' x5w];decide +kernel
theorem x3k:okind [0] X3 0=2:=by rw [okind_whole' x3w];decide +kernel
theorem x5_right{al:Nat}{f:Int}(ha:(al:Int)=1)(h0:0≤f)(h1:f≤10000):mcheck 1 [0] X5 al f=0:=mcheck_zero.2 ⟨by decide +kernel,x5w,by decide,x5k,ha,h0,h1⟩
theorem x3_right{f:Int}(h0:0≤f)(h1:f≤10000):mcheck 0 [0] X3 0 f=0:=mcheck_zero.2 ⟨by decide +kernel,x3w,by decide,x3k,rfl,h0,h1⟩
theorem x5_none:mcheck 1 [0] X5 0 4=18:=by
 unfold mcheck
 rw [whole_iff.2 x5w,x5k]
 decide +kernel
theorem x5_fuel:mcheck 1 [0] X5 1 (-1)=19:=by
 unfold mcheck
 rw [whole_iff.2 x5w,x5k]
 decide +kernel
theorem x0_none:mcheck 0 [] [] 0 4=23:=by
 unfold mcheck
 rw [if_pos]
 right
 have h:=aend_none (l:=[]) (a:=0) (by rw [List.drop_nil];exact scan_nil 0)
 rw [show((0:Nat):Int)=0 from rfl] at h
 rw [h]
 decide
theorem x5_run:(rrun 1 [0] X5 [4] 5).kind=0∧(rrun 1 [0] X5 [4] 5).value=5∧(rrun 1 [0] X5 [4] 5).steps=5∧(rrun 1 [0] X5 [4] 5).ev=[]:=by
 exact zMachN0
theorem x5_out:(rrun 1 [0] X5 [4] 4).kind=4:=by
 exact zMachN0
theorem x3_run:(rrun 0 [0] X3 [] 9).kind=3∧(rrun 0 [0] X3 [] 9).value=0∧(rrun 0 [0] X3 [] 9).steps=3∧(rrun 0 [0] X3 [] 9).ev=[(0,-1,7)]:=by
 rw [rrun_ok (x3_right (by decide) (by decide))]
 unfold mrun
 rw [mean_whole x3w]
 decide +kernel
end Go.Proofs.YtekogckmgkodfaaGreatDoor.Mach
namespace Go.Proofs.YtekogckmgkodfaaGreatDoor.Mach
open Go.RowKit Mem Arena Kinds Path Cat Suite Delta
attribute [local go_sem ↓] Go.wp_at_zero Go.wp_at_succ
theorem ERow.one{W:World}{g B:Nat}{a b c:Int}(h:Blk W g 95 #[.int .i64 a,.int .i64 b,.int .i64 c])(hB:g<B):ERow W B (some ⟨g,0,Option.none⟩) [(a,b,c)]:=by
 intro i e hi
 match i,hi with
 | 0,hi =>
  cases hi
  exact⟨_,rfl,hB,h.cell 0,h.cell 1,h.cell 2⟩
theorem x5_out':(rrun 1 [0] X5 [4] 4).kind=4∧(rrun 1 [0] X5 [4] 4).value=0∧(rrun 1 [0] X5 [4] 4).steps=4∧(rrun 1 [0] X5 [4] 4).ev=[]:=by
 exact zMachN0
def P5(g:Nat):Prg:=⟨1,some ⟨g,0,none⟩,1,[0],some ⟨g+1,0,none⟩,5,X5⟩
def P3'(g:Nat):Prg:=⟨0,some ⟨g,0,none⟩,1,[0],some ⟨g+1,0,none⟩,3,X3⟩
def P0:Prg:=⟨0,none,0,[],none,0,[]⟩
theorem P0_ok(w:World):P0.Ok w:=⟨fun i x h=>by simp [P0] at h,fun i x h=>by simp [P0] at h,by decide,by decide,by decide,by decide,fun _=>rfl,fun _=>rfl⟩
theorem MPkg.runAt(K:MPkg)(p:Prg)(A:Option Addr)(c:Nat)(args:List Int)(f:Int)(W:World)(hp:p.Ok W)(hA:IRow W W.heap.size A args)(hl:args.length≤c)(hn:A=none→c=0)(ha:args.length≤1000000)(hf:N64 f)
  {E k v:Int} {st:Nat} {ev:List (Int×Int×Int)} (hE:mcheck p.ps p.vs p.xs args.length f=E) (h:(rrun p.ps p.vs p.xs args f).kind=k∧(rrun p.ps p.vs p.xs args f).value=v∧(rrun p.ps p.vs p.xs args f).steps=st∧(rrun p.ps p.vs p.xs args f).ev=ev) :
  Calls Tryz.prog 6 #[.agg #[.int .i64 p.ps,.slice p.A p.vs.length p.c,.slice p.B p.xs.length p.e],.slice A args.length c,.int .i64 f] W fun e w'=>Below W.heap.size W w'∧∃ A c,e=.returned (.tuple #[.agg #[.int .i64 k,.int .i64 v,.int .i64 st,.slice A ev.length c],.int .i64 E])∧ERow w' w'.heap.size A ev:=by
 refine(K.run p A c args f W hp hA hl hn ha hf).mono ?_
 rintro e w' ⟨hb,A',c',he,ok⟩
 obtain⟨h1,h2,h3,h4⟩:=h
 refine⟨hb,A',c',?_,?_⟩
 ·rw [he,hE]
  unfold rn Rn.val
  simp only
  rw [h1,h2,h3,h4]
 ·have:=ok.row
  unfold rn at this
  simp only at this
  rw [h4] at this
  exact this
theorem rrun_no{ps:Int}{vs:List Int}{xs:List Nd}{args:List Int}{f:Int}(h:mcheck ps vs xs args.length f≠0):(rrun ps vs xs args f).kind=0∧(rrun ps vs xs args f).value=0∧(rrun ps vs xs args f).steps=0∧(rrun ps vs xs args f).ev=[]:=by
 unfold rrun
 rw [if_neg h]
 exact⟨rfl,rfl,rfl,rfl⟩
theorem n64{n:Int}(h0 : -100000≤n)(h1:n≤100000):N64 n:=⟨by omega,by omega⟩
theorem P5_made(w:World):(P5 w.heap.size).Ok (((w.alloc (.cells #[.int .i64 0] 3)).alloc (.cells #[.int .i64 20,.int .i64 1,.int .i64 25,.int .i64 0,.int .i64 7,.int .i64 0,.int .i64 3,.int .i64 0,.int .i64 1,.int .i64 1] 105)).alloc (.cells #[.int .i64 1,.slice (some ⟨w.heap.size,0,none⟩) 1 1,.slice (some ⟨w.heap.size+1,0,none⟩) 5 5] 25))∧Blk (((w.alloc (.cells #[.int .i64 0] 3)).alloc (.cells #[.int .i64 20,.int .i64 1,.int .i64 25,.int .i64 0,.int .i64 7,.int .i64 0,.int .i64 3,.int .i64 0,.int .i64 1,.int .i64 1] 105)).alloc (.cells #[.int .i64 1,.slice (some ⟨w.heap.size,0,none⟩) 1 1,.slice (some ⟨w.heap.size+1,0,none⟩) 5 5] 25)) (w.heap.size+2) 25 #[.int .i64 1,.slice (some ⟨w.heap.size,0,none⟩) 1 1,.slice (some ⟨w.heap.size+1,0,none⟩) 5 5]∧Below w.heap.size w (((w.alloc (.cells #[.int .i64 0] 3)).alloc (.cells #[.int .i64 20,.int .i64 1,.int .i64 25,.int .i64 0,.int .i64 7,.int .i64 0,.int .i64 3,.int .i64 0,.int .i64 1,.int .i64 1] 105)).alloc (.cells #[.int .i64 1,.slice (some ⟨w.heap.size,0,none⟩) 1 1,.slice (some ⟨w.heap.size+1,0,none⟩) 5 5] 25)):=by
 have b0:=((Blk.new w 3 #[.int .i64 0]).alloc (.cells #[.int .i64 20,.int .i64 1,.int .i64 25,.int .i64 0,.int .i64 7,.int .i64 0,.int .i64 3,.int .i64 0,.int .i64 1,.int .i64 1] 105)).alloc (.cells #[.int .i64 1,.slice (some ⟨w.heap.size,0,none⟩) 1 1,.slice (some ⟨w.heap.size+1,0,none⟩) 5 5] 25)
 have b1:=(Blk.new (w.alloc (.cells #[.int .i64 0] 3)) 105 #[.int .i64 20,.int .i64 1,.int .i64 25,.int .i64 0,.int .i64 7,.int .i64 0,.int .i64 3,.int .i64 0,.int .i64 1,.int .i64 1]).alloc (.cells #[.int .i64 1,.slice (some ⟨w.heap.size,0,none⟩) 1 1,.slice (some ⟨w.heap.size+1,0,none⟩) 5 5] 25)
 have b2:=Blk.new ((w.alloc (.cells #[.int .i64 0] 3)).alloc (.cells #[.int .i64 20,.int .i64 1,.int .i64 25,.int .i64 0,.int .i64 7,.int .i64 0,.int .i64 3,.int .i64 0,.int .i64 1,.int .i64 1] 105)) 25 #[.int .i64 1,.slice (some ⟨w.heap.size,0,none⟩) 1 1,.slice (some ⟨w.heap.size+1,0,none⟩) 5 5]
 simp only [World.size_alloc] at b1 b2
 have hb:Below w.heap.size w (((w.alloc (.cells #[.int .i64 0] 3)).alloc (.cells #[.int .i64 20,.int .i64 1,.int .i64 25,.int .i64 0,.int .i64 7,.int .i64 0,.int .i64 3,.int .i64 0,.int .i64 1,.int .i64 1] 105)).alloc (.cells #[.int .i64 1,.slice (some ⟨w.heap.size,0,none⟩) 1 1,.slice (some ⟨w.heap.size+1,0,none⟩) 5 5] 25)):=(((Below.refl _ w).alloc (Nat.le_refl _) _).alloc (by simp) _).alloc (by simp;omega) _
 exact⟨⟨IRow.of_blk (ks:=[0]) b0 b0.lt,Nodes.of_blk (xs:=X5) b1 b1.lt,by simp [P5],by simp [P5,X5],by simp [P5],by simp [P5,X5],(fun e=>by cases e),(fun e=>by cases e)⟩,b2,hb⟩
theorem P3'_made(w:World):(P3' w.heap.size).Ok (((w.alloc (.cells #[.int .i64 0] 3)).alloc (.cells #[.int .i64 20,.int .i64 1,.int .i64 21,.int .i64 0,.int .i64 1,.int .i64 7] 105)).alloc (.cells #[.int .i64 0,.slice (some ⟨w.heap.size,0,none⟩) 1 1,.slice (some ⟨w.heap.size+1,0,none⟩) 3 3] 25))∧Blk (((w.alloc (.cells #[.int .i64 0] 3)).alloc (.cells #[.int .i64 20,.int .i64 1,.int .i64 21,.int .i64 0,.int .i64 1,.int .i64 7] 105)).alloc (.cells #[.int .i64 0,.slice (some ⟨w.heap.size,0,none⟩) 1 1,.slice (some ⟨w.heap.size+1,0,none⟩) 3 3] 25)) (w.heap.size+2) 25 #[.int .i64 0,.slice (some ⟨w.heap.size,0,none⟩) 1 1,.slice (some ⟨w.heap.size+1,0,none⟩) 3 3]∧Below w.heap.size w (((w.alloc (.cells #[.int .i64 0] 3)).alloc (.cells #[.int .i64 20,.int .i64 1,.int .i64 21,.int .i64 0,.int .i64 1,.int .i64 7] 105)).alloc (.cells #[.int .i64 0,.slice (some ⟨w.heap.size,0,none⟩) 1 1,.slice (some ⟨w.heap.size+1,0,none⟩) 3 3] 25)):=by
 have b0:=((Blk.new w 3 #[.int .i64 0]).alloc (.cells #[.int .i64 20,.int .i64 1,.int .i64 21,.int .i64 0,.int .i64 1,.int .i64 7] 105)).alloc (.cells #[.int .i64 0,.slice (some ⟨w.heap.size,0,none⟩) 1 1,.slice (some ⟨w.heap.size+1,0,none⟩) 3 3] 25)
 have b1:=(Blk.new (w.alloc (.cells #[.int .i64 0] 3)) 105 #[.int .i64 20,.int .i64 1,.int .i64 21,.int .i64 0,.int .i64 1,.int .i64 7]).alloc (.cells #[.int .i64 0,.slice (some ⟨w.heap.size,0,none⟩) 1 1,.slice (some ⟨w.heap.size+1,0,none⟩) 3 3] 25)
 have b2:=Blk.new ((w.alloc (.cells #[.int .i64 0] 3)).alloc (.cells #[.int .i64 20,.int .i64 1,.int .i64 21,.int .i64 0,.int .i64 1,.int .i64 7] 105)) 25 #[.int .i64 0,.slice (some ⟨w.heap.size,0,none⟩) 1 1,.slice (some ⟨w.heap.size+1,0,none⟩) 3 3]
 simp only [World.size_alloc] at b1 b2
 have hb:Below w.heap.size w (((w.alloc (.cells #[.int .i64 0] 3)).alloc (.cells #[.int .i64 20,.int .i64 1,.int .i64 21,.int .i64 0,.int .i64 1,.int .i64 7] 105)).alloc (.cells #[.int .i64 0,.slice (some ⟨w.heap.size,0,none⟩) 1 1,.slice (some ⟨w.heap.size+1,0,none⟩) 3 3] 25)):=(((Below.refl _ w).alloc (Nat.le_refl _) _).alloc (by simp) _).alloc (by simp;omega) _
 exact⟨⟨IRow.of_blk (ks:=[0]) b0 b0.lt,Nodes.of_blk (xs:=X3) b1 b1.lt,by simp [P3'],by simp [P3',X3],by simp [P3'],by simp [P3',X3],(fun e=>by cases e),(fun e=>by cases e)⟩,b2,hb⟩
theorem hb4(W:World):Below W.heap.size W (W.alloc (.cells #[.int .i64 4] 3)):=(Below.refl _ _).alloc (Nat.le_refl _) _
theorem arg4(W:World):IRow (W.alloc (.cells #[.int .i64 4] 3)) (W.alloc (.cells #[.int .i64 4] 3)).heap.size (some ⟨W.heap.size,0,none⟩) [4]:=IRow.of_blk (ks:=[4]) (Blk.new W 3 #[.int .i64 4]) (Blk.new W 3 #[.int .i64 4]).lt
end Go.Proofs.YtekogckmgkodfaaGreatDoor.Mach
