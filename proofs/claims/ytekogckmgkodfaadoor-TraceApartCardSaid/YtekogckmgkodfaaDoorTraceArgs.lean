/-
  Arguments that are runs, or events, by value: what they hold.
-/
import Derived.Test.YtekogckmgkodfaaDoorRunRow
import Derived.Test.YtekogckmgkodfaaDoorTraceMath
import Derived.Test.YtekogckmgkodfaaDoorKindsG
import Derived.Test.YtekogckmgkodfaaDoorCodeG
set_option maxRecDepth 100000
namespace Go.Proofs.YtekogckmgkodfaaDoor.Trc
open Go.RowKit Mem Go.ChangeShapes Go.WideShapes Go.Deep Go.Joins Arena Mach
section
variable {H:Type} {enc:TypeId×Value→H} {W:World} {spare:Nat→Bool} {held:Bool}
abbrev B64 (n:Int):Prop := -9223372036854775808≤n∧n≤9223372036854775807
theorem wf_b64{n:Int}(h:(Lit.int .i64 n).wf=true):B64 n:=bounds_i64 h
theorem event_of{n:Nat}{cs:List Value}{x:DataW H×List MemPlace}(h:DataW.trod enc Tryd.prog W 0 spare held n 34 cs=some x):∃ e:Int×Int×Int,cs=[.int .i64 e.1,.int .i64 e.2.1,.int .i64 e.2.2]∧B64 e.1∧B64 e.2.1∧B64 e.2.2:=by
 have hC:Tryd.prog.cellsOf 34=3:=by kernel_rfl
 obtain⟨y0,y1,y2,m,hx,hl,h0,h1,h2⟩:=trod_struct3 Tryd.underlying34 h
 rw [hC] at hl
 match cs,hl with
 | [c0,c1,c2],_ =>
  obtain⟨k,e0,-,w0⟩:=DataW.trod_int Tryd.underlying3 h0
  obtain⟨n,e1,-,w1⟩:=DataW.trod_int Tryd.underlying3 h1
  obtain⟨v,e2,-,w2⟩:=DataW.trod_int Tryd.underlying3 h2
  have hC0:Tryd.prog.cellsOf 3=1:=by kernel_rfl
  simp only [hC0] at e0 e1 e2
  simp at e0 e1 e2
  exact⟨⟨k,n,v⟩,by simp [e0,e1,e2],wf_b64 w0,wf_b64 w1,wf_b64 w2⟩
theorem events_of{n:Nat}{cs:List Value}{x:DataW H×List MemPlace}(hf:DataW.trod enc Tryd.prog W 0 spare held n 24 cs=some x) :
  ∃ (A:Option Addr) (cap:Nat) (l:List (Int×Int×Int)),cs=[.slice A l.length cap]∧l.length≤maxLen∧l.length≤cap∧(A=none→cap=0)∧ERow W W.heap.size A l∧∀ e∈l,B64 e.1∧B64 e.2.1∧B64 e.2.2:=by
 have hC:Tryd.prog.cellsOf 34=3:=by kernel_rfl
 rcases open_slice Tryd.underlying24 hf with⟨rfl,-⟩ | ⟨a,len,cap,m,n,D,Pl,rfl,-,hlc,hcm,hm,hx,hi⟩
 ·exact⟨none,0,[],rfl,by simp,by simp,fun _=>rfl,ERow.nil _ _ _,fun e h=>by cases h⟩
 ·rw [hC] at hi
  have hlm:len≤m:=by rw [hm];split<;>omega
  have each:∀ i,i<len→∃ y:Int×Int×Int,(W.cell? (a.add (i*3))=some (.int .i64 y.1)∧W.cell? ⟨(a.add (i*3)).block,(a.add (i*3)).off+1,none⟩=some (.int .i64 y.2.1)∧W.cell? ⟨(a.add (i*3)).block,(a.add (i*3)).off+2,none⟩=some (.int .i64 y.2.2))∧B64 y.1∧B64 y.2.1∧B64 y.2.2:=by
   intro i hil
   obtain⟨cs',hc,ht⟩:=hi i (by omega)
   obtain⟨y,hy,hy1⟩:=event_of ht
   have hat:=cells_atN hc
   subst hy
   refine⟨y,⟨?_,?_,?_⟩,hy1⟩
   ·exact hat 0 _ rfl
   ·have:=hat 1 _ rfl;rwa [add_off _ _ (by omega)] at this
   ·have:=hat 2 _ rfl;rwa [add_off _ _ (by omega)] at this
  obtain⟨F,hF⟩:∃ F:Nat→Int×Int×Int,∀ i,i<len→(W.cell? (a.add (i*3))=some (.int .i64 (F i).1)∧W.cell? ⟨(a.add (i*3)).block,(a.add (i*3)).off+1,none⟩=some (.int .i64 (F i).2.1)∧W.cell? ⟨(a.add (i*3)).block,(a.add (i*3)).off+2,none⟩=some (.int .i64 (F i).2.2))∧B64 (F i).1∧B64 (F i).2.1∧B64 (F i).2.2:=by
   refine⟨fun i=>if h:i<len then(each i h).choose else(0,0,0),fun i hil=>?_⟩
   simp only [dif_pos hil]
   exact(each i hil).choose_spec
  refine⟨some a,cap,(List.range len).map F,by simp,by simp;omega,by simpa using hlc,(fun e=>by cases e),fun i x hxi=>?_,fun e he=>?_⟩
  ·obtain⟨hil,rfl⟩:i<len∧F i=x:=by
    rw [List.getElem?_map] at hxi
    have h1:(List.range len)[i]? = some i:=by
     rcases Nat.lt_or_ge i len with h | h
     ·rw [List.getElem?_range h]
     ·rw [List.getElem?_eq_none (by simpa using h)] at hxi;cases hxi
    rw [h1] at hxi
    have h2:=(List.getElem?_eq_some_iff.1 h1).1
    exact⟨by simpa using h2,by simpa using hxi⟩
   obtain⟨⟨q0,q1,q2⟩,-⟩:=hF i hil
   exact⟨a,rfl,by have:=World.block_lt_of_cell? W _ q0;rwa [add_blockN] at this,q0,q1,q2⟩
  ·rw [List.mem_map] at he
   obtain⟨i,hi',rfl⟩:=he
   exact(hF i (List.mem_range.1 hi')).2
structure In (r:Rn) (w:World):Prop where
 row:ERow w w.heap.size r.A r.ev
 cap:r.ev.length≤r.c
 none:r.A=none→r.c=0
 len:r.ev.length≤maxLen
 b64:R64 r.ev r.k r.v
theorem In.at{r:Rn}{w w':World}(h:In r w)(hb:Below w.heap.size w w'):In r w':=⟨h.row.at hb,h.cap,h.none,h.len,h.b64⟩
theorem In.ok{r:Rn}{w:World}(h:In r w)(hl:r.ev.length≤1000000):r.Ok w:=⟨h.row,h.cap,h.none,hl⟩
theorem r64_of{l:List (Int×Int×Int)}{k v:Int}(h:∀ e∈l,B64 e.1∧B64 e.2.1∧B64 e.2.2)(hk:B64 k)(hv:B64 v):R64 l k v :=
 ⟨fun e he n hn=>by
  obtain⟨h1,h2,h3⟩:=h e he
  rcases List.mem_cons.1 hn with rfl | hn
  ·exact h1
  ·rcases List.mem_cons.1 hn with rfl | hn
   ·exact h2
   ·rw [List.mem_singleton] at hn;subst hn;exact h3,hk,hv⟩
theorem open_run{b0:Nat}{v:Value}{d:DataW H}{q:List MemPlace}(hv:Value.okWide Tryd.prog W .any b0 26 v)(h:DataW.Trod enc Tryd.prog W 0 spare held 26 v d q) :
  ∃ r:Rn,v=.agg #[.int .i64 r.k,.int .i64 r.v,.int .i64 r.st,.slice r.A r.ev.length r.c]∧In r W:=by
 obtain⟨cs,rfl,-⟩:=okWide_struct Tryd.underlying26 hv
 obtain⟨fuel,hf⟩:=h
 have hC:Tryd.prog.cellsOf 26=4:=by kernel_rfl
 have hC0:Tryd.prog.cellsOf 3=1:=by kernel_rfl
 have hC1:Tryd.prog.cellsOf 24=1:=by kernel_rfl
 have hC2:Tryd.prog.cellsOf 23=2:=by kernel_rfl
 obtain⟨l⟩:=cs
 obtain⟨y0,y1,y2,m,hx,hl,h0,h1,h2⟩:=trod_struct3 Tryd.underlying26 hf
 rw [hC] at hl
 simp only [Value.cells] at hl h0 h1 h2
 match l,hl with
 | [c0,c1,c2,c3],_ =>
  simp only [hC0,hC1,hC2] at h0 h1 h2
  simp at h0 h1 h2
  obtain⟨z0,z1,m',-,-,g0,g1⟩:=trod_struct2 Tryd.underlying23 h0
  simp only [hC0] at g0 g1
  simp at g0 g1
  obtain⟨k,e0,-,w0⟩:=DataW.trod_int Tryd.underlying3 g0
  obtain⟨v,e1,-,w1⟩:=DataW.trod_int Tryd.underlying3 g1
  obtain⟨s,e2,-,-⟩:=DataW.trod_int Tryd.underlying3 h1
  obtain⟨A,c,ev,e3,r1,r2,r3,r4,r5⟩:=events_of h2
  simp at e0 e1 e2 e3
  exact⟨⟨k,v,s,A,c,ev⟩,by simp [e0,e1,e2,e3],r4,r2,r3,r1,r64_of r5 (wf_b64 w0) (wf_b64 w1)⟩
theorem open_event{b0:Nat}{v:Value}{d:DataW H}{q:List MemPlace}(hv:Value.okWide Tryd.prog W .any b0 34 v)(h:DataW.Trod enc Tryd.prog W 0 spare held 34 v d q) :
  ∃ e:Int×Int×Int,v=.agg #[.int .i64 e.1,.int .i64 e.2.1,.int .i64 e.2.2]∧B64 e.1∧B64 e.2.1∧B64 e.2.2:=by
 obtain⟨cs,rfl,-⟩:=okWide_struct Tryd.underlying34 hv
 obtain⟨fuel,hf⟩:=h
 obtain⟨l⟩:=cs
 obtain⟨e,he,hb⟩:=event_of hf
 simp only [Value.cells] at he
 exact⟨e,by rw [he],hb⟩
end
end Go.Proofs.YtekogckmgkodfaaDoor.Trc
