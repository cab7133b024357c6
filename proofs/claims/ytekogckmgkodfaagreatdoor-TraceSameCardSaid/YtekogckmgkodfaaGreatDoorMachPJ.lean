/-
  Package machine, walked: a turn.
  The places behind nodes, found from the right (plain).
  Package machine, walked: the places behind nodes, found from the right.
  Package machine, walked: a turn, whatever stands on top.
  Package machine, walked: what nodes do, laid in a map by their tags.
-/
import Derived.Test.YtekogckmgkodfaaGreatDoorMachPH
import Derived.Test.YtekogckmgkodfaaGreatDoorMachPG
import Derived.Test.YtekogckmgkodfaaGreatDoorOrdersU
import Derived.Laws.MakeOwn
import Derived.Laws.OwnMore
import Derived.Deep.RegionLaw
import Derived.Deep.AppendLies
import Derived.Test.YtekogckmgkodfaaGreatDoorKindsP
set_option maxRecDepth 100000
set_option maxHeartbeats 4000000
set_option linter.unusedVariables false
namespace Go.Proofs.YtekogckmgkodfaaGreatDoor
theorem zMachPJ0{P:Prop}(h:P:=by
  refine OrdU.tk 0 (h:=?_)
  refine OrdU.tk 1 (h:=?_)
  refine OrdU.tk 2 (h:=?_)
  refine OrdU.tk 3 (h:=?_)
  refine OrdU.tk 4 (h:=?_)
  refine OrdU.tk 5 (h:=?_)
  refine OrdU.tk 6 (h:=?_)
  refine OrdU.tk 7 (h:=?_)
  refine OrdU.one 8 (h:=fun K' hK=>?_)
  go_simp
  with_reducible refine HC.out.mono ?_
  rintro e w2 hT
  obtain⟨hTT,v,rfl⟩:=hT.ends HW.out
  have HTT:=Lib.hid hTT
  clear hTT hT
  go_wp2_with fail
  refine OrdU.bk hK (h:=?_)
  clear hK K'
  refine OrdU.one 9 (h:=fun K' hK=>?_)
  go_simp
  refine OrdU.bk hK (h:=?_)
  clear hK K'
  refine OrdU.wpAnyU_done (by kernel_rfl) ?_ _
  go_wp2_with fail
  go_ret
  exact HTT.out):P:=h
theorem zMachPJ1{P:Prop}(h:P:=by
  clear hown hgr hat hC0 hC4 hbA
  go_wp2_with fail
  go_roundw
  case rel=>exact HF.out
  case measure=>simp [intOf]<;>omega):P:=h
theorem zMachPJ2{P:Prop}(h:P:=by
  have ne:∀ j,(⟨K.g,10,none⟩:Addr)≠⟨b,j,none⟩:=fun j e=>hne (congrArg Addr.block e).symm
  refine⟨?_,?_,?_,?_,?_,?_,?_,?_⟩
  all_goals
   show(W.setCell _ _).cell? _=_
   rw [World.cell?_setCell_other _ _ _ _ (ne _)]
   assumption):P:=h
end Go.Proofs.YtekogckmgkodfaaGreatDoor
namespace Go.Proofs.YtekogckmgkodfaaGreatDoor.Mach
open Go.RowKit Mem Arena Kinds Path Cat Suite
attribute [local go_sem ↓] Go.wp_at_zero Go.wp_at_succ
section
variable {K:PK} {κ:Nat→Nat} {evv sv:Value} {Y:List ((Option Addr×Nat)×List Int)} {s:St} {S:List Fr} {W W':World}
theorem turn_do(t N:Int)(pos next:Nat)(x y:Int)(ag:Bool)(q:FuncId)(h:PM K κ evv sv Y s (⟨(t,N),pos,next,0,x,y,ag⟩::S) W)(hl:S.length<1000000)(hd:doesV K.actv ⟨(t,N),pos,next,0,x,y,ag⟩=.func (.func q) #[] #[])
  (hent:∀ W:World,(callFunc q #[.pointer (some ⟨K.g,0,none⟩),(.agg #[.int .i64 t,.int .i64 N,.int .i64 (pos:Nat),.int .i64 (next:Nat),.int .i64 0,.int .i64 x,.int .i64 y,.func (.func q) #[] #[]])]).run Tryz.prog W=.ok (.enter q #[.pointer (some ⟨K.g,0,none⟩),(.agg #[.int .i64 t,.int .i64 N,.int .i64 (pos:Nat),.int .i64 (next:Nat),.int .i64 0,.int .i64 x,.int .i64 y,.func (.func q) #[] #[]])]) W)
  (hC:∀ (sv':Value) (W':World),PM K κ evv sv' Y s S W'→Calls Tryz.prog q #[.pointer (some ⟨K.g,0,none⟩),(.agg #[.int .i64 t,.int .i64 N,.int .i64 (pos:Nat),.int .i64 (next:Nat),.int .i64 0,.int .i64 x,.int .i64 y,.func (.func q) #[] #[]])] W' (Turn K κ W' (doC K.p.xs ⟨(t,N),pos,next,0,x,y,ag⟩ (s,S)))) :
  Calls Tryz.prog 31 #[.pointer (some ⟨K.g,0,none⟩)] W (Turn K κ W (stepC K.p.xs (s,⟨(t,N),pos,next,0,x,y,ag⟩::S))):=by
 rw [step_do rfl]
 obtain⟨b,cap,rfl,hb,hb5,hne,hc,hfr,hcap⟩:=h.top
 have c10:W.cell? ⟨K.g,10,none⟩=some (.slice (some ⟨b,0,none⟩) (S.length+1) cap):=h.cell 10
 have f10:=h.blk.frozen 10
 have k0:W.cell? ⟨b,S.length*8,none⟩=some (.int .i64 t):=(hc 0).resolve_right (by omega)
 have k1:W.cell? ⟨b,S.length*8+1,none⟩=some (.int .i64 N):=(hc 1).resolve_right (by omega)
 have k2:W.cell? ⟨b,S.length*8+2,none⟩=some (.int .i64 (pos:Nat)):=(hc 2).resolve_right (by omega)
 have k3:W.cell? ⟨b,S.length*8+3,none⟩=some (.int .i64 (next:Nat)):=(hc 3).resolve_right (by omega)
 have k4:W.cell? ⟨b,S.length*8+4,none⟩=some (.int .i64 0):=(hc 4).resolve_right (by omega)
 have k5:W.cell? ⟨b,S.length*8+5,none⟩=some (.int .i64 x):=(hc 5).resolve_right (by omega)
 have k6:W.cell? ⟨b,S.length*8+6,none⟩=some (.int .i64 y):=(hc 6).resolve_right (by omega)
 have k7:W.cell? ⟨b,S.length*8+7,none⟩=some (.func (.func q) #[] #[]):=((hc 7).resolve_right (by omega)).trans (congrArg some hd)
 have hg1:=h.lab.g
 have h1:=h.pop.drew
 have hw1:=((Went.refl κ W).setCell (a:=⟨K.g,10,none⟩) (.inl (by show κ K.g≠0;rw [h.lab.g];decide)) (.slice (some ⟨b,0,none⟩) S.length cap)).drew
 have HC:=Lib.hid (hC _ _ h1)
 have HW:=Lib.hid hw1
 have hq1:=hent (W.setCell ⟨K.g,10,none⟩ (.slice (some ⟨b,0,none⟩) S.length cap)).drew
 have hlt:=(h.lab.lt b (by omega)).2
 have hgl:=h.glt.2
 have e0:((S.length:Int)+1-1)=S.length:=by omega
 clear h h1 hw1 hc hfr hb hb5 hd hent hC hg1
 generalize hn:S.length=n at c10 k0 k1 k2 k3 k4 k5 k6 k7 hl HC HW hq1 hcap e0
 have v1:IntKind.i64.wrap (n:Int)=n:=IntWalk.i64_in _ (by omega)
 have i1:(n:Int)<(n:Int)+1:=by omega
 have i2:(0:Int)≤(n:Int):=by omega
 have i3:(n:Int)≤(cap:Int):=by omega
 clear hn e0
 have hC0:(fun w'=>w'.cell? ⟨b,n*8,none⟩=some (.int .i64 t)∧w'.cell? ⟨b,n*8+1,none⟩=some (.int .i64 N)∧w'.cell? ⟨b,n*8+2,none⟩=some (.int .i64 (pos:Nat))∧w'.cell? ⟨b,n*8+3,none⟩=some (.int .i64 (next:Nat))∧w'.cell? ⟨b,n*8+4,none⟩=some (.int .i64 0)∧w'.cell? ⟨b,n*8+5,none⟩=some (.int .i64 x)∧w'.cell? ⟨b,n*8+6,none⟩=some (.int .i64 y)∧w'.cell? ⟨b,n*8+7,none⟩=some (.func (.func q) #[] #[])) (W.setCell ⟨K.g,10,none⟩ (.slice (some ⟨b,0,none⟩) n cap)).drew:=by
  exact zMachPJ2
 go_enter Tryz.func31,Tryz.ntmps31
 go_wp2_with fail
 refine OrdU.wp_region_U 8 (fun w'=>w'.cell? ⟨b,n*8,none⟩=some (.int .i64 t)∧w'.cell? ⟨b,n*8+1,none⟩=some (.int .i64 N)∧w'.cell? ⟨b,n*8+2,none⟩=some (.int .i64 (pos:Nat))∧w'.cell? ⟨b,n*8+3,none⟩=some (.int .i64 (next:Nat))∧w'.cell? ⟨b,n*8+4,none⟩=some (.int .i64 0)∧w'.cell? ⟨b,n*8+5,none⟩=some (.int .i64 x)∧w'.cell? ⟨b,n*8+6,none⟩=some (.int .i64 y)∧w'.cell? ⟨b,n*8+7,none⟩=some (.func (.func q) #[] #[])) (by kernel_rfl) hC0 (fun hHeld=>?_)
 exact zMachPJ0
theorem turn_doP(t N:Int)(pos next:Nat)(x y:Int)(ag:Bool)(q:FuncId)(cb:Nat)(h:PM K κ evv sv Y s (⟨(t,N),pos,next,0,x,y,ag⟩::S) W)(hl:S.length<1000000)(hd:doesV K.actv ⟨(t,N),pos,next,0,x,y,ag⟩=.func (.func q) #[] #[.pointer (some ⟨cb,0,none⟩)])
  (hent:∀ W:World,(callFunc q #[.pointer (some ⟨K.g,0,none⟩),(.agg #[.int .i64 t,.int .i64 N,.int .i64 (pos:Nat),.int .i64 (next:Nat),.int .i64 0,.int .i64 x,.int .i64 y,.func (.func q) #[] #[.pointer (some ⟨cb,0,none⟩)]]),.pointer (some ⟨cb,0,none⟩)]).run Tryz.prog W=.ok (.enter q #[.pointer (some ⟨K.g,0,none⟩),(.agg #[.int .i64 t,.int .i64 N,.int .i64 (pos:Nat),.int .i64 (next:Nat),.int .i64 0,.int .i64 x,.int .i64 y,.func (.func q) #[] #[.pointer (some ⟨cb,0,none⟩)]]),.pointer (some ⟨cb,0,none⟩)]) W)
  (hC:∀ (sv':Value) (W':World),PM K κ evv sv' Y s S W'→Calls Tryz.prog q #[.pointer (some ⟨K.g,0,none⟩),(.agg #[.int .i64 t,.int .i64 N,.int .i64 (pos:Nat),.int .i64 (next:Nat),.int .i64 0,.int .i64 x,.int .i64 y,.func (.func q) #[] #[.pointer (some ⟨cb,0,none⟩)]]),.pointer (some ⟨cb,0,none⟩)] W' (Turn K κ W' (doC K.p.xs ⟨(t,N),pos,next,0,x,y,ag⟩ (s,S)))) :
  Calls Tryz.prog 31 #[.pointer (some ⟨K.g,0,none⟩)] W (Turn K κ W (stepC K.p.xs (s,⟨(t,N),pos,next,0,x,y,ag⟩::S))):=by
 rw [step_do rfl]
 obtain⟨b,cap,rfl,hb,hb5,hne,hc,hfr,hcap⟩:=h.top
 have c10:W.cell? ⟨K.g,10,none⟩=some (.slice (some ⟨b,0,none⟩) (S.length+1) cap):=h.cell 10
 have f10:=h.blk.frozen 10
 have k0:W.cell? ⟨b,S.length*8,none⟩=some (.int .i64 t):=(hc 0).resolve_right (by omega)
 have k1:W.cell? ⟨b,S.length*8+1,none⟩=some (.int .i64 N):=(hc 1).resolve_right (by omega)
 have k2:W.cell? ⟨b,S.length*8+2,none⟩=some (.int .i64 (pos:Nat)):=(hc 2).resolve_right (by omega)
 have k3:W.cell? ⟨b,S.length*8+3,none⟩=some (.int .i64 (next:Nat)):=(hc 3).resolve_right (by omega)
 have k4:W.cell? ⟨b,S.length*8+4,none⟩=some (.int .i64 0):=(hc 4).resolve_right (by omega)
 have k5:W.cell? ⟨b,S.length*8+5,none⟩=some (.int .i64 x):=(hc 5).resolve_right (by omega)
 have k6:W.cell? ⟨b,S.length*8+6,none⟩=some (.int .i64 y):=(hc 6).resolve_right (by omega)
 have k7:W.cell? ⟨b,S.length*8+7,none⟩=some (.func (.func q) #[] #[.pointer (some ⟨cb,0,none⟩)]):=((hc 7).resolve_right (by omega)).trans (congrArg some hd)
 have hg1:=h.lab.g
 have h1:=h.pop.drew
 have hw1:=((Went.refl κ W).setCell (a:=⟨K.g,10,none⟩) (.inl (by show κ K.g≠0;rw [h.lab.g];decide)) (.slice (some ⟨b,0,none⟩) S.length cap)).drew
 have HC:=Lib.hid (hC _ _ h1)
 have HW:=Lib.hid hw1
 have hq1:=hent (W.setCell ⟨K.g,10,none⟩ (.slice (some ⟨b,0,none⟩) S.length cap)).drew
 have hlt:=(h.lab.lt b (by omega)).2
 have hgl:=h.glt.2
 have e0:((S.length:Int)+1-1)=S.length:=by omega
 clear h h1 hw1 hc hfr hb hb5 hd hent hC hg1
 generalize hn:S.length=n at c10 k0 k1 k2 k3 k4 k5 k6 k7 hl HC HW hq1 hcap e0
 have v1:IntKind.i64.wrap (n:Int)=n:=IntWalk.i64_in _ (by omega)
 have i1:(n:Int)<(n:Int)+1:=by omega
 have i2:(0:Int)≤(n:Int):=by omega
 have i3:(n:Int)≤(cap:Int):=by omega
 clear hn e0
 have hC0:(fun w'=>w'.cell? ⟨b,n*8,none⟩=some (.int .i64 t)∧w'.cell? ⟨b,n*8+1,none⟩=some (.int .i64 N)∧w'.cell? ⟨b,n*8+2,none⟩=some (.int .i64 (pos:Nat))∧w'.cell? ⟨b,n*8+3,none⟩=some (.int .i64 (next:Nat))∧w'.cell? ⟨b,n*8+4,none⟩=some (.int .i64 0)∧w'.cell? ⟨b,n*8+5,none⟩=some (.int .i64 x)∧w'.cell? ⟨b,n*8+6,none⟩=some (.int .i64 y)∧w'.cell? ⟨b,n*8+7,none⟩=some (.func (.func q) #[] #[.pointer (some ⟨cb,0,none⟩)])) (W.setCell ⟨K.g,10,none⟩ (.slice (some ⟨b,0,none⟩) n cap)).drew:=by
  exact zMachPJ2
 go_enter Tryz.func31,Tryz.ntmps31
 go_wp2_with fail
 refine OrdU.wp_region_U 8 (fun w'=>w'.cell? ⟨b,n*8,none⟩=some (.int .i64 t)∧w'.cell? ⟨b,n*8+1,none⟩=some (.int .i64 N)∧w'.cell? ⟨b,n*8+2,none⟩=some (.int .i64 (pos:Nat))∧w'.cell? ⟨b,n*8+3,none⟩=some (.int .i64 (next:Nat))∧w'.cell? ⟨b,n*8+4,none⟩=some (.int .i64 0)∧w'.cell? ⟨b,n*8+5,none⟩=some (.int .i64 x)∧w'.cell? ⟨b,n*8+6,none⟩=some (.int .i64 y)∧w'.cell? ⟨b,n*8+7,none⟩=some (.func (.func q) #[] #[.pointer (some ⟨cb,0,none⟩)])) (by kernel_rfl) hC0 (fun hHeld=>?_)
 exact zMachPJ0
theorem turn_kid{f:Fr}{j:Nat}(h:PM K κ evv sv Y s (f::S) W)(hf:f.owed=j+1)(hL:Live K s (f::S))(hj:j≤1000000)(hk:IsNode K.p.xs f.next) :
  Calls Tryz.prog 31 #[.pointer (some ⟨K.g,0,none⟩)] W (Turn K κ W (stepC K.p.xs (s,f::S))):=by
 rw [step_owed hf rfl]
 obtain⟨b,cap,rfl,hb,hb5,hne,hc,hfr,hcap⟩:=h.top
 have c10:W.cell? ⟨K.g,10,none⟩=some (.slice (some ⟨b,0,none⟩) (S.length+1) cap):=h.cell 10
 have c5:W.cell? ⟨K.g,5,none⟩=some (.slice (some ⟨K.eb,0,none⟩) K.p.xs.length K.ec):=h.cell 5
 have k3:W.cell? ⟨b,S.length*8+3,none⟩=some (.int .i64 f.next):=(hc 3).resolve_right (by omega)
 have k4:W.cell? ⟨b,S.length*8+4,none⟩=some (.int .i64 ((j:Int)+1)):=((hc 4).resolve_right (by omega)).trans (by unfold fcell;rw [hf];simp)
 have f3:=hfr (S.length*8+3)
 have f4:=hfr (S.length*8+4)
 have ce:=h.cn.ends f.next hk
 have ne:∀ i i',(⟨b,i,none⟩:Addr)≠⟨K.eb,i',none⟩:=fun i i' e=>by
  have:=congrArg Addr.block e
  have h6:=h.lab.c _ h.cn.ceb
  simp only at this
  rw [← this] at h6
  omega
 have ceA:(W.setCell ⟨b,S.length*8+4,none⟩ (.int .i64 j)).cell? ⟨K.eb,f.next,none⟩=some (.int .i64 (behind K.p.xs f.next)):=by
  rw [World.cell?_setCell_other _ _ _ _ (ne _ _)];exact ce
 have h1:=h.set_s hb (S.length*8+4) (.int .i64 (j:Int)) (S':={ f with owed:=j }::S) rfl (by rw [fcells_set];rfl)
 have h2:=h1.set_s hb (S.length*8+3) (.int .i64 (behind K.p.xs f.next:Nat)) (S':={ f with owed:=j,next:=behind K.p.xs f.next }::S) rfl (by rw [fcells_set];rfl)
 have hw:=((Went.refl κ W).setCell (a:=⟨b,S.length*8+4,none⟩) (.inl (by show κ b≠0;omega)) (.int .i64 (j:Int))).setCell (a:=⟨b,S.length*8+3,none⟩) (.inl (by show κ b≠0;omega)) (.int .i64 (behind K.p.xs f.next:Nat))
 have HT:=Lib.hid (enter_any16 h2 ⟨hL.on,hL.sum,hL.top,hL.few⟩ hk)
 have HW:=Lib.hid hw
 have hlt:=(h.lab.lt b (by omega)).2
 have hgl:=h.glt.2
 have hll:=hL.hl
 simp only [List.length_cons] at hll
 have hgk:=hk.get
 have hnl:(f.next:Int)<(K.p.xs.length:Int):=by obtain⟨_,_,_,_,_,q,_⟩:=hgk;omega
 have hlx:=h.cn.lx
 clear h h1 h2 hw hc hfr hb hb5 hL hk hf ne hgk ce
 generalize hbh:((behind K.p.xs f.next:Nat):Int)=bh at HT HW ceA
 generalize hfn:f.next=fn at *
 have i5:(0:Int)≤(fn:Int):=by omega
 generalize hn:S.length=n at c10 k3 k4 f3 f4 hll HT HW hcap ceA
 have v1:IntKind.i64.wrap (n:Int)=n:=IntWalk.i64_in _ (by omega)
 have v2:IntKind.i64.wrap (j:Int)=j:=IntWalk.i64_in _ (by omega)
 have i1:(n:Int)<(n:Int)+1:=by omega
 have i2:(0:Int)≤(n:Int):=by omega
 have i3:((j:Int)+1==0)=false:=by simp;omega
 clear hn hfn hbh
 go_enter Tryz.func31,Tryz.ntmps31
 go_wp2_with (first | (go_at_call 29;(with_reducible refine HT.out.mono ?_);rintro e w2 hT;obtain⟨hTT,v,rfl⟩:=hT.ends HW.out;have HTT:=Lib.hid hTT;clear hTT hT) | fail)
 go_ret
 exact HTT.out
end
end Go.Proofs.YtekogckmgkodfaaGreatDoor.Mach
namespace Go.Proofs.YtekogckmgkodfaaGreatDoor.Mach
open Arena Kinds
def jmp(l:List Nd):Nat→Nat→Nat
 | 0,k=>k
 | A+1,k=>jmp l A (behind l k)
def eFrom(l:List Nd):Nat→Nat→List Int
 | 0,_=>[]
 | c+1,k=>eFrom l c (behind l k)++[((behind l k:Nat):Int)]
section
variable {l:List Nd}
theorem eFrom_len:∀ (c k:Nat),(eFrom l c k).length=c
 | 0,k=>rfl
 | c+1,k=>by rw [eFrom,List.length_append,eFrom_len c];rfl
theorem eFrom_add:∀ (A d k:Nat),eFrom l (A+d) k=eFrom l d (jmp l A k)++eFrom l A k
 | 0,d,k=>by rw [Nat.zero_add,jmp,eFrom,List.append_nil]
 | A+1,d,k=>by
  rw [show A+1+d=(A+d)+1 by omega,eFrom,eFrom_add A d,jmp,eFrom,List.append_assoc]
theorem eFrom_first:∀ (A k:Nat),(eFrom l (A+1) k)[0]? = some ((jmp l (A+1) k:Nat):Int)
 | 0,k=>rfl
 | A+1,k=>by
  rw [eFrom,List.getElem?_append_left (by rw [eFrom_len];omega),eFrom_first A];rfl
theorem jmp_scan:∀ (A a m:Nat),scan A (l.drop a)=some m→jmp l A a=a+m
 | 0,a,m,h=>by
  rw [scan_0] at h
  have:=Option.some.inj h
  rw [jmp];omega
 | A+1,a,m,h=>by
  rw [Nat.add_comm,scan_add] at h
  cases h1:scan 1 (l.drop a) with
  | none=>rw [h1] at h;cases h
  | some n1 =>
   rw [h1] at h
   simp only [Option.bind_some,Option.map_eq_some_iff,List.drop_drop] at h
   obtain⟨m2,h2,rfl⟩:=h
   have hb:behind l a=a+n1:=by unfold behind;rw [aend_some h1];omega
   rw [jmp,hb,jmp_scan A (a+n1) m2 h2];omega
end
theorem scan_tail:∀ (X:List Nd) (c k:Nat),scan c X=some X.length→k≤X.length→∃ c',scan c' (X.drop k)=some (X.length-k)
 | X,c,0,h,_=>⟨c,by rw [List.drop_zero,Nat.sub_zero];exact h⟩
 | [],c,k+1,h,hk=>absurd hk (by simp)
 | x::X,0,k+1,h,hk=>by rw [scan_0] at h;have:=Option.some.inj h;simp at this
 | x::X,c+1,k+1,h,hk=>by
  rw [scan_cons] at h
  split at h
  ·cases h
  ·obtain⟨m,hm,e⟩:=Option.map_eq_some_iff.1 h
   have hm2:m=X.length:=by simp at e;exact e
   subst hm2
   obtain⟨c',hc'⟩:=scan_tail X _ k hm (by simpa using hk)
   exact⟨c',by rw [List.drop_succ_cons,hc',List.length_cons];congr 1;omega⟩
theorem scan_one:∀ (X:List Nd) (c c':Nat),scan c X=some X.length→scan c' X=some X.length→c=c'
 | [],0,0,_,_=>rfl
 | [],c+1,_,h,_=>by rw [scan_nil] at h;cases h
 | [],0,c'+1,_,h=>by rw [scan_nil] at h;cases h
 | x::X,0,_,h,_=>by rw [scan_0] at h;have:=Option.some.inj h;simp at this
 | x::X,_+1,0,_,h=>by rw [scan_0] at h;have:=Option.some.inj h;simp at this
 | x::X,c+1,c'+1,h,h'=>by
  rw [scan_cons] at h h'
  split at h
  ·cases h
  ·next q =>
   rw [if_neg q] at h'
   obtain⟨m,hm,e⟩:=Option.map_eq_some_iff.1 h
   obtain⟨m',hm',e'⟩:=Option.map_eq_some_iff.1 h'
   have hm2:m=X.length:=by simp at e;exact e
   have hm2':m'=X.length:=by simp at e';exact e'
   subst hm2
   subst hm2'
   have:=scan_one X _ _ hm hm'
   omega
theorem ends_round{l:List Nd}(hw:scan 1 l=some l.length){k c:Nat}(hk:k<l.length)(hc:scan c (l.drop (k+1))=some (l.length-(k+1))) :
  ∃ x A,l[k]? = some x∧ar x=((A:Nat):Int)∧A≤c∧IsNode l k∧(A=0→behind l k=k+1)∧(∀ A',A=A'+1→(eFrom l c (k+1))[c-A]? = some ((behind l k:Nat):Int)) ∧
   (eFrom l c (k+1)).take (c-A)++[((behind l k:Nat):Int)]=eFrom l (c-A+1) k∧scan (c-A+1) (l.drop k)=some (l.length-k):=by
 obtain⟨c',hc'⟩:=scan_tail l 1 k hw (by omega)
 obtain⟨x,hx⟩:∃ x,l[k]? = some x:=⟨_,List.getElem?_eq_getElem hk⟩
 have hd:l.drop k=x::l.drop (k+1):=by
  obtain⟨hl,e⟩:=List.getElem?_eq_some_iff.1 hx
  rw [← e];exact List.drop_eq_getElem_cons hl
 cases c' with
 | zero=>rw [scan_0] at hc';have:=Option.some.inj hc';omega
 | succ c' =>
  have h0:0≤ar x:=by
   by_cases q:ar x<0
   ·rw [hd,scan_bad q] at hc';cases hc'
   ·omega
  obtain⟨A,hA⟩:=Int.eq_ofNat_of_zero_le h0
  have hc2:=hc'
  rw [hd,scan_good h0,hA,Int.toNat_natCast] at hc'
  obtain⟨m,hm,e⟩:=Option.map_eq_some_iff.1 hc'
  have hm2:m=l.length-(k+1):=by omega
  rw [hm2] at hm
  have hlen:(l.drop (k+1)).length=l.length-(k+1):=by rw [List.length_drop]
  have hcc:c'+A=c:=scan_one _ _ _ (by rw [hlen];exact hm) (by rw [hlen];exact hc)
  have hn:IsNode l k:=by
   have:=hc2
   rw [show c'+1=1+c' by omega,scan_add] at this
   cases h1:scan 1 (l.drop k) with
   | none=>rw [h1] at this;cases this
   | some n1=>exact⟨n1,h1⟩
  obtain⟨n1,hn1⟩:=hn
  have hb:behind l k=k+n1:=by unfold behind;rw [aend_some hn1];omega
  have hj:jmp l A (k+1)=behind l k:=by
   rw [hd,scan_good h0,hA,Int.toNat_natCast,Nat.zero_add] at hn1
   obtain⟨m1,hm1,e1⟩:=Option.map_eq_some_iff.1 hn1
   rw [jmp_scan A (k+1) m1 hm1,hb];omega
  refine⟨x,A,hx,hA,by omega,⟨n1,hn1⟩,fun e=>by subst e;rw [← hj];rfl,fun A' e=>?_,?_,?_⟩
  ·subst e
   rw [show c=(A'+1)+c' by omega,eFrom_add,hj,List.getElem?_append_right (by rw [eFrom_len];omega),eFrom_len,show A'+1+c'-(A'+1)-c'=0 by omega,eFrom_first,hj]
  ·rw [show c=A+c' by omega,eFrom_add,hj,show A+c'-A=c' by omega,List.take_append_of_le_length (by rw [eFrom_len];exact Nat.le_refl _),List.take_of_length_le (by rw [eFrom_len];exact Nat.le_refl _)]
   rfl
  ·rw [show c-A+1=c'+1 by omega]
   exact hc2
end Go.Proofs.YtekogckmgkodfaaGreatDoor.Mach
namespace Go.Proofs.YtekogckmgkodfaaGreatDoor.Mach
open Go.RowKit Mem Arena Kinds Path Cat Suite
attribute [local go_sem ↓] Go.wp_at_zero Go.wp_at_succ
def EndsEnds(xs:List Nd)(w:World)(e:Ending)(w':World):Prop :=
 e=.returned (.slice (some ⟨w.heap.size,0,none⟩) xs.length xs.length)∧w.heap.size<w'.heap.size∧(∀ i,IsNode xs i→w'.cell? ⟨w.heap.size,i,none⟩=some (.int .i64 (behind xs i)))∧Below w.heap.size w w'
structure EndsRel (xs:List Nd) (w:World) (v i:Value) (k c:Nat) (L:List Int) (wr:World):Prop where
 kn:k≤xs.length
 at_:i=.int .i64 ((k:Int)-1)
 len:L.length=xs.length
 told:∀ j,k≤j→j<xs.length→L[j]? = some ((behind xs j:Nat):Int)
 sc:scan c (xs.drop k)=some (xs.length-k)
 all:wr.ownsRow w.heap.size 3 1 (.slice (some ⟨w.heap.size,0,none⟩) xs.length xs.length) xs.length (icells L)
 parts:wr.ownsRow w.heap.size 3 1 v c (icells (eFrom xs c k))
 ne:v.ownBlock≠some w.heap.size
 below:Below w.heap.size w wr
theorem EndsRel.next{xs:List Nd}{w wr w':World}{v i v':Value}{k c o A:Nat}{L L':List Int}(h:EndsRel xs w v i (k+1) c L wr)(hk:k<xs.length)(hL:L'=L.set k ((behind xs k:Nat):Int))(hsc:scan (o+1) (xs.drop k)=some (xs.length-k))
  (hall:w'.ownsRow w.heap.size 3 1 (.slice (some ⟨w.heap.size,0,none⟩) xs.length xs.length) xs.length (icells L')) (hp:w'.ownsRow w.heap.size 3 1 v' (o+1) (icells (eFrom xs (o+1) k))) (hne:v'.ownBlock≠some w.heap.size) (hb:Below w.heap.size w w') :
  EndsRel xs w v' (.int .i64 ((k:Int)-1)) k (o+1) L' w' where
 kn:=by omega
 at_:=rfl
 len:=by rw [hL,List.length_set];exact h.len
 told:=fun j h1 h2=>by
  rw [hL,List.getElem?_set]
  split
  ·next q=>subst q;rw [if_pos (by rw [h.len];exact hk)]
  ·exact h.told j (by omega) h2
 sc:=hsc
 all:=hall
 parts:=hp
 ne:=hne
 below:=hb
theorem ends_done{xs:List Nd}{w W3 w5:World}{L:List Int}{bh:Int}{k o gg cap4:Nat}{v:Value}{T:List Value}{ob:Obj}
  (HH:∀ (W:World) (L':List Int) (v':Value),L'=L.set k bh→W.ownsRow w.heap.size 3 1 (.slice (some ⟨w.heap.size,0,none⟩) xs.length xs.length) xs.length (icells L')→W.ownsRow w.heap.size 3 1 v' (o+1) (icells (eFrom xs (o+1) k))→v'.ownBlock≠some w.heap.size→Below w.heap.size w W→EndsRel xs w v' (.int .i64 ((k:Int)-1)) k (o+1) L' W)
  (hall:W3.ownsRow w.heap.size 3 1 (.slice (some ⟨w.heap.size,0,none⟩) xs.length xs.length) xs.length (icells (L.set k bh))) (hb:Below w.heap.size w W3)
  (hv:v.ownBlock≠some w.heap.size) (hvb:∀ i,v.ownBlock=some i→w.heap.size≤i)
  (hown:w5.ownsRow w.heap.size 3 1 (.slice (some ⟨gg,0,none⟩) (o+1) cap4) (o+1) (T++[.int .i64 bh])) (hT:T++[.int .i64 bh]=icells (eFrom xs (o+1) k))
  (hgr:(W3.alloc ob).drew.grownBy w5 v.ownBlock) (hat:v.ownBlock=some gg∨gg=W3.heap.size+1) :
  ∃ k' c' L',EndsRel xs w (.slice (some ⟨gg,0,none⟩) (o+1) cap4) (.int .i64 ((k:Int)-1)) k' c' L' w5:=by
 have hlt:w.heap.size<W3.heap.size:=(hall.lt _ rfl).2
 have hbA:Below W3.heap.size W3 (W3.alloc ob).drew:=((Below.refl _ _).alloc (Nat.le_refl _) ob).drew
 have hall2:=own_of_block hall (fun i e=>hbA.block i (hall.lt i e).2)
 refine⟨k,o+1,_,HH w5 _ _ rfl (own_of_block hall2 fun i e=>hgr.block i (hall2.lt i e).2 fun q=>hv (q.symm.trans (by rw [← e];rfl))) (hT▸hown) (fun e=>?_) ((hb.trans (hbA.mono hb.size)).grown hgr (Nat.le_trans hb.size hbA.size) fun i e=>hvb i e)⟩
 have e:gg=w.heap.size:=Option.some.inj e
 rcases hat with q | q
 ·exact hv (q.trans (congrArg some e))
 ·omega
theorem ends_any(bd:Addr)(be:Nat)(xs:List Nd)(w:World)(hp:Nodes w w.heap.size (some bd) xs)(hlx:xs.length≤1000000)(hw:scan 1 xs=some xs.length):Calls Tryz.prog 26 #[.slice (some bd) xs.length be] w (EndsEnds xs w):=by
 obtain⟨ig,hig,hz0,hz1,hz2⟩:=info_parts info_int
 have hpos:0<xs.length:=by
  cases hq:xs with
  | nil=>rw [hq,scan_nil] at hw;cases hw
  | cons x l=>simp
 have hmk:∀ W:World,(Instr.makeSlice 22 (.int .i64 (xs.length:Int)) (.int .i64 (xs.length:Int))).run Tryz.prog W=.ok (.slice (some ⟨W.heap.size,0,none⟩) xs.length xs.length) (W.alloc (.cells (madeCells #[.int .i64 0] xs.length) 3)):=fun W=>by
  have:=run_make (P:=Tryz.prog) W 22 3 ig _ Tryz.underlying22 hig hz0 .i64 .i64 (xs.length:Int) (xs.length:Int) (by omega) (by omega) (by rw [hz2];omega) (by omega)
  rw [hz1,Int.toNat_natCast,Nat.mul_one] at this
  exact this
 have hO0:=World.ownsRow_lit (e:=3) (size:=1) (base:=w.heap.size) w (madeCells #[.int .i64 0] xs.length) xs.length (Nat.le_refl _) (by simp only [maxLen];omega) (by rw [size_madeCells,Nat.mul_one])
 rw [toList_madeCells_one] at hO0
 have hb0:Below w.heap.size w (w.alloc (.cells (madeCells #[.int .i64 0] xs.length) 3)):=(Below.refl _ _).alloc (Nat.le_refl _) _
 have hR0:EndsRel xs w (.slice none 0 0) (.int .i64 ((xs.length:Int)-1)) xs.length 0 (List.replicate xs.length 0) (w.alloc (.cells (madeCells #[.int .i64 0] xs.length) 3)) :=
  ⟨Nat.le_refl _,rfl,List.length_replicate,fun j h1 h2=>by omega,by rw [List.drop_of_length_le (Nat.le_refl _),scan_0];congr 1;omega,by simpa [icells] using hO0,World.ownsRow_nil _ _ _ _,(fun e=>by cases e),hb0⟩
 have HR0:=Lib.hid hR0
 have v0:IntKind.i64.wrap ((xs.length:Int)-1)=(xs.length:Int)-1:=IntWalk.i64_in _ (by omega)
 have HP:=Lib.hid (fun W (hb:Below w.heap.size w W)=>hp.below hb)
 have HWH:=Lib.hid hw
 have HAR:=Lib.hid (fun t N W=>Arity_any t N W)
 clear hO0 hb0 hR0 hp hw
 go_enter Tryz.func26,Tryz.ntmps26
 go_wp2_with fail
 go_loopw [4,5] (fun v i wr=>∃ k c L,EndsRel xs w v i k c L wr) (fun _ i _=>(intOf i+1).toNat)
 case atStart=>exact⟨_,_,_,HR0.out⟩
 case round =>
  obtain⟨k,c,L,hR⟩:=hrel
  cases k with
  | zero =>
   have hi:=hR.at_
   have hi2:u5=.int .i64 (-1):=hi
   have hb:=hR.below
   have hall:=hR.all
   have HF:=Lib.hid (show EndsEnds xs w (.returned (.slice (some ⟨w.heap.size,0,none⟩) xs.length xs.length)) wr from⟨rfl,(hall.lt _ rfl).2,fun i hi=>by
    obtain⟨x,-,-,-,-,hil,-⟩:=hi.get
    exact own_read (hR.len.symm▸hall) (hR.told i (by omega) hil),hb⟩)
   subst hi2
   clear hi hb hall hR
   go_wp2_with fail
   go_ret
   exact HF.out
  | succ k =>
   have hk:k<xs.length:=hR.kn
   have hi:=hR.at_
   have hi2:u5=.int .i64 (k:Int):=by rw [hi];congr 1;omega
   clear hi
   subst hi2
   obtain⟨⟨t,N⟩,A,hx,hA,hAc,hnode,hA0,hAp,htake,hscan⟩:=ends_round HWH.out hk hR.sc
   obtain⟨ad,hB,hbk,d0,d1⟩:=(HP.out _ hR.below) k (t,N) hx
   simp only at d0 d1
   obtain⟨o,ho⟩:∃ o,c=o+A:=⟨c-A,by omega⟩
   have hco:c-A=o:=by omega
   rw [hco] at htake hscan
   obtain⟨bh,hbh⟩:∃ bh,behind xs k=bh:=⟨_,rfl⟩
   rw [hbh] at htake hA0
   have hall:=hR.all
   have hp:=hR.parts
   have hb:=hR.below
   have hgw:=(hall.lt _ rfl).2
   have hfz:=World.ownsRow.frozenAt hall k
   have hcl:∃ z,wr.cell? ⟨w.heap.size,k,none⟩=some (.int .i64 z):=by
    obtain⟨z,hz⟩:∃ z,L[k]? = some z:=⟨_,List.getElem?_eq_getElem (by rw [hR.len];exact hk)⟩
    exact⟨z,own_read (hR.len.symm▸hall) hz⟩
   obtain⟨z,hcz⟩:=hcl
   have hall1:=own_put (x:=.int .i64 ((k:Int)+1)) hall rfl (i:=k) (by rw [icells_length,hR.len];exact hk)
   rw [icells_set] at hall1
   have hp1:=own_of_block hp (w':=wr.setCell ⟨w.heap.size,k,none⟩ (.int .i64 ((k:Int)+1))) (fun i e=>Below.heap_setCell _ _ _ _ (fun q=>hR.ne (e.trans (congrArg some (by first | exact q | exact q.symm)))))
   have hb1:Below w.heap.size w (wr.setCell ⟨w.heap.size,k,none⟩ (.int .i64 ((k:Int)+1))):=hb.setCell (p:=⟨w.heap.size,k,none⟩) (Nat.le_refl _) _
   obtain⟨ad1,hB1,hbk1,e0,e1⟩:=(HP.out _ hb1) k (t,N) hx
   cases hB
   cases hB1
   simp only at e0 e1
   obtain⟨W1,hW1⟩:∃ W1,wr.setCell ⟨w.heap.size,k,none⟩ (.int .i64 ((k:Int)+1))=W1:=⟨_,rfl⟩
   rw [hW1] at hall1 hp1 hb1 e0 e1
   have HA:=Lib.hid (show ∀ W,Calls Tryz.prog 49 #[.agg #[.int .i64 t,.int .i64 N]] W fun e w'=>e=.returned (.int .i64 (A:Int))∧Below W.heap.size W w' from fun W=>by rw [← hA];exact HAR.out t N W)
   have i1:(k:Int)<(xs.length:Int):=by omega
   have i2:(0:Int)≤(k:Int):=by omega
   have v1:IntKind.i64.wrap ((k:Int)+1)=(k:Int)+1:=IntWalk.i64_in _ (by omega)
   have v2:IntKind.i64.wrap ((k:Int)-1)=(k:Int)-1:=IntWalk.i64_in _ (by omega)
   have hcn:c≤xs.length:=by
    have:=(scan_le _ _ _ hR.sc).1
    omega
   have v3:IntKind.i64.wrap ((c:Int)-(A:Int))=(o:Int):=by rw [IntWalk.i64_in _ (by omega)];omega
   have HR:=Lib.hid hR
   have HT:=Lib.hid htake
   have HSC:=Lib.hid hscan
   have HBH:=Lib.hid hbh
   have HH:=Lib.hid (fun(W:World) (L':List Int) (v':Value) (hL:L'=L.set k ((bh:Nat):Int)) (h1:W.ownsRow w.heap.size 3 1 (.slice (some ⟨w.heap.size,0,none⟩) xs.length xs.length) xs.length (icells L')) (h2:W.ownsRow w.heap.size 3 1 v' (o+1) (icells (eFrom xs (o+1) k))) (h3:v'.ownBlock≠some w.heap.size) (h4:Below w.heap.size w W)=>hR.next (o:=o) (A:=A) hk (by rw [hbh];exact hL) hscan h1 h2 h3 h4)
   have HLL:=Lib.hid hR.len
   have hall1L:(L.set k ((k:Int)+1)).length=xs.length:=by rw [List.length_set];exact hR.len
   have hp2:=hp.2
   clear hR htake hscan hbh hA hx hnode hall hp hb d0 d1
   rcases hp2 with⟨hv,hc0⟩ | ⟨pb,pc,cur,hv,-,-,hpn,-⟩
   ·-- no parts yet
    have hA00:A=0:=by omega
    have ho0:o=0:=by omega
    have hbk0:=hA0 hA00
    subst hA00
    subst ho0
    subst hbk0
    subst hv
    subst hc0
    clear hA0 hAp hAc ho hco hcn v3
    go_wp2_with (first | (go_at_call 49;(with_reducible refine(HA.out _).mono ?_);rintro e w2 ⟨rfl,hb2⟩) | fail)
    have hall2:=own_of_block hall1 (fun i e=>hb2.block i (hall1.lt i e).2)
    have hp2:=own_of_block hp1 (fun i e=>hb2.block i (hp1.lt i e).2)
    have hbF:=hb1.trans (hb2.mono hb1.size)
    have hallF:w2.ownsRow w.heap.size 3 1 (.slice (some ⟨w.heap.size,0,none⟩) xs.length xs.length) xs.length (icells (L.set k ((k:Int)+1))):=hall2
    have hlenF:=hall1L
    have hC0:(fun w'=>w'.cell? ⟨w.heap.size,k,none⟩=some (.int .i64 ((k:Int)+1))) w2.drew:=own_read (hlenF.symm▸hallF) (by rw [List.getElem?_set_self (by rw [HLL.out];exact hk)])
    have hbA:=((Below.refl w2.heap.size w2).alloc (Nat.le_refl _) (.cells #[.int .i64 ((k:Int)+1)] 3)).drew
    have hC4:(fun w'=>w'.cell? ⟨w.heap.size,k,none⟩=some (.int .i64 ((k:Int)+1))) (w2.alloc (.cells #[.int .i64 ((k:Int)+1)] 3)).drew:=(hbA.cell (p:=⟨w.heap.size,k,none⟩) (hallF.lt _ rfl).2).trans hC0
    have hsz3:=hbF.size
    refine OrdU.wp_region_U 8 (fun w'=>w'.cell? ⟨w.heap.size,k,none⟩=some (.int .i64 ((k:Int)+1))) (by kernel_rfl) hC0 (fun hHeld=>?_)
    refine OrdU.tk 0 (h:=?_)
    refine OrdU.tk 1 (h:=?_)
    refine OrdU.tk 2 (h:=?_)
    refine OrdU.tk 3 (h:=?_)
    refine OrdU.tk 4 (h:=?_)
    refine OrdU.tk 5 (h:=?_)
    refine OrdU.tk 6 (h:=?_)
    refine OrdU.one 7 (h:=fun K' hK=>?_)
    go_simp
    refine OrdU.bh hK (hC4) (h:=fun hHeld=>?_)
    clear hK K'
    refine OrdU.one 8 (h:=fun K' hK=>?_)
    refine step_append_lies _ (by rfl) _ _ _ (by rfl) w.heap.size 3 ig _ 1 8 Tryz.underlying22 hig hz0 hz1 hz2 rfl (by omega) _ 0 _ (by rfl) (World.ownsRow_nil _ _ _ _) ⟨w2.heap.size,0,none⟩ 1 1 [.int .i64 ((k:Int)+1)] (by rfl) (by rfl) (World.news_of_block (cs:=#[.int .i64 ((k:Int)+1)]) (t:=3) (fr:=(0,0)) (heap_alloc_new w2 _)) (by simp [Value.oneCell']) (by omega) (by simp only [maxLen];omega) (by omega) (by simp;omega) (w2.heap.size+1) (by simp) ?_
    intro gg cap4 w5 hown hgr hat hlt5
    refine OrdU.bk hK (h:=?_)
    clear hK K'
    refine OrdU.one 9 (h:=fun K' hK=>?_)
    go_simp
    refine OrdU.bk hK (h:=?_)
    clear hK K'
    refine OrdU.wpAnyU_done (by kernel_rfl) ?_ _
    have HF:=Lib.hid (ends_done (v:=.slice none 0 0) HH.out hallF hbF (fun e=>by cases e) (fun i e=>by cases e) hown (by rw [← HT.out];rfl) hgr hat)
    exact zMachPJ1
   ·have hne:pb≠w.heap.size:=fun e=>HR.out.ne (by rw [hv,e];rfl)
    subst hv
    by_cases hAz:A=0
    ·have hbk0:=hA0 hAz
     subst hAz
     subst hbk0
     have hoc:o=c:=by omega
     subst hoc
     clear hA0 hAp hAc ho hco
     have i5:(o:Int)≤(pc:Int):=by omega
     have i6:(0:Int)≤(o:Int):=by omega
     have hlo:decide ((o:Int)<(o:Int))=false:=decide_eq_false (by omega)
     go_wp2_with (first | (go_at_call 49;(with_reducible refine(HA.out _).mono ?_);rintro e w2 ⟨rfl,hb2⟩) | fail)
     have hall2:=own_of_block hall1 (fun i e=>hb2.block i (hall1.lt i e).2)
     have hp2:=own_of_block hp1 (fun i e=>hb2.block i (hp1.lt i e).2)
     have hbF:=hb1.trans (hb2.mono hb1.size)
     have hallF:w2.ownsRow w.heap.size 3 1 (.slice (some ⟨w.heap.size,0,none⟩) xs.length xs.length) xs.length (icells (L.set k ((k:Int)+1))):=hall2
     have hlenF:=hall1L
     have hC0:(fun w'=>w'.cell? ⟨w.heap.size,k,none⟩=some (.int .i64 ((k:Int)+1))) w2.drew:=own_read (hlenF.symm▸hallF) (by rw [List.getElem?_set_self (by rw [HLL.out];exact hk)])
     have hbA:=((Below.refl w2.heap.size w2).alloc (Nat.le_refl _) (.cells #[.int .i64 ((k:Int)+1)] 3)).drew
     have hC4:(fun w'=>w'.cell? ⟨w.heap.size,k,none⟩=some (.int .i64 ((k:Int)+1))) (w2.alloc (.cells #[.int .i64 ((k:Int)+1)] 3)).drew:=(hbA.cell (p:=⟨w.heap.size,k,none⟩) (hallF.lt _ rfl).2).trans hC0
     have hsz3:=hbF.size
     refine OrdU.wp_region_U 8 (fun w'=>w'.cell? ⟨w.heap.size,k,none⟩=some (.int .i64 ((k:Int)+1))) (by kernel_rfl) hC0 (fun hHeld=>?_)
     refine OrdU.tk 0 (h:=?_)
     refine OrdU.tk 1 (h:=?_)
     refine OrdU.tk 2 (h:=?_)
     refine OrdU.tk 3 (h:=?_)
     refine OrdU.tk 4 (h:=?_)
     refine OrdU.tk 5 (h:=?_)
     refine OrdU.tk 6 (h:=?_)
     refine OrdU.one 7 (h:=fun K' hK=>?_)
     go_simp
     refine OrdU.bh hK (hC4) (h:=fun hHeld=>?_)
     clear hK K'
     refine OrdU.one 8 (h:=fun K' hK=>?_)
     refine step_append_lies _ (by rfl) _ _ _ (by rfl) w.heap.size 3 ig _ 1 8 Tryz.underlying22 hig hz0 hz1 hz2 rfl (by omega) _ o _ (by rfl) ((hp2.alloc _).drew) ⟨w2.heap.size,0,none⟩ 1 1 [.int .i64 ((k:Int)+1)] (by rfl) (by rfl) (World.news_of_block (cs:=#[.int .i64 ((k:Int)+1)]) (t:=3) (fr:=(0,0)) (heap_alloc_new w2 _)) (by simp [Value.oneCell']) (by omega) (by simp only [maxLen];omega) (by omega) (by simp;omega) (w2.heap.size+1) (by simp) ?_
     intro gg cap4 w5 hown hgr hat hlt5
     refine OrdU.bk hK (h:=?_)
     clear hK K'
     refine OrdU.one 9 (h:=fun K' hK=>?_)
     go_simp
     refine OrdU.bk hK (h:=?_)
     clear hK K'
     refine OrdU.wpAnyU_done (by kernel_rfl) ?_ _
     have HF:=Lib.hid (ends_done (v:=.slice (some ⟨pb,0,none⟩) o pc) HH.out hallF hbF (fun e=>hne (Option.some.inj e)) (fun i e=>(hp2.lt i e).1) hown (by rw [← HT.out,List.take_of_length_le (by rw [eFrom_len];exact Nat.le_refl _),icells_snoc]) hgr hat)
     exact zMachPJ1
    ·obtain⟨A',hA'⟩:∃ A',A=A'+1:=⟨A-1,by omega⟩
     have hrd:=hAp A' hA'
     rw [hco] at hrd
     have hrd1:=own_read (by rw [eFrom_len];exact hp1) hrd
     have i5:(o:Int)≤(pc:Int):=by omega
     have i6:(0:Int)≤(o:Int):=by omega
     have i7:(o:Int)<(c:Int):=by omega
     clear hA0 hAp hA' hco hrd ho
     go_wp2_with (first | (go_at_call 49;(with_reducible refine(HA.out _).mono ?_);rintro e w2 ⟨rfl,hb2⟩;have hall2:=own_of_block hall1 (fun i e=>hb2.block i (hall1.lt i e).2);have hp2:=own_of_block hp1 (fun i e=>hb2.block i (hp1.lt i e).2);have hrd2:w2.cell? ⟨pb,o,none⟩=some (.int .i64 (bh:Nat)):=(hb2.cell (p:=⟨pb,o,none⟩) (hp1.lt _ rfl).2).trans (by rw [HBH.out] at hrd1;exact hrd1);have hfz2:=World.ownsRow.frozenAt hall2 k;have hcz2:∃ z,w2.cell? ⟨w.heap.size,k,none⟩=some (.int .i64 z):=⟨_,own_read (hall1L.symm▸hall2) (by rw [List.getElem?_set_self (by rw [HLL.out];exact hk)])⟩;obtain⟨z2,hcz2⟩:=hcz2) | fail)
     have hbF2:=hb1.trans (hb2.mono hb1.size)
     have hall3:=own_put (x:=.int .i64 (bh:Nat)) hall2 rfl (i:=k) (by rw [icells_length,hall1L];exact hk)
     rw [icells_set,List.set_set] at hall3
     have hp3:=own_of_block hp2 (w':=w2.setCell ⟨w.heap.size,k,none⟩ (.int .i64 (bh:Nat))) (fun i e=>Below.heap_setCell _ _ _ _ (fun q=>hne ((Option.some.inj e).trans (by first | exact q | exact q.symm))))
     have hbF:Below w.heap.size w (w2.setCell ⟨w.heap.size,k,none⟩ (.int .i64 (bh:Nat))):=hbF2.setCell (p:=⟨w.heap.size,k,none⟩) (Nat.le_refl _) _
     have hpT:=own_take hp3 (k:=o) (by omega)
     obtain⟨W3,hW3⟩:∃ W3,w2.setCell ⟨w.heap.size,k,none⟩ (.int .i64 (bh:Nat))=W3:=⟨_,rfl⟩
     rw [hW3] at hall3 hbF hpT
     rw [hW3]
     have hallF:=hall3
     have hlenF:(L.set k ((bh:Nat):Int)).length=xs.length:=by rw [List.length_set];exact HLL.out
     have hC0:(fun w'=>w'.cell? ⟨w.heap.size,k,none⟩=some (.int .i64 ((bh:Nat)))) W3.drew:=own_read (hlenF.symm▸hallF) (by rw [List.getElem?_set_self (by rw [HLL.out];exact hk)])
     have hbA:=((Below.refl W3.heap.size W3).alloc (Nat.le_refl _) (.cells #[.int .i64 ((bh:Nat))] 3)).drew
     have hC4:(fun w'=>w'.cell? ⟨w.heap.size,k,none⟩=some (.int .i64 ((bh:Nat)))) (W3.alloc (.cells #[.int .i64 ((bh:Nat))] 3)).drew:=(hbA.cell (p:=⟨w.heap.size,k,none⟩) (hallF.lt _ rfl).2).trans hC0
     have hsz3:=hbF.size
     refine OrdU.wp_region_U 8 (fun w'=>w'.cell? ⟨w.heap.size,k,none⟩=some (.int .i64 ((bh:Nat)))) (by kernel_rfl) hC0 (fun hHeld=>?_)
     refine OrdU.tk 0 (h:=?_)
     refine OrdU.tk 1 (h:=?_)
     refine OrdU.tk 2 (h:=?_)
     refine OrdU.tk 3 (h:=?_)
     refine OrdU.tk 4 (h:=?_)
     refine OrdU.tk 5 (h:=?_)
     refine OrdU.tk 6 (h:=?_)
     refine OrdU.one 7 (h:=fun K' hK=>?_)
     go_simp
     refine OrdU.bh hK (hC4) (h:=fun hHeld=>?_)
     clear hK K'
     refine OrdU.one 8 (h:=fun K' hK=>?_)
     refine step_append_lies _ (by rfl) _ _ _ (by rfl) w.heap.size 3 ig _ 1 8 Tryz.underlying22 hig hz0 hz1 hz2 rfl (by omega) _ o _ (by rfl) ((hpT.alloc _).drew) ⟨W3.heap.size,0,none⟩ 1 1 [.int .i64 ((bh:Nat))] (by rfl) (by rfl) (World.news_of_block (cs:=#[.int .i64 ((bh:Nat))]) (t:=3) (fr:=(0,0)) (heap_alloc_new W3 _)) (by simp [Value.oneCell']) (by omega) (by simp only [maxLen];omega) (by omega) (by simp;omega) (W3.heap.size+1) (by simp) ?_
     intro gg cap4 w5 hown hgr hat hlt5
     refine OrdU.bk hK (h:=?_)
     clear hK K'
     refine OrdU.one 9 (h:=fun K' hK=>?_)
     go_simp
     refine OrdU.bk hK (h:=?_)
     clear hK K'
     refine OrdU.wpAnyU_done (by kernel_rfl) ?_ _
     have HF:=Lib.hid (ends_done (v:=.slice (some ⟨pb,0,none⟩) o pc) HH.out hallF hbF (fun e=>hne (Option.some.inj e)) (fun i e=>(hpT.lt i e).1) hown (by rw [← HT.out,icells_snoc];unfold icells;rw [List.map_take,Nat.mul_one]) hgr hat)
     exact zMachPJ1
end Go.Proofs.YtekogckmgkodfaaGreatDoor.Mach
namespace Go.Proofs.YtekogckmgkodfaaGreatDoor.Mach
open Go.RowKit Mem Arena Kinds Path Cat Suite
section
variable {s:St} {S:List Fr}
theorem sem_pure(ho:s.over=false)(v:Int):semC (pureM v) (s,S)=tellC v (s,S):=by
 unfold semC pureM
 simp only
 rw [if_neg (by rw [ho];decide)]
theorem sem_stop(k v:Int):semC (stopM k v) (s,S)=(s.stop k v,S):=by
 unfold semC stopM
 simp only
 rw [if_pos (stop_over s k v)]
theorem sem_getV(ho:s.over=false){i:Int}{z:Int}(h:s.vals[i.toNat]? = some z):semC (getV i) (s,S)=tellC z (s,S):=by
 unfold semC getV
 simp only
 rw [if_neg (by rw [ho];decide),List.getD_eq_getElem?_getD,h];rfl
theorem sem_is{m:Sem}{s':St}{v:Int}(e:m s=(s',v))(ho:s'.over=false):semC m (s,S)=tellC v (s',S):=by
 unfold semC
 simp only
 rw [e,if_neg (by rw [ho];decide)]
theorem sem_ends{m:Sem}{s':St}{v:Int}(e:m s=(s',v))(ho:s'.over=true):semC m (s,S)=(s',S):=by
 unfold semC
 simp only
 rw [e,if_pos ho]
theorem sem_getA_out{i a:Int}(h:a<0∨((arr s i).length:Int)≤a):semC (getA i a) (s,S)=(s.stop 2 0,S):=by
 refine sem_ends (v:=0) ?_ (stop_over s 2 0)
 unfold getA
 rw [if_pos h]
theorem sem_getA(ho:s.over=false){i:Int}{j:Nat}{z:Int}(h:(arr s i)[j]? = some z):semC (getA i j) (s,S)=tellC z (s,S):=by
 have hl:=(List.getElem?_eq_some_iff.1 h).1
 refine sem_is ?_ ho
 unfold getA
 rw [if_neg (by omega),Int.toNat_natCast,List.getD_eq_getElem?_getD,h];rfl
theorem sem_setV(ho:s.over=false)(i v:Int):semC (setV i v) (s,S)=tellC 0 ({ s with vals:=s.vals.set i.toNat v,ev:=s.ev++[(i,-1,v)] },S):=by
 unfold semC setV
 simp only
 rw [if_neg (by rw [ho];decide)]
theorem sem_setA_out{i a v:Int}(h:a<0∨((arr s i).length:Int)≤a):semC (setA i a v) (s,S)=(s.stop 2 0,S):=by
 refine sem_ends (v:=0) ?_ (stop_over s 2 0)
 unfold setA
 rw [if_pos h]
theorem sem_setA(ho:s.over=false){i v:Int}{j:Nat}(h:j<(arr s i).length):semC (setA i j v) (s,S)=tellC 0 ({ s with arrs:=s.arrs.set i.toNat ((arr s i).set j v),ev:=s.ev++[(i,(j:Int),v)] },S):=by
 refine sem_is ?_ ho
 unfold setA
 rw [if_neg (by omega),Int.toNat_natCast]
end
theorem do_sem(l:List Nd){t N:Int}{pos next:Nat}{x y:Int}{c:Cfg}(n18:t≠18)(n19:t≠19)(n23:t≠23)(n24:t≠24):doC l ⟨(t,N),pos,next,0,x,y,false⟩ c=semC (doM (t,N) x y) c:=by
 unfold doC
 simp only
 rw [if_neg (by decide),if_neg n18,if_neg n19,if_neg n23,if_neg n24]
theorem do_bin{t N x y:Int}(h:7≤t∧t≤17):doM (t,N) x y=bin t x y:=by
 unfold doM
 simp only
 rw [if_neg (by omega),if_neg (by omega),if_neg (by omega),if_neg (by omega),if_neg (by omega),if_neg (by omega),if_neg (by omega),if_neg (by omega),if_neg (by omega)]
section
variable {K:PK} {κ:Nat→Nat} {evv sv:Value} {Y:List ((Option Addr×Nat)×List Int)} {s:St} {S:List Fr} {W W':World}
theorem Live.pop{f:Fr}(h:Live K s (f::S)):Live K s S:=⟨h.on,h.sum,h.top,by have:=h.few;simp only [List.length_cons] at this;omega⟩
theorem turn_act(t N:Int)(pos next:Nat)(x y:Int)(h:PM K κ evv sv Y s (⟨(t,N),pos,next,0,x,y,false⟩::S) W)(hL:Live K s (⟨(t,N),pos,next,0,x,y,false⟩::S))(ht:1≤t∧t≤26)(hs:SafeDo K.p.xs ⟨(t,N),pos,next,0,x,y,false⟩ s) :
  Calls Tryz.prog 31 #[.pointer (some ⟨K.g,0,none⟩)] W (Turn K κ W (stepC K.p.xs (s,⟨(t,N),pos,next,0,x,y,false⟩::S))):=by
 have hl:S.length<1000000:=hL.pop.hl
 have hP:=hL.pop
 have ho:=hL.on
 have hd:∀ v,K.actv t=v→doesV K.actv ⟨(t,N),pos,next,0,x,y,false⟩=v:=fun v e=>e
 have ha:=h.cn.acts t ht.1 ht.2
 unfold ActV at ha
 rcases ha with⟨h1,e⟩ | ⟨h1,e⟩ | ⟨h1,e⟩ | ⟨h1,e⟩ | ⟨h1,e⟩ | ⟨h1,e⟩ | ⟨h1,e⟩ | ⟨h1,e⟩ | ⟨h1,e⟩ | ⟨h1,b,e,hb⟩ | ⟨b,q,h1,e,hb⟩ | ⟨b,c,q,h1,e,hc,hb⟩ | ⟨b,c,q,h1,e,hc,hb⟩
 ·refine turn_do t N pos next x y false _ h hl (hd _ e) (fun W=>rfl) fun sv' W' h'=>?_
  have hr:doC K.p.xs ⟨(t,N),pos,next,0,x,y,false⟩ (s,S)=tellC N (s,S):=by
   rw [do_sem _ (by omega) (by omega) (by omega) (by omega),← sem_pure ho]
   unfold doM
   simp only
   rw [if_pos h1]
  rw [hr]
  exact act_constant h' hP t N pos next 0 x y _ _
 ·obtain⟨n0,n1⟩:=hs.v rfl (.inl h1)
  simp only at n0 n1
  refine turn_do t N pos next x y false _ h hl (hd _ e) (fun W=>rfl) fun sv' W' h'=>?_
  obtain⟨m,rfl⟩:=Int.eq_ofNat_of_zero_le n0
  obtain⟨z,hz⟩:∃ z,s.vals[m]? = some z:=⟨_,List.getElem?_eq_getElem (by omega)⟩
  have hr:doC K.p.xs ⟨(t,(m:Int)),pos,next,0,x,y,false⟩ (s,S)=tellC z (s,S):=by
   rw [do_sem _ (by omega) (by omega) (by omega) (by omega),← sem_getV ho (i:=(m:Int)) (by rw [Int.toNat_natCast];exact hz)]
   unfold doM
   simp only
   rw [if_neg (by omega),if_pos h1]
  rw [hr]
  exact act_variable h' hP t m pos next 0 x y _ _ z hz
 ·obtain⟨n0,n1⟩:=hs.a rfl (.inl h1)
  simp only at n0 n1
  refine turn_do t N pos next x y false _ h hl (hd _ e) (fun W=>rfl) fun sv' W' h'=>?_
  obtain⟨m,rfl⟩:=Int.eq_ofNat_of_zero_le n0
  have hr:doC K.p.xs ⟨(t,(m:Int)),pos,next,0,x,y,false⟩ (s,S)=semC (getA m y) (s,S):=by
   rw [do_sem _ (by omega) (by omega) (by omega) (by omega)]
   unfold doM
   simp only
   rw [if_neg (by omega),if_neg (by omega),if_pos h1]
  rw [hr]
  by_cases hq:y<0∨((arr s m).length:Int)≤y
  ·rw [sem_getA_out hq]
   exact act_element_out h' hP t m pos next 0 x y _ _ (by omega) hq
  ·obtain⟨j,rfl⟩:=Int.eq_ofNat_of_zero_le (show 0≤y by omega)
   obtain⟨z,hz⟩:∃ z,(arr s m)[j]? = some z:=⟨_,List.getElem?_eq_getElem (by omega)⟩
   rw [sem_getA ho hz]
   exact act_element h' hP t m pos next 0 x j _ _ z (by omega) hz
 ·refine turn_do t N pos next x y false _ h hl (hd _ e) (fun W=>rfl) fun sv' W' h'=>?_
  have hr:doC K.p.xs ⟨(t,N),pos,next,0,x,y,false⟩ (s,S)=tellC 0 (s,S):=by
   rw [do_sem _ (by omega) (by omega) (by omega) (by omega),← sem_pure ho]
   unfold doM
   simp only
   rw [if_neg (by omega),if_neg (by omega),if_neg (by omega),if_neg (by omega),if_neg (by omega),if_pos h1]
  rw [hr]
  exact act_nothing h' hP t N pos next 0 x y _ _
 ·obtain⟨n0,n1⟩:=hs.v rfl (.inr h1)
  simp only at n0 n1
  refine turn_do t N pos next x y false _ h hl (hd _ e) (fun W=>rfl) fun sv' W' h'=>?_
  obtain⟨m,rfl⟩:=Int.eq_ofNat_of_zero_le n0
  have hr:doC K.p.xs ⟨(t,(m:Int)),pos,next,0,x,y,false⟩ (s,S)=tellC 0 ({ s with vals:=s.vals.set m y,ev:=s.ev++[((m:Int),-1,y)] },S):=by
   have q:=sem_setV (S:=S) ho (m:Int) y
   rw [Int.toNat_natCast] at q
   rw [do_sem _ (by omega) (by omega) (by omega) (by omega),← q]
   unfold doM
   simp only
   rw [if_neg (by omega),if_neg (by omega),if_neg (by omega),if_neg (by omega),if_neg (by omega),if_neg (by omega),if_pos h1]
  rw [hr]
  exact act_set h' hP t m pos next 0 x y _ _ (by omega)
 ·obtain⟨n0,n1⟩:=hs.a rfl (.inr h1)
  simp only at n0 n1
  refine turn_do t N pos next x y false _ h hl (hd _ e) (fun W=>rfl) fun sv' W' h'=>?_
  obtain⟨m,rfl⟩:=Int.eq_ofNat_of_zero_le n0
  have hr:doC K.p.xs ⟨(t,(m:Int)),pos,next,0,x,y,false⟩ (s,S)=semC (setA m x y) (s,S):=by
   rw [do_sem _ (by omega) (by omega) (by omega) (by omega)]
   unfold doM
   simp only
   rw [if_neg (by omega),if_neg (by omega),if_neg (by omega),if_neg (by omega),if_neg (by omega),if_neg (by omega),if_neg (by omega),if_pos h1]
  rw [hr]
  by_cases hq:x<0∨((arr s m).length:Int)≤x
  ·rw [sem_setA_out hq]
   exact act_put_out h' hP t m pos next 0 x y _ _ (by omega) hq
  ·obtain⟨j,rfl⟩:=Int.eq_ofNat_of_zero_le (show 0≤x by omega)
   have q:=sem_setA (S:=S) ho (i:=(m:Int)) (v:=y) (j:=j) (by omega)
   rw [Int.toNat_natCast] at q
   rw [q]
   exact act_put h' hP t m pos next 0 j y _ _ (by omega) (by omega)
 ·refine turn_do t N pos next x y false _ h hl (hd _ e) (fun W=>rfl) fun sv' W' h'=>?_
  have hr:doC K.p.xs ⟨(t,N),pos,next,0,x,y,false⟩ (s,S)=if y=1 then enterC K.p.xs next (s,S) else enterC K.p.xs (behind K.p.xs next) (s,S):=by
   unfold doC
   simp only
   rw [if_neg (by decide),if_neg (by omega),if_neg (by omega),if_pos h1]
  rw [hr]
  exact act_branch h' hP t N pos next 0 x y _ _ (hs.next rfl (.inr (.inr h1))) (hs.next2 rfl h1)
 ·refine turn_do t N pos next x y false _ h hl (hd _ e) (fun W=>rfl) fun sv' W' h'=>?_
  have hr:doC K.p.xs ⟨(t,N),pos,next,0,x,y,false⟩ (s,S)=if y=0 then tellC 0 (s,S) else(s,⟨(t,N),pos,next,1,x,y,true⟩::S):=by
   unfold doC
   simp only
   rw [if_neg (by decide),if_neg (by omega),if_neg (by omega),if_neg (by omega),if_pos h1]
  rw [hr]
  exact act_loop h' hP t N pos next 0 x y _ _
 ·refine turn_do t N pos next x y false _ h hl (hd _ e) (fun W=>rfl) fun sv' W' h'=>?_
  have hr:doC K.p.xs ⟨(t,N),pos,next,0,x,y,false⟩ (s,S)=(s.stop 0 y,S):=by
   rw [do_sem _ (by omega) (by omega) (by omega) (by omega),← sem_stop]
   unfold doM
   simp only
   rw [if_neg (by omega),if_neg (by omega),if_neg (by omega),if_neg (by omega),if_neg (by omega),if_neg (by omega),if_neg (by omega),if_neg (by omega),if_pos h1]
  rw [hr]
  exact act_giveBack h' hP t N pos next 0 x y _ _
 ·refine turn_doP t N pos next x y false _ b h hl (hd _ e) (fun W=>rfl) fun sv' W' h'=>?_
  have hr:doC K.p.xs ⟨(t,N),pos,next,0,x,y,false⟩ (s,S)=if y=t-18 then tellC (t-18) (s,S) else enterC K.p.xs next (s,S):=by
   unfold doC
   simp only
   rcases h1 with rfl | rfl
   ·rw [if_neg (by decide),if_pos rfl];rfl
   ·rw [if_neg (by decide),if_neg (by decide),if_pos rfl];rfl
  rw [hr]
  exact act_joined h' hP t N pos next 0 x y _ _ b (t-18) (h'.cn.box hb) (hs.next rfl (by rcases h1 with h1 | h1;exact .inl h1;exact .inr (.inl h1)))
 ·refine turn_doP t N pos next x y false _ b h hl (hd _ e) (fun W=>rfl) fun sv' W' h'=>?_
  have go:∀ F:Int→Int→Int,Two q F→(∀ w:World,(callFunc q #[.int .i64 x,.int .i64 y]).run Tryz.prog w=.ok (.enter q #[.int .i64 x,.int .i64 y]) w)→t≠18∧t≠19∧t≠23∧t≠24→doM (t,N) x y=pureM (F x y)→Calls Tryz.prog 91 #[.pointer (some ⟨K.g,0,none⟩),.agg #[.int .i64 t,.int .i64 N,.int .i64 pos,.int .i64 next,.int .i64 0,.int .i64 x,.int .i64 y,.func (.func 91) #[] #[.pointer (some ⟨b,0,none⟩)]],.pointer (some ⟨b,0,none⟩)] W' (Turn K κ W' (doC K.p.xs ⟨(t,N),pos,next,0,x,y,false⟩ (s,S))):=by
   intro F hF hq hn hm
   rw [do_sem _ hn.1 hn.2.1 hn.2.2.1 hn.2.2.2,hm,sem_pure ho]
   exact act_reckoned h' hP t N pos next 0 x y _ _ b q F (h'.cn.box hb) (hF _ _ _) hq
  simp only [List.mem_cons,List.not_mem_nil,or_false,Prod.mk.injEq] at h1
  rcases h1 with⟨rfl,rfl⟩ | ⟨rfl,rfl⟩ | ⟨rfl,rfl⟩ | ⟨rfl,rfl⟩ | ⟨rfl,rfl⟩
  ·exact go _ two_neg (fun w=>rfl) (by decide) rfl
  ·exact go _ two_not (fun w=>rfl) (by decide) rfl
  ·exact go _ two_add (fun w=>rfl) (by decide) rfl
  ·exact go _ two_sub (fun w=>rfl) (by decide) rfl
  ·exact go _ two_mul (fun w=>rfl) (by decide) rfl
 ·refine turn_doP t N pos next x y false _ c h hl (hd _ e) (fun W=>rfl) fun sv' W' h'=>?_
  simp only [List.mem_cons,List.not_mem_nil,or_false,Prod.mk.injEq] at h1
  have ht2:t=10∨t=11:=by rcases h1 with⟨h1,-⟩ | ⟨h1,-⟩;exact .inl h1;exact .inr h1
  rw [do_sem _ (by omega) (by omega) (by omega) (by omega),do_bin (by omega)]
  have hbin:bin t x y=if y=0 then stopM 1 0 else pureM (if t=10 then IntKind.i64.wrap (x.tdiv y) else x.tmod y):=by
   unfold bin
   rw [if_neg (by omega),if_neg (by omega),if_neg (by omega),if_pos ht2]
  rw [hbin]
  by_cases hy:y=0
  ·rw [if_pos hy,sem_stop]
   exact act_divided_0 h' hP t N pos next 0 x y _ _ c hy
  ·rw [if_neg hy,sem_pure ho]
   rcases h1 with⟨rfl,rfl⟩ | ⟨rfl,rfl⟩
   ·exact act_divided h' hP 10 N pos next 0 x y _ _ b c _ (fun x y=>IntKind.i64.wrap (x.tdiv y)) hy (h'.cn.box hc) (h'.cn.box hb) (fun w=>two_div x y w hy) (fun w=>rfl)
   ·exact act_divided h' hP 11 N pos next 0 x y _ _ b c _ (fun x y=>x.tmod y) hy (h'.cn.box hc) (h'.cn.box hb) (fun w=>two_mod x y w hy) (fun w=>rfl)
 ·refine turn_doP t N pos next x y false _ c h hl (hd _ e) (fun W=>rfl) fun sv' W' h'=>?_
  have go:∀ F:Int→Int→Bool,TwoB q F→(∀ (x y:Int) (w:World),(callFunc q #[.int .i64 x,.int .i64 y]).run Tryz.prog w=.ok (.enter q #[.int .i64 x,.int .i64 y]) w)→t≠18∧t≠19∧t≠23∧t≠24→doM (t,N) x y=pureM (b01 (F x y))→Calls Tryz.prog 91 #[.pointer (some ⟨K.g,0,none⟩),.agg #[.int .i64 t,.int .i64 N,.int .i64 pos,.int .i64 next,.int .i64 0,.int .i64 x,.int .i64 y,.func (.func 91) #[] #[.pointer (some ⟨c,0,none⟩)]],.pointer (some ⟨c,0,none⟩)] W' (Turn K κ W' (doC K.p.xs ⟨(t,N),pos,next,0,x,y,false⟩ (s,S))):=by
   intro F hF hq hn hm
   rw [do_sem _ hn.1 hn.2.1 hn.2.2.1 hn.2.2.2,hm,sem_pure ho]
   have hb':=h'.cn.box hb
   exact act_reckonedP h' hP t N pos next 0 x y _ _ c b _ (fun x y=>if F x y=true then 1 else 0) (h'.cn.box hc) (compared_any hF hq b x y _ ((hb'.1.alloc _).cell 0)) (fun w=>rfl)
  simp only [List.mem_cons,List.not_mem_nil,or_false,Prod.mk.injEq] at h1
  rcases h1 with⟨rfl,rfl⟩ | ⟨rfl,rfl⟩ | ⟨rfl,rfl⟩ | ⟨rfl,rfl⟩ | ⟨rfl,rfl⟩ | ⟨rfl,rfl⟩
  ·exact go _ two_eq (fun x y w=>rfl) (by decide) rfl
  ·exact go _ two_ne (fun x y w=>rfl) (by decide) rfl
  ·exact go _ two_lt (fun x y w=>rfl) (by decide) rfl
  ·exact go _ two_le (fun x y w=>rfl) (by decide) rfl
  ·exact go _ two_gt (fun x y w=>rfl) (by decide) rfl
  ·exact go _ two_ge (fun x y w=>rfl) (by decide) rfl
theorem turn_any{f:Fr}(h:PM K κ evv sv Y s (f::S) W)(hL:Live K s (f::S))(hs:SafeS K.p.xs s (f::S))(hlow:f.owed≤200):Calls Tryz.prog 31 #[.pointer (some ⟨K.g,0,none⟩)] W (Turn K κ W (stepC K.p.xs (s,f::S))):=by
 obtain⟨⟨t,N⟩,pos,next,owed,x,y,ag⟩:=f
 obtain⟨t1,t2,hd,hk⟩:=hs
 simp only at t1 t2 hd hk hlow
 cases owed with
 | succ j=>exact turn_kid h rfl hL (by omega) (hk (by omega))
 | zero =>
  cases ag with
  | false=>exact turn_act t N pos next x y h hL ⟨t1,t2⟩ (hd rfl)
  | true =>
   refine turn_do t N pos next x y true _ h hL.pop.hl rfl (fun W=>rfl) fun sv' W' h'=>?_
   have hr:doC K.p.xs ⟨(t,N),pos,next,0,x,y,true⟩ (s,S)=enterC K.p.xs pos (s,S):=by
    unfold doC
    simp only
    rw [if_pos trivial]
   rw [hr]
   exact act_again h' hL.pop t N pos next 0 x y _ _ ((hd rfl).ag rfl)
end
end Go.Proofs.YtekogckmgkodfaaGreatDoor.Mach
namespace Go.Proofs.YtekogckmgkodfaaGreatDoor.Mach
open Go.RowKit Mem Arena Kinds Path Cat Suite
attribute [local go_sem ↓] Go.wp_at_zero Go.wp_at_succ
def After(m k:Nat):Prop:=m<k
def Made(m:Nat)(q:FuncId)(v:Value)(W:World):Prop:=∃ b,v=.func (.func 91) #[] #[boxP b]∧BoxIn W (After m) b 111 (.func (.func q) #[] #[])
def MadeD(m:Nat)(q:FuncId)(v:Value)(W:World):Prop:=∃ b c,v=.func (.func 92) #[] #[boxP c]∧BoxIn W (After m) c 109 (.func (.func 91) #[] #[boxP b])∧BoxIn W (After m) b 111 (.func (.func q) #[] #[])
def MadeC(m:Nat)(q:FuncId)(v:Value)(W:World):Prop:=∃ b c,v=.func (.func 91) #[] #[boxP c]∧BoxIn W (After m) c 111 (.func (.func 93) #[] #[boxP b])∧BoxIn W (After m) b 113 (.func (.func q) #[] #[])
def MadeJ(m:Nat)(k:Int)(v:Value)(W:World):Prop:=∃ b,v=.func (.func 94) #[] #[boxP b]∧BoxIn W (After m) b 3 (.int .i64 k)
theorem BoxIn.kept{W W':World}{m b:Nat}{t:TypeId}{v:Value}(h:BoxIn W (After m) b t v)(hk:Kept (fun k=>k=m) W W'):BoxIn W' (After m) b t v :=
 ⟨h.1.kept hk (fun e=>by have:=h.2;unfold After at this;omega),h.2⟩
theorem BoxIn.to{W:World}{C C':Nat→Prop}{b:Nat}{t:TypeId}{v:Value}(h:BoxIn W C b t v)(hC:∀ k,C k→k<W.heap.size→C' k):BoxIn W C' b t v:=⟨h.1,hC b h.2 h.1.lt⟩
theorem Made.kept{W W':World}{m:Nat}{q:FuncId}{v:Value}(h:Made m q v W)(hk:Kept (fun k=>k=m) W W'):Made m q v W':=by
 obtain⟨b,h1,h2⟩:=h
 exact⟨b,h1,h2.kept hk⟩
theorem MadeD.kept{W W':World}{m:Nat}{q:FuncId}{v:Value}(h:MadeD m q v W)(hk:Kept (fun k=>k=m) W W'):MadeD m q v W':=by
 obtain⟨b,c,h1,h2,h3⟩:=h
 exact⟨b,c,h1,h2.kept hk,h3.kept hk⟩
theorem MadeC.kept{W W':World}{m:Nat}{q:FuncId}{v:Value}(h:MadeC m q v W)(hk:Kept (fun k=>k=m) W W'):MadeC m q v W':=by
 obtain⟨b,c,h1,h2,h3⟩:=h
 exact⟨b,c,h1,h2.kept hk,h3.kept hk⟩
theorem MadeJ.kept{W W':World}{m:Nat}{q:Int}{v:Value}(h:MadeJ m q v W)(hk:Kept (fun k=>k=m) W W'):MadeJ m q v W':=by
 obtain⟨b,h1,h2⟩:=h
 exact⟨b,h1,h2.kept hk⟩
theorem mk_reckoned(f:FuncId)(cs:Array Value)(w:World):Calls Tryz.prog 53 #[.func (.func f) #[] cs] w fun e w'=>e=.returned (.func (.func 91) #[] #[boxP w.heap.size])∧Blk w' w.heap.size 111 #[.func (.func f) #[] cs]∧Below w.heap.size w w':=by
 have hB:Below w.heap.size w (w.alloc (.cells #[.func (.func f) #[] cs] 111)):=(Below.refl _ _).alloc (Nat.le_refl _) _
 have bX:=Blk.new w 111 #[.func (.func f) #[] cs]
 go_enter Tryz.func53,Tryz.ntmps53
 go_wp2_with fail
 go_ret
 exact⟨rfl,bX,hB⟩
theorem mk_joined(k:Int)(w:World)(m:Nat)(hm:m<w.heap.size):Calls Tryz.prog 69 #[.int .i64 k] w fun e w'=>∃ v,e=.returned v∧MadeJ m k v w'∧Below w.heap.size w w':=by
 have hB:Below w.heap.size w (w.alloc (.cells #[.int .i64 k] 3)):=(Below.refl _ _).alloc (Nat.le_refl _) _
 have bX:=Blk.new w 3 #[.int .i64 k]
 go_enter Tryz.func69,Tryz.ntmps69
 go_wp2_with fail
 go_ret
 exact⟨_,rfl,⟨_,rfl,bX,hm⟩,hB⟩
theorem mk_made(q:FuncId)(w:World)(m:Nat)(hm:m<w.heap.size):Calls Tryz.prog 53 #[.func (.func q) #[] #[]] w fun e w'=>∃ v,e=.returned v∧Made m q v w'∧Below w.heap.size w w':=by
 refine(mk_reckoned q #[] w).mono ?_
 rintro e w' ⟨rfl,h1,h2⟩
 exact⟨_,rfl,⟨_,rfl,h1,hm⟩,h2⟩
theorem mk_divided(q:FuncId)(w:World)(m:Nat)(hm:m<w.heap.size):Calls Tryz.prog 59 #[.func (.func q) #[] #[]] w fun e w'=>∃ v,e=.returned v∧MadeD m q v w'∧Below w.heap.size w w':=by
 have HR:=Lib.hid (fun W=>mk_reckoned q #[] W)
 go_enter Tryz.func59,Tryz.ntmps59
 go_wp2_with (first | (go_at_call 53;(with_reducible refine(HR.out _).mono ?_);rintro e w1 ⟨rfl,h1,h2⟩;have bY:=Blk.new w1 109 #[.func (.func 91) #[] #[boxP w.heap.size]];have hB2:=h2.alloc h2.size (.cells #[.func (.func 91) #[] #[boxP w.heap.size]] 109)) | fail)
 go_ret
 have hl:=h1.lt
 exact⟨_,rfl,⟨w.heap.size,w1.heap.size,rfl,⟨bY,by unfold After;omega⟩,h1.alloc _,hm⟩,hB2⟩
theorem mk_compared(q:FuncId)(w:World)(m:Nat)(hm:m<w.heap.size):Calls Tryz.prog 62 #[.func (.func q) #[] #[]] w fun e w'=>∃ v,e=.returned v∧MadeC m q v w'∧Below w.heap.size w w':=by
 have hB:Below w.heap.size w (w.alloc (.cells #[.func (.func q) #[] #[]] 113)):=(Below.refl _ _).alloc (Nat.le_refl _) _
 have bX:=Blk.new w 113 #[.func (.func q) #[] #[]]
 have HR:=Lib.hid (fun f cs W=>mk_reckoned f cs W)
 go_enter Tryz.func62,Tryz.ntmps62
 go_wp2_with (first | (go_at_call 53;(with_reducible refine(HR.out _ _ _).mono ?_);rintro e w1 ⟨rfl,h1,h2⟩) | fail)
 go_ret
 have hl:=bX.lt
 exact⟨_,rfl,⟨w.heap.size,_,rfl,⟨by rw [World.size_alloc] at h1;exact h1,by unfold After;omega⟩,bX.below h2 hl,hm⟩,hB.trans (h2.mono hB.size)⟩
theorem map_move{P:Program}{k:TypeId}{H:Type}{R:Value→Option (DataW H×List MemPlace)}{w w':World}{b n:Nat}{D:DataW H}(h:w.ownsMap P k R b n D)(e:w'.heap[b]? = w.heap[b]?):w'.ownsMap P k R b n D:=by
 obtain⟨es,clock,h1,h2⟩:=h
 exact⟨es,clock,e.trans h1,h2⟩
def laid(v:Nat→Value)(t:Int):Value :=
 if t=1∨t=2 then .func (.func 50) #[] #[]
 else if t=3 then .func (.func 51) #[] #[]
 else if t=4 then .func (.func 52) #[] #[]
 else if t=20∨t=26 then .func (.func 70) #[] #[]
 else if t=21 then .func (.func 71) #[] #[]
 else if t=22 then .func (.func 72) #[] #[]
 else if t=23 then .func (.func 73) #[] #[]
 else if t=24 then .func (.func 74) #[] #[]
 else if t=25 then .func (.func 75) #[] #[]
 else v t.toNat
structure AllMade (m:Nat) (v:Nat→Value) (W:World):Prop where
 m5:Made m 54 (v 5) W
 m6:Made m 55 (v 6) W
 m7:Made m 56 (v 7) W
 m8:Made m 57 (v 8) W
 m9:Made m 58 (v 9) W
 m10:MadeD m 60 (v 10) W
 m11:MadeD m 61 (v 11) W
 m12:MadeC m 63 (v 12) W
 m13:MadeC m 64 (v 13) W
 m14:MadeC m 65 (v 14) W
 m15:MadeC m 66 (v 15) W
 m16:MadeC m 67 (v 16) W
 m17:MadeC m 68 (v 17) W
 m18:MadeJ m 0 (v 18) W
 m19:MadeJ m 1 (v 19) W
theorem AllMade.acts{m:Nat}{v:Nat→Value}{W:World}(h:AllMade m v W){C:Nat→Prop}(hC:∀ k,m<k→k<W.heap.size→C k):∀ t:Int,1≤t→t≤26→ActV W C t (laid v t):=by
 intro t h1 h2
 have bx:∀ {b:Nat} {ty:TypeId} {x:Value},BoxIn W (After m) b ty x→BoxIn W C b ty x:=fun q=>q.to hC
 have cM:∀ (t:Int) (q:FuncId) (x:Value),(t,q)∈[((5:Int),54),(6,55),(7,56),(8,57),(9,58)]→Made m q x W→ActV W C t x:=fun t q x hq hM=>by
  obtain⟨b,e,hb⟩:=hM
  exact .inr (.inr (.inr (.inr (.inr (.inr (.inr (.inr (.inr (.inr (.inl ⟨b,q,hq,e,bx hb⟩))))))))))
 have cD:∀ (t:Int) (q:FuncId) (x:Value),(t,q)∈[((10:Int),60),(11,61)]→MadeD m q x W→ActV W C t x:=fun t q x hq hM=>by
  obtain⟨b,c,e,hc,hb⟩:=hM
  exact .inr (.inr (.inr (.inr (.inr (.inr (.inr (.inr (.inr (.inr (.inr (.inl ⟨b,c,q,hq,e,bx hc,bx hb⟩)))))))))))
 have cC:∀ (t:Int) (q:FuncId) (x:Value),(t,q)∈[((12:Int),63),(13,64),(14,65),(15,66),(16,67),(17,68)]→MadeC m q x W→ActV W C t x:=fun t q x hq hM=>by
  obtain⟨b,c,e,hc,hb⟩:=hM
  exact .inr (.inr (.inr (.inr (.inr (.inr (.inr (.inr (.inr (.inr (.inr (.inr ⟨b,c,q,hq,e,bx hc,bx hb⟩)))))))))))
 have cJ:∀ (t:Int) (x:Value),t=18∨t=19→MadeJ m (t-18) x W→ActV W C t x:=fun t x ht hM=>by
  obtain⟨b,e,hb⟩:=hM
  exact .inr (.inr (.inr (.inr (.inr (.inr (.inr (.inr (.inr (.inl ⟨ht,b,e,bx hb⟩)))))))))
 obtain⟨n,rfl⟩:=Int.eq_ofNat_of_zero_le (show 0≤t by omega)
 rcases (show n=1∨n=2∨n=3∨n=4∨n=5∨n=6∨n=7∨n=8∨n=9∨n=10∨n=11∨n=12∨n=13∨n=14∨n=15∨n=16∨n=17∨n=18∨n=19∨n=20∨n=21∨n=22∨n=23∨n=24∨n=25∨n=26 by omega) with rfl | rfl | rfl | rfl | rfl | rfl | rfl | rfl | rfl | rfl | rfl | rfl | rfl | rfl | rfl | rfl | rfl | rfl | rfl | rfl | rfl | rfl | rfl | rfl | rfl | rfl
 ·exact .inl ⟨.inl rfl,rfl⟩
 ·exact .inl ⟨.inr rfl,rfl⟩
 ·exact .inr (.inl ⟨rfl,rfl⟩)
 ·exact .inr (.inr (.inl ⟨rfl,rfl⟩))
 ·exact cM 5 _ _ (by decide) h.m5
 ·exact cM 6 _ _ (by decide) h.m6
 ·exact cM 7 _ _ (by decide) h.m7
 ·exact cM 8 _ _ (by decide) h.m8
 ·exact cM 9 _ _ (by decide) h.m9
 ·exact cD 10 _ _ (by decide) h.m10
 ·exact cD 11 _ _ (by decide) h.m11
 ·exact cC 12 _ _ (by decide) h.m12
 ·exact cC 13 _ _ (by decide) h.m13
 ·exact cC 14 _ _ (by decide) h.m14
 ·exact cC 15 _ _ (by decide) h.m15
 ·exact cC 16 _ _ (by decide) h.m16
 ·exact cC 17 _ _ (by decide) h.m17
 ·exact cJ 18 _ (.inl rfl) h.m18
 ·exact cJ 19 _ (.inr rfl) h.m19
 ·exact .inr (.inr (.inr (.inl ⟨.inl rfl,rfl⟩)))
 ·exact .inr (.inr (.inr (.inr (.inl ⟨rfl,rfl⟩))))
 ·exact .inr (.inr (.inr (.inr (.inr (.inl ⟨rfl,rfl⟩)))))
 ·exact .inr (.inr (.inr (.inr (.inr (.inr (.inl ⟨rfl,rfl⟩))))))
 ·exact .inr (.inr (.inr (.inr (.inr (.inr (.inr (.inl ⟨rfl,rfl⟩)))))))
 ·exact .inr (.inr (.inr (.inr (.inr (.inr (.inr (.inr (.inl ⟨rfl,rfl⟩))))))))
 ·exact .inr (.inr (.inr (.inl ⟨.inr rfl,rfl⟩)))
def vals15(a5 a6 a7 a8 a9 a10 a11 a12 a13 a14 a15 a16 a17 a18 a19:Value)(n:Nat):Value :=
 if n=5 then a5 else if n=6 then a6 else if n=7 then a7 else if n=8 then a8 else if n=9 then a9 else if n=10 then a10 else if n=11 then a11 else if n=12 then a12 else if n=13 then a13 else if n=14 then a14 else if n=15 then a15 else if n=16 then a16 else if n=17 then a17 else if n=18 then a18 else a19
def ActsEnds(w:World)(e:Ending)(w':World):Prop :=
 ∃ v,e=.returned (.map (some w.heap.size))∧w'.ownsMap Tryz.prog 3 itselfA w.heap.size 26 (tableA (laid v))∧AllMade w.heap.size v w'∧Below w.heap.size w w'
theorem acts_pack{w w':World}{a5 a6 a7 a8 a9 a10 a11 a12 a13 a14 a15 a16 a17 a18 a19:Value}(hB:Below w.heap.size w w')
  (h:MadeJ w.heap.size 1 a19 w'∧MadeJ w.heap.size 0 a18 w'∧MadeC w.heap.size 68 a17 w'∧MadeC w.heap.size 67 a16 w'∧MadeC w.heap.size 66 a15 w'∧MadeC w.heap.size 65 a14 w'∧MadeC w.heap.size 64 a13 w'∧MadeC w.heap.size 63 a12 w' ∧
   MadeD w.heap.size 61 a11 w'∧MadeD w.heap.size 60 a10 w'∧Made w.heap.size 58 a9 w'∧Made w.heap.size 57 a8 w'∧Made w.heap.size 56 a7 w'∧Made w.heap.size 55 a6 w'∧Made w.heap.size 54 a5 w'∧True)
  (hown:w'.ownsMap Tryz.prog 3 itselfA w.heap.size 26 (tableA (laid (vals15 a5 a6 a7 a8 a9 a10 a11 a12 a13 a14 a15 a16 a17 a18 a19)))):ActsEnds w (.returned (.map (some w.heap.size))) w':=by
 obtain⟨h19,h18,h17,h16,h15,h14,h13,h12,h11,h10,h9,h8,h7,h6,h5,-⟩:=h
 exact⟨_,rfl,hown,⟨h5,h6,h7,h8,h9,h10,h11,h12,h13,h14,h15,h16,h17,h18,h19⟩,hB⟩
theorem acts_any(w:World):Calls Tryz.prog 27 #[] w (ActsEnds w):=by
  have HM:=Lib.hid (fun q W m hm=>mk_made q W m hm)
  have HD:=Lib.hid (fun q W m hm=>mk_divided q W m hm)
  have HC:=Lib.hid (fun q W m hm=>mk_compared q W m hm)
  have HJ:=Lib.hid (fun q W m hm=>mk_joined q W m hm)
  go_enter Tryz.func27,Tryz.ntmps27
  go_wp2_with (first
    | (refine wpList_map_own _ rfl 44 rfl 3 itselfA ?_;intro b w4 hb0 hown hB;subst hb0;have hlt:=hown.lt;have hacc:Hid (∀ W:World,Kept (fun k=>k=w.heap.size) w4 W→True):=Lib.hid (fun W h=>trivial))
    | (refine wpList_insert_own _ rfl _ _ _ 44 rfl 3 109 key_int16 Tryz.underlying44 itselfA _ _ _ rfl hown (by unfold maxLen; omega) _ _ _ rfl rfl (Go.Maps.keyOf_int_mk Tryz.underlying3 (by decide)) _ [] rfl ?_; intro w5 ho5 hg5; replace hown := ho5; replace hB := hB.grown hg5 hB.size (fun j hj => by cases hj; exact Nat.le_refl _); replace hlt := hown.lt
       replace hacc:=Lib.hid (fun(W:World) (h:Kept (fun k=>k=w.heap.size) w5 W)=>hacc.out W (((Kept.refl (fun k=>k=w.heap.size) _).grown hg5 (fun k e=>.inl (Option.some.inj e).symm)).trans h));clear ho5 hg5)
    | (go_at_call 53; (with_reducible refine (HM.out _ _ _ hlt).mono ?_); rintro e w6 ⟨v6, rfl, hm6, hb6⟩; replace hown := map_move hown (hb6.block _ hlt); replace hB := hB.trans (hb6.mono hB.size); replace hlt := hown.lt
       replace hacc:=Lib.hid (fun(W:World) (h:Kept (fun k=>k=w.heap.size) w6 W)=>And.intro (hm6.kept h) (hacc.out W ((Kept.of_below hb6 (Nat.le_refl _)).trans h)));clear hm6 hb6)
    | (go_at_call 59; (with_reducible refine (HD.out _ _ _ hlt).mono ?_); rintro e w6 ⟨v6, rfl, hm6, hb6⟩; replace hown := map_move hown (hb6.block _ hlt); replace hB := hB.trans (hb6.mono hB.size); replace hlt := hown.lt
       replace hacc:=Lib.hid (fun(W:World) (h:Kept (fun k=>k=w.heap.size) w6 W)=>And.intro (hm6.kept h) (hacc.out W ((Kept.of_below hb6 (Nat.le_refl _)).trans h)));clear hm6 hb6)
    | (go_at_call 62; (with_reducible refine (HC.out _ _ _ hlt).mono ?_); rintro e w6 ⟨v6, rfl, hm6, hb6⟩; replace hown := map_move hown (hb6.block _ hlt); replace hB := hB.trans (hb6.mono hB.size); replace hlt := hown.lt
       replace hacc:=Lib.hid (fun(W:World) (h:Kept (fun k=>k=w.heap.size) w6 W)=>And.intro (hm6.kept h) (hacc.out W ((Kept.of_below hb6 (Nat.le_refl _)).trans h)));clear hm6 hb6)
    | (go_at_call 69; (with_reducible refine (HJ.out _ _ _ hlt).mono ?_); rintro e w6 ⟨v6, rfl, hm6, hb6⟩; replace hown := map_move hown (hb6.block _ hlt); replace hB := hB.trans (hb6.mono hB.size); replace hlt := hown.lt
       replace hacc:=Lib.hid (fun(W:World) (h:Kept (fun k=>k=w.heap.size) w6 W)=>And.intro (hm6.kept h) (hacc.out W ((Kept.of_below hb6 (Nat.le_refl _)).trans h)));clear hm6 hb6)
    | fail)
  go_ret
  exact acts_pack hB (hacc.out _ (Kept.refl _ _)) hown
end Go.Proofs.YtekogckmgkodfaaGreatDoor.Mach
