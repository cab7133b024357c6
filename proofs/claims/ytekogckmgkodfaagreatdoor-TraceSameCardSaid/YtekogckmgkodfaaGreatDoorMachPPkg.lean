/-
  Package machine, walked: what Check and Run come to.
-/
import Derived.Test.YtekogckmgkodfaaGreatDoorMachPK
import Derived.Test.YtekogckmgkodfaaGreatDoorMachK
set_option linter.unusedVariables false
namespace Go.Proofs.YtekogckmgkodfaaGreatDoor.Mach
open Go.RowKit Mem Arena Kinds Path Cat Suite Delta
theorem run_any(p:Prg)(A:Option Addr)(c:Nat)(args:List Int)(f:Int)(w:World)(hp:p.Ok w)(hA:IRow w w.heap.size A args) :
  Calls Tryz.prog 6 #[.agg #[.int .i64 p.ps,.slice p.A p.vs.length p.c,.slice p.B p.xs.length p.e],.slice A args.length c,.int .i64 f] w (RunEnds p args f w):=by
 by_cases hm:mcheck p.ps p.vs p.xs args.length f=0
 ·have h:=mcheck_zero.1 hm
  obtain⟨fn,rfl⟩:=Int.eq_ofNat_of_zero_le h.f0
  refine(run_good p A c args fn w hp hA h).mono ?_
  rintro e w' ⟨hb,A',c',he,hok⟩
  unfold RunEnds rrun
  rw [if_pos hm,hm,Int.toNat_natCast]
  exact⟨hb,A',c',he,hok⟩
 ·refine(run_bad p A c args f w hp hm).mono ?_
  rintro e w' ⟨rfl,hb⟩
  unfold RunEnds rrun
  rw [if_neg hm]
  exact⟨hb,none,0,rfl,Rn.zero_ok _⟩
theorem mpkg:MPkg where
 check:=fun p A c args f w hp _ _ _ _ _=>check_any p A c args.length f w hp
 run:=fun p A c args f w hp hA _ _ _ _=>run_any p A c args f w hp hA
end Go.Proofs.YtekogckmgkodfaaGreatDoor.Mach
