/-
  Both ways to run a program have the same digest: walked on the packages.
-/
import Derived.Test.YtekogckmgkodfaaGreatDoorTraceLawD
import Derived.Test.YtekogckmgkodfaaGreatDoorMachPPkg
import Derived.Test.YtekogckmgkodfaaGreatDoorDirI
namespace Go.Proofs.YtekogckmgkodfaaGreatDoor.Trc
open Go.RowKit Mem Arena Kinds Mach _root_.Go.Proofs.YtekogckmgkodfaaGreatDoor.Code
theorem wf_n64{n:Int}(h:(Lit.int .i64 n).wf=true):_root_.Go.Proofs.YtekogckmgkodfaaGreatDoor.Delta.N64 n:=wf_i64 h
theorem traceSame_walk(p:Prg)(A:Option Addr)(c:Nat)(args:List Int)(hl:args.length≤c)(hA:A=none→c=0)(ha:∀ n∈args,I64 n)(f:Int)(hf:(Lit.int .i64 f).wf=true)(w:World)(hp:p.In w∧NB p.xs)(hR:IRow w w.heap.size A args)(hG:Sha.Cubes w) :
  Calls Tryz.prog 3 #[.agg #[.int .i64 p.ps,.slice p.A p.vs.length p.c,.slice p.B p.xs.length p.e],.slice A args.length c,.int .i64 f] w fun e w'=>e=.returned (.bool true)∧Below w.heap.size w w' :=
 traceSame_of run_any _root_.Go.Proofs.YtekogckmgkodfaaGreatDoor.Dir.drun_any p A c args hl hA f (wf_n64 hf) w hp.1 hp.2 hR ha hG
end Go.Proofs.YtekogckmgkodfaaGreatDoor.Trc
