/-
  Package delta: what its functions come to.
-/
import Derived.Test.YthkhonkibigdaaaGreatDeltaPCmp
import Derived.Test.YthkhonkibigdaaaGreatDeltaPApply
import Derived.Test.YthkhonkibigdaaaGreatDeltaPGet
namespace Go.Proofs.YthkhonkibigdaaaGreat.Delta
open Go.RowKit Mem _root_.Go.Proofs.YthkhonkibigdaaaGreat.Arena _root_.Go.Proofs.YthkhonkibigdaaaGreat.Kinds

theorem pkg : Pkg where
  apply p d w hp hd hl := Apply_any p d w hp hd hl
  put d w hd hr hn := Put_good d.A d.c d.p d.op d.n w hd.path hr hn
  putNo d w hd hr := Put_bad d.A d.c d.p d.op d.n w hd.path hd.len hr
  get S w hS := DPGet_any S w hS
  compare a b w ha hb := DCompare_any a b w ha hb
  same a b w ha hb := DSame_any a b w ha hb

end Go.Proofs.YthkhonkibigdaaaGreat.Delta
