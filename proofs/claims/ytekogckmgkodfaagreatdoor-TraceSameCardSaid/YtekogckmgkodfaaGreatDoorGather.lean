import Derived.Test.YtekogckmgkodfaaGreatDoorBaseG
set_option linter.unusedVariables false
namespace Go.Proofs.YtekogckmgkodfaaGreatDoor.Mem
open Go.RowKit
def qB(P:Nat→Nat→Nat→World→Prop):Prop:=∀ i lo hi W W',lo<hi→hi≤W.heap.size→Below W.heap.size W W'→P i lo hi W→P i lo hi W'
structure GS (b:World) (P:Nat→Nat→Nat→World→Prop) (st:List (Nat×Nat×Nat)) (W:World):Prop where
 below:Below b.heap.size b W
 all:∀ x∈st,b.heap.size≤x.2.1∧x.2.1<x.2.2∧x.2.2≤W.heap.size∧P x.1 x.2.1 x.2.2 W
 apart:∀ x∈st,∀ y∈st,x.1≠y.1→x.2.2≤y.2.1∨y.2.2≤x.2.1
section
variable {b:World} {P:Nat→Nat→Nat→World→Prop} {st:List (Nat×Nat×Nat)} {W W':World}
theorem GS.start(b:World)(P:Nat→Nat→Nat→World→Prop):GS b P [] b:=⟨Below.refl _ _,(fun x h=>k8),fun x h=>k8⟩
theorem GS.keep(h:GS b P st W)(hP:qB P)(hb:Below W.heap.size W W'):GS b P st W' :=
 ⟨h.below.trans (hb.mono h.below.size),fun x hx=>by
  obtain⟨h1,h2,h3,h4⟩:=h.all x hx;exact⟨h1,h2,cQ h3 hb.size,hP _ _ _ _ _ h2 h3 hb h4⟩,h.apart⟩
theorem GS.drew(h:GS b P st W)(hP:qB P):GS b P st W.drew:=h.keep hP (Below.refl _ _).drew
theorem GS.add(h:GS b P st W)(hP:qB P)(i:Nat)(hb:Below W.heap.size W W')(aM:W.heap.size<W'.heap.size)(hp:P i W.heap.size W'.heap.size W'):GS b P ((i,W.heap.size,W'.heap.size)::st) W':=by
 have k:=h.keep hP hb;refine⟨k.below,fun x hx=>?_,fun x hx y hy bs=>?_⟩
 ·rcases dn.1 hx with rfl | hx
  ·exact⟨h.below.size,aM,ae _,hp⟩
  ·exact k.all x hx
 ·rcases dn.1 hx with rfl | hx
  ·rcases dn.1 hy with rfl | hy
   ·exact absurd rfl bs
   ·exact .inr (h.all y hy).2.2.1
  ·rcases dn.1 hy with rfl | hy
   ·exact .inl (h.all x hx).2.2.1
   ·exact k.apart x hx y hy bs
theorem GS.get(h:GS b P st W)(i:Nat){lo hi:Nat}(hm:(i,lo,hi)∈st:=by first | exact .head _ | exact .tail _ (.head _) | exact .tail _ (.tail _ (.head _)) | exact .tail _ (.tail _ (.tail _ (.head _)))):b.heap.size≤lo∧lo<hi∧hi≤W.heap.size∧P i lo hi W:=h.all _ hm
theorem GS.dr(h:GS b P st W)(i j:Nat){lo hi l k:Nat}(hm:(i,lo,hi)∈st:=by first | exact .head _ | exact .tail _ (.head _) | exact .tail _ (.tail _ (.head _)) | exact .tail _ (.tail _ (.tail _ (.head _))))
  (hn:(j,l,k)∈st:=by first | exact .head _ | exact .tail _ (.head _) | exact .tail _ (.tail _ (.head _)) | exact .tail _ (.tail _ (.tail _ (.head _)))) (bs:i≠j:=by decide):hi≤l∨k≤lo:=h.apart _ hm _ hn bs
end
end Go.Proofs.YtekogckmgkodfaaGreatDoor.Mem
