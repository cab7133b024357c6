/-
  The reference of machine, walked: the first kid ends it; or; if.
  The reference of machine, walked: while; two values.
  The reference of machine, walked: a block.
  The reference of machine, walked: a variable set, an array read, an array set.
  The reference of machine, walked: an array set.
-/
import Derived.Test.YtekogckmgkodfaaGreatDoorMachH
import Derived.Test.YtekogckmgkodfaaGreatDoorMachG
import Derived.BigQuiet
set_option linter.unusedVariables false
set_option linter.unusedSimpArgs false
namespace Go.Proofs.YtekogckmgkodfaaGreatDoor.Mach
open Go.RowKit Mem Arena Kinds Path Cat Suite
attribute [local go_sem ↓] Go.wp_at_zero Go.wp_at_succ
section
variable {T:TypeId} {base g:Nat} {κ κ':Nat→Nat} {p:Prg} {vv av evv:Value} {Y:List ((Option Addr×Nat)×List Int)} {s:St} {W W':World}
end
section
variable {T:TypeId} {base g:Nat} {κ κ':Nat→Nat} {p:Prg} {vv av evv:Value} {Y:List ((Option Addr×Nat)×List Int)} {s:St} {W W':World}
end
section
variable {T:TypeId} {base g:Nat} {κ κ':Nat→Nat} {p:Prg} {vv av evv:Value} {Y:List ((Option Addr×Nat)×List Int)} {s:St} {W W':World}
end
end Go.Proofs.YtekogckmgkodfaaGreatDoor.Mach
namespace Go.Proofs.YtekogckmgkodfaaGreatDoor.Mach
open Go.RowKit Mem Arena Kinds Path Cat Suite
theorem trow_read{w:World}{base b n cap m:Nat}{Y:List ((Option Addr×Nat)×List Int)}{y:(Option Addr×Nat)×List Int}(h:w.ownsRow base 22 1 (.slice (some ⟨b,0,none⟩) n cap) Y.length (tcells Y))(hm:Y[m]? = some y):w.cell? ⟨b,m,none⟩=some (.slice y.1.1 y.2.length y.1.2):=by
 have:=h.cells (g:=b) rfl m (.slice y.1.1 y.2.length y.1.2) (by unfold tcells;rw [List.getElem?_map,hm];rfl)
 rw [show(⟨b,m,none⟩:Addr)=Addr.add ⟨b,0,none⟩ m by unfold Addr.add;split<;>simp_all]
 exact this
attribute [local go_sem ↓] Go.wp_at_zero Go.wp_at_succ
section
variable {T:TypeId} {base g:Nat} {κ κ':Nat→Nat} {p:Prg} {vv av evv:Value} {Y:List ((Option Addr×Nat)×List Int)} {s:St} {W W':World}
theorem SM.drewN(h:SM T base g κ p vv av evv Y s W)(n:Nat):SM T base g κ p vv av evv Y s (W.drewN n):=h.move (Nat.le_refl _) fun _ _=>rfl
theorem Went.drewN(h:Went κ κ' W W')(n:Nat):Went κ κ' W (W'.drewN n):=⟨⟨h.kept.os,h.kept.tape,h.kept.output,h.kept.size,h.kept.block⟩,h.new⟩
theorem SM.yrow(h:SM T base g κ p vv av evv Y s W){m:Nat}{L:List Int}(hL:s.arrs[m]? = some L):∃ y,Y[m]? = some y∧y.2=L:=by
 rw [← h.hY,List.getElem?_map] at hL
 cases q:Y[m]? with
 | none=>rw [q] at hL;cases hL
 | some y=>rw [q] at hL;exact⟨y,rfl,Option.some.inj hL⟩
theorem SM.ylen(h:SM T base g κ p vv av evv Y s W):s.arrs.length=Y.length:=by rw [← h.hY,List.length_map]
end
end Go.Proofs.YtekogckmgkodfaaGreatDoor.Mach
namespace Go.Proofs.YtekogckmgkodfaaGreatDoor.Mach
open Go.RowKit Mem Arena Kinds Path Cat Suite
attribute [local go_sem ↓] Go.wp_at_zero Go.wp_at_succ
section
variable {T:TypeId} {base g:Nat} {κ κ':Nat→Nat} {p:Prg} {vv av evv:Value} {Y:List ((Option Addr×Nat)×List Int)} {s:St} {W W':World}
end
end Go.Proofs.YtekogckmgkodfaaGreatDoor.Mach
