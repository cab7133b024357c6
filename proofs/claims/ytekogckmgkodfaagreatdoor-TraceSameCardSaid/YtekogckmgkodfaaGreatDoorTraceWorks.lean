/-
  The document's example of a run's bytes works.
-/
import Derived.Test.YtekogckmgkodfaaGreatDoorTracePBytes
set_option maxRecDepth 100000
set_option linter.unusedVariables false
namespace Go.Proofs.YtekogckmgkodfaaGreatDoor.Trc
open Go.RowKit Leb Zig Mem Wire Arena Mach
attribute [local go_sem ↓] Go.wp_at_zero Go.wp_at_succ
theorem bytes_ex:bytes [] 0 3=[0,0,6]:=by
 unfold bytes nums zput
 simp [show zig 0=0 from rfl,show zig 3=6 from rfl,show lput 0=[0] by rw [lput_lo (by decide)];rfl,show lput 6=[6] by rw [lput_lo (by decide)];rfl]
theorem r64_ex:R64 [] 0 3:=⟨(fun e he=>by cases he),by decide,by decide⟩
theorem digest_len(l:List (Int×Int×Int))(k v:Int):(digest l k v).length=32:=Sha.sum_len _
theorem works_any(w:World)(hG:Sha.Cubes w):Calls Tryz.prog 4 #[] w fun e w'=>e=.returned (.bool true)∧Below w.heap.size w w':=by
 have hb0:Below w.heap.size w (w.alloc (.cells #[.int .i64 0,.int .i64 3,.int .i64 7,.slice none 0 0] 32)):=(Below.refl _ _).alloc (Nat.le_refl _) _
 have bP:=Blk.new w 32 #[.int .i64 0,.int .i64 3,.int .i64 7,.slice none 0 0]
 have HRn:∀ W:World,(⟨0,3,7,none,0,[]⟩:Rn).Ok W:=fun W=>⟨ERow.nil _ _ _,Nat.le_refl _,fun _=>rfl,by decide⟩
 have x0:(w.alloc (.cells #[.int .i64 0,.int .i64 3,.int .i64 7,.slice none 0 0] 32)).cell? ⟨w.heap.size,0,none⟩=some (.int .i64 0):=bP.cell 0
 have x1:(w.alloc (.cells #[.int .i64 0,.int .i64 3,.int .i64 7,.slice none 0 0] 32)).cell? ⟨w.heap.size,1,none⟩=some (.int .i64 3):=bP.cell 1
 have x2:(w.alloc (.cells #[.int .i64 0,.int .i64 3,.int .i64 7,.slice none 0 0] 32)).cell? ⟨w.heap.size,2,none⟩=some (.int .i64 7):=bP.cell 2
 have x3:(w.alloc (.cells #[.int .i64 0,.int .i64 3,.int .i64 7,.slice none 0 0] 32)).cell? ⟨w.heap.size,3,none⟩=some (.slice none 0 0):=bP.cell 3
 obtain⟨w1,hw1⟩:∃ w1,w.alloc (.cells #[.int .i64 0,.int .i64 3,.int .i64 7,.slice none 0 0] 32)=w1:=⟨_,rfl⟩
 rw [hw1] at hb0 bP
 have HW:=Lib.hid hw1
 have HB:=Lib.hid hb0
 have HX:=Lib.hid (fun W (h:Below w1.heap.size w1 W)=>show W.cell? ⟨w.heap.size,0,none⟩=some (.int .i64 0)∧W.cell? ⟨w.heap.size,1,none⟩=some (.int .i64 3)∧W.cell? ⟨w.heap.size,2,none⟩=some (.int .i64 7)∧W.cell? ⟨w.heap.size,3,none⟩=some (.slice none 0 0) from
  ⟨(bP.below h bP.lt).cell 0,(bP.below h bP.lt).cell 1,(bP.below h bP.lt).cell 2,(bP.below h bP.lt).cell 3⟩)
 have HBY:=Lib.hid (fun W=>Bytes_any ⟨0,3,7,none,0,[]⟩ W (HRn W) r64_ex)
 have HDG:=Lib.hid (fun W (h:Below w1.heap.size w1 W)=>Digest_any ⟨0,3,7,none,0,[]⟩ W (hG.below (hb0.trans (h.mono hb0.size))) (HRn W) r64_ex)
 have HSM:=Lib.hid (fun W (h:Below w1.heap.size w1 W)=>Sha.Sum_any ⟨#[0,0,6]⟩ (by decide) W (hG.below (hb0.trans (h.mono hb0.size))))
 simp only [List.length_nil,bytes_ex] at HBY HDG
 have hdl:=digest_len [] 0 3
 have HDD:Hid (Sha.sum (⟨#[0,0,6]⟩:ByteArray).data.toList=digest [] 0 3):=Lib.hid (by unfold digest;rw [bytes_ex])
 rw [HDD.out] at HSM
 generalize digest [] 0 3=dd at *
 have hds:(⟨dd.toArray⟩:ByteArray).size=32:=by rw [size_of];exact hdl
 clear hw1 hb0 bP HRn hG hdl HDD
 go_enter Tryz.func4,Tryz.ntmps4
 go_wp2_with (first
  | (go_at_call 9;rw [HW.out];refine(HBY.out _).mono ?_;rintro e w2 ⟨rfl,hb2⟩;obtain⟨y0,y1,y2,y3⟩:=HX.out _ hb2)
  | (go_at_call 8;first
    | ((with_reducible refine(HDG.out _ hb2).mono ?_);rintro e w3 ⟨rfl,hb⟩;have hb3:=hb2.trans (hb.mono hb2.size))
    | ((with_reducible refine(HDG.out _ hb4).mono ?_);rintro e w5 ⟨rfl,hb⟩;have hb5:=hb4.trans (hb.mono hb4.size))
    | fail)
  | (go_at_call 10;(with_reducible refine(HSM.out _ hb3).mono ?_);rintro e w4 ⟨rfl,hb⟩;have hb4:=hb3.trans (hb.mono hb3.size);obtain⟨z0,z1,z2,z3⟩:=HX.out _ hb4)
  | fail)
 go_ret
 exact⟨rfl,HB.out.trans (hb5.mono HB.out.size)⟩
end Go.Proofs.YtekogckmgkodfaaGreatDoor.Trc
