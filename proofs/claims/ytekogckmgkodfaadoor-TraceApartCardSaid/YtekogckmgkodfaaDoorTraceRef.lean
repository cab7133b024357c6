/-
  The reference of a run's bytes, and of its digest, walked.
-/
import Derived.Test.YtekogckmgkodfaaDoorTraceMath
import Derived.Test.YtekogckmgkodfaaDoorRunRow
import Derived.Test.YtekogckmgkodfaaDoorLebG
import Derived.Test.YtekogckmgkodfaaDoorShaH
import Derived.Deep.RegionHeld3
import Derived.Deep.DrawnRows
import Derived.WalkSpells
set_option maxRecDepth 100000
set_option maxHeartbeats 4000000
set_option linter.unusedVariables false
namespace Go.Proofs.YtekogckmgkodfaaDoor.Trc
open Go.RowKit Leb Zig Mem Wire Arena Mach
attribute [local go_sem ↓] Go.wp_at_zero Go.wp_at_succ
theorem tstr_size(l:List UInt8):(ByteArray.mk l.toArray).size=l.length:=by simp [ByteArray.size]
theorem tstr_app(l m:List UInt8):(⟨l.toArray⟩:ByteArray)++(⟨m.toArray⟩:ByteArray)=⟨(l++m).toArray⟩:=by
 apply ByteArray.ext
 simp
theorem taken_enum{ev:List (Int×Int×Int)}{j:Nat}{e:Int×Int×Int}(h:ev[j]? = some e):((ev.take (j+1)).flatMap enum).flatMap zput=((ev.take j).flatMap enum).flatMap zput++zput e.1++zput e.2.1++zput e.2.2:=by
 obtain⟨hj,rfl⟩:=List.getElem?_eq_some_iff.1 h
 rw [List.take_succ_eq_append_getElem hj,List.flatMap_append,List.flatMap_append]
 simp [enum]
theorem ref_Bytes_any(r:Rn)(w:World)(hr:r.Ok w)(h64:R64 r.ev r.k r.v):Calls Tryd.prog 8 #[.agg #[.int .i64 r.k,.int .i64 r.v,.int .i64 r.st,.slice r.A r.ev.length r.c]] w fun e w'=>e=.returned (.string ⟨(bytes r.ev r.k r.v).toArray⟩)∧Below w.heap.size w w':=by
 obtain⟨k,v,st,A,c,ev⟩:=r
 simp only at *
 have hlen:ev.length≤1000000:=hr.len
 have hu:IntKind.u64.wrap (ev.length:Int)=ev.length:=by rw [IntKind.wrap_u64];omega
 have hp10:=lput_len10 (n:=ev.length) (by omega)
 obtain⟨n,hn⟩:∃ n,ev.length=n:=⟨_,rfl⟩
 have HN:=Lib.hid hn
 have hrow:ERow w w.heap.size A ev:=hr.row
 have H64:=Lib.hid h64
 have HLT:=Lib.hid (fun j=>show(((ev.take j).flatMap enum).flatMap zput).length≤30000000 by
  have h1:=zputs_len ((ev.take j).flatMap enum) (fun q hq=>by
   obtain⟨e,he,hq⟩:=List.mem_flatMap.1 hq
   exact h64.ev e (List.mem_of_mem_take he) q hq)
  rw [enums_len,List.length_take] at h1
  omega)
 have hB1:Below w.heap.size w (w.alloc (.cells #[.int .i64 k,.int .i64 v,.int .i64 st,.slice A n c] 26)):=(Below.refl _ _).alloc (Nat.le_refl _) _
 have bP:=Blk.new w 26 #[.int .i64 k,.int .i64 v,.int .i64 st,.slice A n c]
 have HE:=Lib.hid (show bytes ev k v=lput n++(ev.flatMap enum).flatMap zput++zput k++zput v by rw [← hn];unfold bytes nums;simp)
 generalize bytes ev k v=E at *
 rw [hn] at hlen hu hp10 ⊢
 clear hn hr h64
 obtain⟨w1,hw1⟩:∃ w1,w.alloc (.cells #[.int .i64 k,.int .i64 v,.int .i64 st,.slice A n c] 26)=w1:=⟨_,rfl⟩
 have c3:(w.alloc (.cells #[.int .i64 k,.int .i64 v,.int .i64 st,.slice A n c] 26)).cell? ⟨w.heap.size,3,none⟩=some (.slice A n c):=bP.cell 3
 rw [hw1] at hB1 bP
 have HW1:=Lib.hid hw1
 have HB1:=Lib.hid hB1
 have HRow:=Lib.hid (hrow.below hB1)
 have HC0:=Lib.hid (fun W (h:Below w1.heap.size w1 W)=>show W.cell? ⟨w.heap.size,0,none⟩=some (.int .i64 k) from(bP.below h bP.lt).cell 0)
 have HC1:=Lib.hid (fun W (h:Below w1.heap.size w1 W)=>show W.cell? ⟨w.heap.size,1,none⟩=some (.int .i64 v) from(bP.below h bP.lt).cell 1)
 have HC3:=Lib.hid (fun W (h:Below w1.heap.size w1 W)=>show W.cell? ⟨w.heap.size,3,none⟩=some (.slice A n c) from(bP.below h bP.lt).cell 3)
 have H1:=Lib.hid (fun W=>ref_put_any (n:Int) (by omega) (by omega) W)
 rw [Int.toNat_natCast] at H1
 have hs1:w.heap.size<w1.heap.size:=bP.lt
 clear hw1 hB1 bP hrow
 go_enter Tryd.func8,Tryd.ntmps8
 go_wp2_with (go_at_call 18;rw [HW1.out];refine(H1.out _).mono ?_;rintro e w2 ⟨rfl,hb2⟩)
 clear c3
 go_loopw [3,4] (fun s i wr=>∃ j:Nat,j≤n∧i=.int .i64 j∧s=.string ⟨(lput n++((ev.take j).flatMap enum).flatMap zput).toArray⟩∧Below w1.heap.size w1 wr) (fun _ i _=>n-(intOf i).toNat)
 case atStart=>exact⟨0,by omega,rfl,by simp,hb2⟩
 case round =>
  obtain⟨j,hj,rfl,rfl,hB⟩:=hrel
  have c3:=HC3.out _ hB
  have hl:=HLT.out j
  by_cases hlt:j<n
  ·obtain⟨⟨e1,e2,e3⟩,hej⟩:∃ e,ev[j]? = some e:=⟨_,List.getElem?_eq_getElem (show j<ev.length by rw [HN.out];exact hlt)⟩
   obtain⟨ad,rfl,hba,g0,g1,g2⟩:=(ERow.below HRow.out (hB.mono (Nat.le_of_lt hs1))) j _ hej
   simp only at g0 g1 g2
   have hm:=H64.out.ev _ (List.mem_of_getElem? hej)
   have b1:=hm e1 (by simp [enum])
   have b2:=hm e2 (by simp [enum])
   have b3:=hm e3 (by simp [enum])
   have l1:=zput_len b1.1 b1.2
   have l2:=zput_len b2.1 b2.2
   have l3:=zput_len b3.1 b3.2
   have HT:=Lib.hid (taken_enum hej)
   simp only at HT
   have Z1:=Lib.hid (fun W=>Zig.ref_Put_any e1 b1.1 b1.2 W)
   have Z2:=Lib.hid (fun W=>Zig.ref_Put_any e2 b2.1 b2.2 W)
   have Z3:=Lib.hid (fun W=>Zig.ref_Put_any e3 b3.1 b3.2 W)
   generalize ((ev.take j).flatMap enum).flatMap zput=T at *
   have hLl:(lput n++T).length≤30000010:=by rw [List.length_append];omega
   obtain⟨L,hL⟩:∃ L,lput n++T=L:=⟨_,rfl⟩
   have HL:=Lib.hid hL
   rw [hL] at hLl ⊢
   have hq1:=fun W=>run_string_add_sum (P:=Tryd.prog) W (⟨L.toArray⟩:ByteArray) (⟨(zput e1).toArray⟩:ByteArray) (by rw [tstr_size,tstr_size];omega)
   have hq2:=fun W=>run_string_add_sum (P:=Tryd.prog) W ((⟨L.toArray⟩:ByteArray)++(⟨(zput e1).toArray⟩:ByteArray)) (⟨(zput e2).toArray⟩:ByteArray) (by rw [tstr_app,tstr_size,tstr_size,List.length_append];omega)
   have hq3:=fun W=>run_string_add_sum (P:=Tryd.prog) W ((⟨L.toArray⟩:ByteArray)++(⟨(zput e1).toArray⟩:ByteArray)++(⟨(zput e2).toArray⟩:ByteArray)) (⟨(zput e3).toArray⟩:ByteArray) (by rw [tstr_app,tstr_app,tstr_size,tstr_size,List.length_append,List.length_append];omega)
   have hBa:=hB.alloc hB.size (.cells #[.int .i64 e1,.int .i64 e2,.int .i64 e3] 34)
   have bX:=Blk.new wr 34 #[.int .i64 e1,.int .i64 e2,.int .i64 e3]
   obtain⟨x0,x1,x2⟩:=bX.three
   have i6:IntKind.i64.wrap ((j:Int)+1)=(j:Int)+1:=IntWalk.i64_in _ (by omega)
   have HBa:=Lib.hid hBa
   have HBX:=Lib.hid bX
   have i1:(j:Int)<(n:Int):=by omega
   have i2:(0:Int)≤(j:Int):=by omega
   clear hej hm b1 b2 b3 hl hba hBa bX hL
   go_upto_region 6 with(fail)
   obtain⟨wa,hwa⟩:∃ wa,wr.alloc (.cells #[.int .i64 e1,.int .i64 e2,.int .i64 e3] 34)=wa:=⟨_,rfl⟩
   rw [hwa] at HBa HBX x0 x1 x2 ⊢
   have HXX:=Lib.hid (fun W (h:Below wa.heap.size wa W)=>((HBX.out.below h HBX.out.lt).three:W.cell? ⟨wr.heap.size,0,none⟩=some (.int .i64 e1)∧W.cell? ⟨wr.heap.size,1,none⟩=some (.int .i64 e2)∧W.cell? ⟨wr.heap.size,2,none⟩=some (.int .i64 e3)))
   have hC:=HXX.out _ (Below.refl _ _)
   clear x0 x1 x2 hwa
   go_region_held3 (fun w'=>w'.cell? ⟨wr.heap.size,0,none⟩=some (.int .i64 e1)∧w'.cell? ⟨wr.heap.size,1,none⟩=some (.int .i64 e2)∧w'.cell? ⟨wr.heap.size,2,none⟩=some (.int .i64 e3)) (first | exact hC) (first
    | (go_at_call 19;first
      | ((with_reducible refine(Z1.out _).mono ?_);rintro e w3 ⟨rfl,hb⟩;have hb3:=(Below.refl wa.heap.size wa).drew.trans hb;have hC:=HXX.out _ hb3)
      | ((with_reducible refine(Z2.out _).mono ?_);rintro e w4 ⟨rfl,hb⟩;have hb4:=hb3.trans (hb.mono hb3.size);have hC:=HXX.out _ hb4)
      | ((with_reducible refine(Z3.out _).mono ?_);rintro e w5 ⟨rfl,hb⟩;have hb5:=hb4.trans (hb.mono hb4.size);have hC:=HXX.out _ hb5)
      | fail)
    | fail)
   go_wp2_with fail
   go_roundw
   case rel=>exact⟨j+1,by omega,by go_num,by rw [HT.out,tstr_app,tstr_app,tstr_app,← HL.out];simp,HBa.out.trans (hb5.mono HBa.out.size)⟩
   case measure=>simp [intOf];omega
  ·obtain rfl:j=n:=by omega
   rw [List.take_of_length_le (by rw [HN.out];exact Nat.le_refl _)] at hl ⊢
   have l1:=zput_len H64.out.kind.1 H64.out.kind.2
   have l2:=zput_len H64.out.value.1 H64.out.value.2
   have Z1:=Lib.hid (fun W=>Zig.ref_Put_any k H64.out.kind.1 H64.out.kind.2 W)
   have Z2:=Lib.hid (fun W=>Zig.ref_Put_any v H64.out.value.1 H64.out.value.2 W)
   generalize (ev.flatMap enum).flatMap zput=T at *
   have hLl:(lput j++T).length≤30000010:=by rw [List.length_append];omega
   generalize lput j++T=L at *
   have HEL:=Lib.hid (show(⟨E.toArray⟩:ByteArray)=(⟨L.toArray⟩:ByteArray)++(⟨(zput k).toArray⟩:ByteArray)++(⟨(zput v).toArray⟩:ByteArray) by rw [HE.out,tstr_app,tstr_app])
   have hq1:=fun W=>run_string_add_sum (P:=Tryd.prog) W (⟨L.toArray⟩:ByteArray) (⟨(zput k).toArray⟩:ByteArray) (by rw [tstr_size,tstr_size];omega)
   have hq2:=fun W=>run_string_add_sum (P:=Tryd.prog) W ((⟨L.toArray⟩:ByteArray)++(⟨(zput k).toArray⟩:ByteArray)) (⟨(zput v).toArray⟩:ByteArray) (by rw [tstr_app,tstr_size,tstr_size,List.length_append];omega)
   have i1:¬ (j:Int)<(j:Int):=by omega
   have hC:wr.cell? ⟨w.heap.size,0,none⟩=some (.int .i64 k)∧wr.cell? ⟨w.heap.size,1,none⟩=some (.int .i64 v):=⟨HC0.out _ hB,HC1.out _ hB⟩
   go_upto_region 7 with(fail)
   go_region_held3 (fun w'=>w'.cell? ⟨w.heap.size,0,none⟩=some (.int .i64 k)∧w'.cell? ⟨w.heap.size,1,none⟩=some (.int .i64 v)) (first | exact hC) (first
    | (go_at_call 19;first
      | ((with_reducible refine(Z1.out _).mono ?_);rintro e w3 ⟨rfl,hb⟩;have hb3:=hB.drew.trans (hb.mono hB.size);have hC:=And.intro (HC0.out _ hb3) (HC1.out _ hb3))
      | ((with_reducible refine(Z2.out _).mono ?_);rintro e w4 ⟨rfl,hb⟩;have hb4:=hb3.trans (hb.mono hb3.size);have hC:=And.intro (HC0.out _ hb4) (HC1.out _ hb4))
      | fail)
    | fail)
   go_wp2_with fail
   go_ret
   exact⟨by rw [HEL.out];rfl,HB1.out.trans (hb4.mono HB1.out.size)⟩
theorem ref_Digest_any(r:Rn)(w:World)(hr:r.Ok w)(h64:R64 r.ev r.k r.v):Calls Tryd.prog 10 #[.agg #[.int .i64 r.k,.int .i64 r.v,.int .i64 r.st,.slice r.A r.ev.length r.c]] w fun e w'=>e=.returned (.string ⟨(Sha.sum (bytes r.ev r.k r.v)).toArray⟩)∧Below w.heap.size w w':=by
 have hB1:Below w.heap.size w (w.alloc (.cells #[.int .i64 r.k,.int .i64 r.v,.int .i64 r.st,.slice r.A r.ev.length r.c] 26)):=(Below.refl _ _).alloc (Nat.le_refl _) _
 have bP:=Blk.new w 26 #[.int .i64 r.k,.int .i64 r.v,.int .i64 r.st,.slice r.A r.ev.length r.c]
 have hlb:(bytes r.ev r.k r.v).length≤1073741824:=by have:=bytes_len h64 hr.len;have:=hr.len;omega
 have HY:=Lib.hid (ref_Bytes_any r _ (hr.at hB1) h64)
 have HS:=Lib.hid (fun W=>Sha.ref_Sum_any ⟨(bytes r.ev r.k r.v).toArray⟩ (by rw [tstr_size];exact hlb) W)
 have HB:=Lib.hid hB1
 have x0:=bP.cell 0
 have x1:=bP.cell 1
 have x2:=bP.cell 2
 have x3:=bP.cell 3
 obtain⟨k,v,st,A,c,ev⟩:=r
 simp only at *
 have HD:Hid ((⟨(bytes ev k v).toArray⟩:ByteArray).data.toList=bytes ev k v):=Lib.hid (by simp)
 generalize bytes ev k v=bb at *
 generalize ev.length=n at *
 clear hr h64 hB1 bP hlb
 go_enter Tryd.func10,Tryd.ntmps10
 go_wp2_with (first | (go_at_call 8;refine HY.out.mono ?_;rintro e w1 ⟨rfl,hb1⟩) | (go_at_call 20;refine(HS.out _).mono ?_;rintro e w2 ⟨rfl,hb2⟩) | fail)
 go_ret
 exact⟨rfl,HB.out.trans ((hb1.trans (hb2.mono hb1.size)).mono HB.out.size)⟩
end Go.Proofs.YtekogckmgkodfaaDoor.Trc
