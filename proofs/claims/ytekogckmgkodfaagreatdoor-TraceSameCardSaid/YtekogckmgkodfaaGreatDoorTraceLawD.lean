/-
  The statements on a run's bytes, walked: both ways to run a program have the same digest.
-/
import Derived.Test.YtekogckmgkodfaaGreatDoorTraceWorks
import Derived.Test.YtekogckmgkodfaaGreatDoorMachRng
import Derived.Test.YtekogckmgkodfaaGreatDoorMachN
import Derived.Test.YtekogckmgkodfaaGreatDoorSuiteR
import Derived.Deep.RegionHeld3
import Derived.Deep.DrawnRows
set_option maxRecDepth 100000
set_option maxHeartbeats 4000000
set_option linter.unusedVariables false
set_option linter.unusedSimpArgs false
namespace Go.Proofs.YtekogckmgkodfaaGreatDoor
theorem zTraceLawD0{P:Prop}(h:P:=by
  go_wp2_with (first
   | (go_at_call 4;rw [HW1.out];(with_reducible refine HW.out.mono ?_);rintro e w2 ⟨rfl,hb2⟩;obtain⟨b0,b1,b2⟩:=HX.out _ hb2)
   | (go_at_call 5;(with_reducible refine(HF.out _).mono ?_);rintro e w3 ⟨rfl,hb3⟩;have hb3:=hb2.trans (hb3.mono hb2.size))
   | fail)
  go_ret
  exact⟨rfl,HB.out.trans (hb3.mono HB.out.size)⟩):P:=h
end Go.Proofs.YtekogckmgkodfaaGreatDoor
namespace Go.Proofs.YtekogckmgkodfaaGreatDoor.Trc
open Go.RowKit Leb Zig Mem Wire Arena Kinds Delta Mach
attribute [local go_sem ↓] Go.wp_at_zero Go.wp_at_succ
theorem r64_rrun{ps:Int}{vs:List Int}{xs:List Nd}{args:List Int}{f:Int}(hx:∀ x∈xs,I64 x.2)(ha:∀ n∈args,I64 n):R64 (rrun ps vs xs args f).ev (rrun ps vs xs args f).kind (rrun ps vs xs args f).value:=by
 have hz:R64 [] 0 0:=⟨(fun e he=>by cases he),by decide,by decide⟩
 unfold rrun
 split
 ·have h:=rng_run hx ha (vs:=vs) f.toNat
  have hk:=run_out vs xs args f.toNat
  refine⟨fun e he n hn=>?_,⟨by omega,by omega⟩,h.value⟩
  obtain⟨h1,h2,h3⟩:=h.ev e he
  rcases List.mem_cons.1 hn with rfl | hn
  ·exact h1
  ·rcases List.mem_cons.1 hn with rfl | hn
   ·exact h2
   ·rw [List.mem_singleton] at hn;subst hn;exact h3
 ·exact hz
theorem traceSame_of(M:∀ (p:Prg) (A:Option Addr) (c:Nat) (args:List Int) (f:Int) (w:World),p.Ok w→IRow w w.heap.size A args→Calls Tryz.prog 6 #[.agg #[.int .i64 p.ps,.slice p.A p.vs.length p.c,.slice p.B p.xs.length p.e],.slice A args.length c,.int .i64 f] w (RunEnds p args f w))(K:∀ (p:Prg) (A:Option Addr) (c:Nat) (args:List Int) (f:Int) (w:World),p.Ok w→IRow w w.heap.size A args→Calls Tryz.prog 7 #[.agg #[.int .i64 p.ps,.slice p.A p.vs.length p.c,.slice p.B p.xs.length p.e],.slice A args.length c,.int .i64 f] w (RunEnds p args f w))(p:Prg)(A:Option Addr)(c:Nat)(args:List Int)(hl:args.length≤c)(hA:A=none→c=0)(f:Int)(hf:N64 f)(w:World)(hp:p.In w)(hnb:∀ x∈p.xs,I64 x.2)(hR:IRow w w.heap.size A args)(hn:∀ n∈args,I64 n)(hG:Sha.Cubes w) :
    Calls Tryz.prog 3 #[.agg #[.int .i64 p.ps,.slice p.A p.vs.length p.c,.slice p.B p.xs.length p.e],.slice A args.length c,.int .i64 f] w fun e w'=>e=.returned (.bool true)∧Below w.heap.size w w':=by
  have hb0:Below w.heap.size w (w.alloc (.cells #[.int .i64 p.ps,.slice p.A p.vs.length p.c,.slice p.B p.xs.length p.e] 25)):=(Below.refl _ _).alloc (Nat.le_refl _) _
  have bX:=Blk.new w 25 #[.int .i64 p.ps,.slice p.A p.vs.length p.c,.slice p.B p.xs.length p.e]
  obtain⟨w1,hw1⟩:∃ w1,w.alloc (.cells #[.int .i64 p.ps,.slice p.A p.vs.length p.c,.slice p.B p.xs.length p.e] 25)=w1:=⟨_,rfl⟩
  rw [hw1] at hb0 bX
  have HP:=Lib.hid (fun W (hb:Below w1.heap.size w1 W)=>(hp.at hb0).at hb)
  have HR:=Lib.hid (fun W (hb:Below w1.heap.size w1 W)=>(hR.at hb0).at hb)
  have HX:=Lib.hid (fun W (hb:Below w1.heap.size w1 W)=>(bX.below hb bX.lt).three)
  have HW:=Lib.hid (Trc.works_any w1 (hG.below hb0))
  have HF:=Lib.hid (fun W=>ref_Few_any p W)
  have HG:=Lib.hid (fun W (hb:Below w1.heap.size w1 W)=>(hG.below hb0).below hb)
  have HB:=Lib.hid hb0
  have HW1:=Lib.hid hw1
  have hgl:=bX.lt
  have hr64:=r64_rrun (ps:=p.ps) (vs:=p.vs) (f:=f) hnb hn
  clear hp hR hb0 bX hw1 hG hnb hn
  obtain⟨b,hb⟩:∃ b,(decide (p.xs.length≤60) && decide (p.vs.length≤20))=b:=⟨_,rfl⟩
  rw [hb] at HF
  cases b with
  | false =>
    go_enter Tryz.func3,Tryz.ntmps3
    exact zTraceLawD0
  | true =>
    by_cases h40:(40:Int)<(args.length:Int)
    · clear hb hf
      go_enter Tryz.func3,Tryz.ntmps3
      exact zTraceLawD0
    by_cases h200:200<f
    · clear hb hf
      go_enter Tryz.func3,Tryz.ntmps3
      exact zTraceLawD0
    have hq:p.xs.length≤60∧p.vs.length≤20:=by simpa using hb
    have HRun:=Lib.hid (fun W (hb:Below w1.heap.size w1 W)=>(K p A c args f W ((HP.out W hb).ok (by omega) (by omega)) (HR.out W hb)).mono (RunEnds.open p args f W))
    have HRef:=Lib.hid (fun W (hb:Below w1.heap.size w1 W)=>(M p A c args f W ((HP.out W hb).ok (by omega) (by omega)) (HR.out W hb)).mono (RunEnds.open p args f W))
    generalize rrun p.ps p.vs p.xs args f=s at *
    generalize mcheck p.ps p.vs p.xs args.length f=E at *
    have HDG:=Lib.hid (fun A1 c1 W (hb:Below w1.heap.size w1 W) (h1:(rn A1 c1 s).Ok W)=>show Calls Tryz.prog 8 #[.agg #[.int .i64 s.kind,.int .i64 s.value,.int .i64 s.steps,.slice A1 s.ev.length c1]] W fun e w'=>e=.returned (.string ⟨(digest s.ev s.kind s.value).toArray⟩)∧Below W.heap.size W w' from
      Digest_any _ W (HG.out W hb) h1 hr64)
    generalize digest s.ev s.kind s.value=dd at *
    clear hq hb hf hr64
    go_enter Tryz.func3,Tryz.ntmps3
    go_upto_region 9 with(first
      | (go_at_call 4;rw [HW1.out];(with_reducible refine HW.out.mono ?_);rintro e w2 ⟨rfl,hb2⟩;obtain⟨b0,b1,b2⟩:=HX.out _ hb2)
      | (go_at_call 5;(with_reducible refine(HF.out _).mono ?_);rintro e w3 ⟨rfl,hb3⟩;have hb3:=hb2.trans (hb3.mono hb2.size);obtain⟨b0,b1,b2⟩:=HX.out _ hb3)
      | (go_at_call 6; (with_reducible refine (HRef.out _ hb3).mono ?_); rintro e w4 ⟨hb4, A1, c1, rfl, ok1⟩
         have hb4:=hb3.trans (hb4.mono hb3.size)
         have bA:=Blk.new w4 32 #[.int .i64 s.kind,.int .i64 s.value,.int .i64 s.steps,.slice A1 s.ev.length c1]
         have hbA:Below w4.heap.size w4 (w4.alloc (.cells #[.int .i64 s.kind,.int .i64 s.value,.int .i64 s.steps,.slice A1 s.ev.length c1] 32)):=(Below.refl _ _).alloc (Nat.le_refl _) _
         have ok1:=ok1.at hbA
         have hb5:=hb4.trans (hbA.mono hb4.size)
         obtain⟨b0,b1,b2⟩:=HX.out _ hb5)
      | (go_at_call 7; (with_reducible refine (HRun.out _ hb5).mono ?_); rintro e w6 ⟨hb6, A2, c2, rfl, ok2⟩
         have ok1:=ok1.at hb6
         have bA6:=bA.below hb6 bA.lt
         have hb7:=hb5.trans (hb6.mono hb5.size)
         have bB:=Blk.new w6 32 #[.int .i64 s.kind,.int .i64 s.value,.int .i64 s.steps,.slice A2 s.ev.length c2]
         have hbB:Below w6.heap.size w6 (w6.alloc (.cells #[.int .i64 s.kind,.int .i64 s.value,.int .i64 s.steps,.slice A2 s.ev.length c2] 32)):=(Below.refl _ _).alloc (Nat.le_refl _) _
         have ok1:=ok1.at hbB
         have ok2:=ok2.at hbB
         have hb8:=hb7.trans (hbB.mono hb7.size)
         have bA8:=bA6.below hbB bA6.lt)
      | fail)
    obtain⟨w8,hw8⟩:∃ w8,w6.alloc (.cells #[.int .i64 s.kind,.int .i64 s.value,.int .i64 s.steps,.slice A2 s.ev.length c2] 32)=w8:=⟨_,rfl⟩
    rw [hw8] at bA8 bB ok1 ok2 hb8 ⊢
    have HXX:=Lib.hid (fun W (h:Below w8.heap.size w8 W)=>show W.cell? ⟨w4.heap.size,0,none⟩=some (.int .i64 s.kind)∧W.cell? ⟨w4.heap.size,1,none⟩=some (.int .i64 s.value)∧W.cell? ⟨w4.heap.size,2,none⟩=some (.int .i64 s.steps)∧W.cell? ⟨w4.heap.size,3,none⟩=some (.slice A1 s.ev.length c1) ∧
        W.cell? ⟨w6.heap.size,0,none⟩=some (.int .i64 s.kind)∧W.cell? ⟨w6.heap.size,1,none⟩=some (.int .i64 s.value)∧W.cell? ⟨w6.heap.size,2,none⟩=some (.int .i64 s.steps)∧W.cell? ⟨w6.heap.size,3,none⟩=some (.slice A2 s.ev.length c2) from
      ⟨(bA8.below h bA8.lt).cell 0,(bA8.below h bA8.lt).cell 1,(bA8.below h bA8.lt).cell 2,(bA8.below h bA8.lt).cell 3,(bB.below h bB.lt).cell 0,(bB.below h bB.lt).cell 1,(bB.below h bB.lt).cell 2,(bB.below h bB.lt).cell 3⟩)
    have HO1:=Lib.hid (fun W (h:Below w8.heap.size w8 W)=>ok1.at h)
    have HO2:=Lib.hid (fun W (h:Below w8.heap.size w8 W)=>ok2.at h)
    have HK8:=Lib.hid hb8
    have hC:=HXX.out _ (Below.refl _ _)
    have hK:=(Below.refl w8.heap.size w8).drew
    clear bA bA6 bA8 bB ok1 ok2 hb8 hw8 hbA hbB hb2 hb3 hb4 hb5 hb6 hb7
    go_region_held3 (fun W=>W.cell? ⟨w4.heap.size,0,none⟩=some (.int .i64 s.kind)∧W.cell? ⟨w4.heap.size,1,none⟩=some (.int .i64 s.value)∧W.cell? ⟨w4.heap.size,2,none⟩=some (.int .i64 s.steps)∧W.cell? ⟨w4.heap.size,3,none⟩=some (.slice A1 s.ev.length c1) ∧
        W.cell? ⟨w6.heap.size,0,none⟩=some (.int .i64 s.kind)∧W.cell? ⟨w6.heap.size,1,none⟩=some (.int .i64 s.value)∧W.cell? ⟨w6.heap.size,2,none⟩=some (.int .i64 s.steps)∧W.cell? ⟨w6.heap.size,3,none⟩=some (.slice A2 s.ev.length c2)) (first | exact hC) (first
      | (go_at_call 8;first
          | ((with_reducible refine(HDG.out A1 c1 _ (HK8.out.trans (hK.mono HK8.out.size)) (HO1.out _ hK)).mono ?_);rintro e wn ⟨rfl,hb⟩;have hK:=hK.trans (hb.mono hK.size);have hC:=HXX.out _ hK)
          | ((with_reducible refine(HDG.out A2 c2 _ (HK8.out.trans (hK.mono HK8.out.size)) (HO2.out _ hK)).mono ?_);rintro e wn ⟨rfl,hb⟩;have hK:=hK.trans (hb.mono hK.size);have hC:=HXX.out _ hK)
          | fail)
      | fail)
    all_goals
      go_wp2_with fail
      go_ret
      exact⟨rfl,HB.out.trans ((HK8.out.trans (hK.mono HK8.out.size)).mono HB.out.size)⟩
end Go.Proofs.YtekogckmgkodfaaGreatDoor.Trc
