/-
  The examples of the law's works (layer 17), walked on what the package's functions come to.
-/
import Derived.Test.YtodejloonfkkmaaGreatDirPkg
set_option maxRecDepth 100000
set_option maxHeartbeats 8000000
set_option linter.unusedVariables false
set_option linter.unusedSimpArgs false
namespace Go.Proofs.YtodejloonfkkmaaGreat.Dir
open Go.RowKit Mem Arena Kinds Path Cat Suite Delta Mach
attribute [local go_sem ↓] Go.wp_at_zero Go.wp_at_succ
theorem DPkg.runAt(K:DPkg)(p:Prg)(A:Option Addr)(c:Nat)(args:List Int)(f:Int)(W:World)(hp:p.Ok W)(hA:IRow W W.heap.size A args)(hl:args.length≤c)(hn:A=none→c=0)(ha:args.length≤1000000)(hf:N64 f)
  {E k v:Int} {st:Nat} {ev:List (Int×Int×Int)} (hE:mcheck p.ps p.vs p.xs args.length f=E) (h:(rrun p.ps p.vs p.xs args f).kind=k∧(rrun p.ps p.vs p.xs args f).value=v∧(rrun p.ps p.vs p.xs args f).steps=st∧(rrun p.ps p.vs p.xs args f).ev=ev) :
  Calls Tryz.prog 7 #[.agg #[.int .i64 p.ps,.slice p.A p.vs.length p.c,.slice p.B p.xs.length p.e],.slice A args.length c,.int .i64 f] W fun e w'=>Below W.heap.size W w'∧∃ A c,e=.returned (.tuple #[.agg #[.int .i64 k,.int .i64 v,.int .i64 st,.slice A ev.length c],.int .i64 E]):=by
 refine(K.run p A c args f W hp hA hl hn ha hf).mono ?_
 rintro e w' ⟨hb,A',c',he,ok⟩
 obtain⟨h1,h2,h3,h4⟩:=h
 refine⟨hb,A',c',?_⟩
 rw [he,hE]
 unfold rn Rn.val
 simp only
 rw [h1,h2,h3,h4]
theorem DPkg.outAt(K:DPkg)(p:Prg)(A:Option Addr)(c:Nat)(args:List Int)(f:Int)(W:World)(hp:p.Ok W)(hA:IRow W W.heap.size A args)(hl:args.length≤c)(hn:A=none→c=0)(ha:args.length≤1000000)(hf:N64 f)
  {k v:Int} (h1:(rrun p.ps p.vs p.xs args f).kind=k) (h2:(rrun p.ps p.vs p.xs args f).value=v) :
  Calls Tryz.prog 13 #[.agg #[.int .i64 p.ps,.slice p.A p.vs.length p.c,.slice p.B p.xs.length p.e],.slice A args.length c,.int .i64 f] W fun e w'=>e=.returned (.agg #[.int .i64 k,.int .i64 v])∧Below W.heap.size W w':=by
 refine(K.out p A c args f W hp hA hl hn ha hf).mono ?_
 rintro e w' ⟨he,hb⟩
 exact⟨by rw [he,h1,h2],hb⟩
section
variable (K:DPkg)
include K
theorem r5(g:Nat)(W:World)(h:(P5 g).Ok W):Calls Tryz.prog 7 #[.agg #[.int .i64 1,.slice (some ⟨g,0,none⟩) 1 1,.slice (some ⟨g+1,0,none⟩) 5 5],.slice (some ⟨W.heap.size,0,none⟩) 1 1,.int .i64 5] (W.alloc (.cells #[.int .i64 4] 3)) fun e w'=>Below W.heap.size W w'∧∃ A c,e=.returned (.tuple #[.agg #[.int .i64 0,.int .i64 5,.int .i64 5,.slice A 0 c],.int .i64 0]):=by
 refine(DPkg.runAt K (P5 g) (some ⟨W.heap.size,0,none⟩) 1 [4] 5 (W.alloc (.cells #[.int .i64 4] 3)) (h.at (hb4 W)) (arg4 W) (by decide) (fun e=>by cases e) (by decide) (n64 (by decide) (by decide)) (E:=0) (x5_right rfl (by decide) (by decide)) x5_run).mono ?_
 rintro e w' ⟨q,A,c,e1⟩
 exact⟨(hb4 W).trans (q.mono (hb4 W).size),A,c,e1⟩
theorem rn0(g:Nat)(W:World)(h:(P5 g).Ok W):Calls Tryz.prog 7 #[.agg #[.int .i64 1,.slice (some ⟨g,0,none⟩) 1 1,.slice (some ⟨g+1,0,none⟩) 5 5],.slice none 0 0,.int .i64 4] W fun e w'=>Below W.heap.size W w'∧∃ A c,e=.returned (.tuple #[.agg #[.int .i64 0,.int .i64 0,.int .i64 0,.slice A 0 c],.int .i64 18]) :=
 DPkg.runAt K (P5 g) none 0 [] 4 W h (fun i x h=>by simp at h) (by decide) (fun _=>rfl) (by decide) (n64 (by decide) (by decide)) (E:=18) x5_none (rrun_no (by rw [show mcheck (P5 g).ps (P5 g).vs (P5 g).xs ([]:List Int).length 4=18 from x5_none];decide))
theorem o4(g:Nat)(W:World)(h:(P5 g).Ok W):Calls Tryz.prog 13 #[.agg #[.int .i64 1,.slice (some ⟨g,0,none⟩) 1 1,.slice (some ⟨g+1,0,none⟩) 5 5],.slice (some ⟨W.heap.size,0,none⟩) 1 1,.int .i64 4] (W.alloc (.cells #[.int .i64 4] 3)) fun e w'=>e=.returned (.agg #[.int .i64 4,.int .i64 0])∧Below W.heap.size W w':=by
 refine(DPkg.outAt K (P5 g) (some ⟨W.heap.size,0,none⟩) 1 [4] 4 (W.alloc (.cells #[.int .i64 4] 3)) (h.at (hb4 W)) (arg4 W) (by decide) (fun e=>by cases e) (by decide) (n64 (by decide) (by decide)) x5_out'.1 x5_out'.2.1).mono ?_
 rintro e w' ⟨e1,q⟩
 exact⟨e1,(hb4 W).trans (q.mono (hb4 W).size)⟩
theorem o0(g:Nat)(W:World)(h:(P5 g).Ok W):Calls Tryz.prog 13 #[.agg #[.int .i64 1,.slice (some ⟨g,0,none⟩) 1 1,.slice (some ⟨g+1,0,none⟩) 5 5],.slice none 0 0,.int .i64 4] W fun e w'=>e=.returned (.agg #[.int .i64 0,.int .i64 0])∧Below W.heap.size W w':=by
 have hz:=rrun_no (ps:=(P5 g).ps) (vs:=(P5 g).vs) (xs:=(P5 g).xs) (args:=[]) (f:=4) (by rw [show mcheck (P5 g).ps (P5 g).vs (P5 g).xs ([]:List Int).length 4=18 from x5_none];decide)
 exact DPkg.outAt K (P5 g) none 0 [] 4 W h (fun i x h=>by simp at h) (by decide) (fun _=>rfl) (by decide) (n64 (by decide) (by decide)) hz.1 hz.2.1
end
theorem works_of(K:DPkg):Works:=by
  intro w
  obtain⟨o1,b1,hb1⟩:=P5_made w
  obtain⟨wP,hwP⟩:∃ wP,(((w.alloc (.cells #[.int .i64 0] 3)).alloc (.cells #[.int .i64 20,.int .i64 1,.int .i64 25,.int .i64 0,.int .i64 7,.int .i64 0,.int .i64 3,.int .i64 0,.int .i64 1,.int .i64 1] 47)).alloc (.cells #[.int .i64 1,.slice (some ⟨w.heap.size,0,none⟩) 1 1,.slice (some ⟨w.heap.size+1,0,none⟩) 5 5] 25))=wP:=⟨_,rfl⟩
  rw [hwP] at o1 b1 hb1
  have HWP:=Lib.hid hwP
  have HZP:=Lib.hid (show w.heap.size+1+1+1=wP.heap.size by rw [← hwP];simp only [World.size_alloc])
  have HO:=Lib.hid (fun W (hb:Below wP.heap.size wP W)=>o1.at hb)
  have HX:=Lib.hid (fun W (hb:Below wP.heap.size wP W)=>(b1.below hb b1.lt).three)
  have HB:=Lib.hid hb1
  have hlP:=b1.lt
  have R5:=Lib.hid (fun W hb=>r5 K w.heap.size W (HO.out W hb))
  have RN:=Lib.hid (fun W hb=>rn0 K w.heap.size W (HO.out W hb))
  have O4:=Lib.hid (fun(W:World) (n:Nat) (hn:n=W.heap.size) (hb:Below wP.heap.size wP W)=>show Calls Tryz.prog 13 #[.agg #[.int .i64 1,.slice (some ⟨w.heap.size,0,none⟩) 1 1,.slice (some ⟨w.heap.size+1,0,none⟩) 5 5],.slice (some ⟨n,0,none⟩) 1 1,.int .i64 4] (W.alloc (.cells #[.int .i64 4] 3)) (fun e w'=>e=.returned (.agg #[.int .i64 4,.int .i64 0])∧Below W.heap.size W w') from by subst hn;exact o4 K w.heap.size W (HO.out W hb))
  have O0:=Lib.hid (fun W hb=>o0 K w.heap.size W (HO.out W hb))
  clear o1 b1 hb1 hwP
  go_enter Tryz.func5,Tryz.ntmps5
  go_wp2_with (first
    | (go_at_call 7;first
        | (rw [HWP.out, HZP.out]; (with_reducible refine (R5.out _ (Below.refl _ _)).mono ?_); rintro e w2 ⟨hb2, A1, a1, rfl⟩
           have bA:=Blk.new w2 32 #[.int .i64 0,.int .i64 5,.int .i64 5,.slice A1 0 a1]
           have hb3:=hb2.alloc hb2.size (.cells #[.int .i64 0,.int .i64 5,.int .i64 5,.slice A1 0 a1] 32)
           obtain⟨p0,p1,p2⟩:=HX.out _ hb3)
        | ((with_reducible refine (RN.out _ hb3).mono ?_); rintro e w6 ⟨hb6, A3, a3, rfl⟩
           have bA:=(bA.below hb6 bA.lt).alloc (.cells #[.int .i64 0,.int .i64 0,.int .i64 0,.slice A3 0 a3] 32)
           have hb6:=hb3.trans (hb6.mono hb3.size)
           have hb7:=hb6.alloc hb6.size (.cells #[.int .i64 0,.int .i64 0,.int .i64 0,.slice A3 0 a3] 32)
           obtain⟨u0,u1,u2,-⟩:=blk4 bA
           obtain⟨p0,p1,p2⟩:=HX.out _ hb7)
        | fail)
    | (go_at_call 13;first
        | ((with_reducible refine (O4.out _ _ (by first | rfl | simp) hb7).mono ?_); rintro e w13 ⟨rfl, hb13⟩
           have hb13:=hb7.trans (hb13.mono hb7.size)
           obtain⟨p0,p1,p2⟩:=HX.out _ hb13)
        | ((with_reducible refine (O0.out _ hb13).mono ?_); rintro e w14 ⟨rfl, hb14⟩
           have hb14:=hb13.trans (hb14.mono hb13.size))
        | fail)
    | fail)
  go_ret
  exact⟨by simp,HB.out.trans (hb14.mono HB.out.size)⟩
end Go.Proofs.YtodejloonfkkmaaGreat.Dir
