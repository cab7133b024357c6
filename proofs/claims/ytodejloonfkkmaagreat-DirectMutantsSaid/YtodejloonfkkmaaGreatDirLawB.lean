/-
  The laws of layer 17, walked: both ways tell the same of each mutant. (Written by tools/gen_dirmut.py.)
-/
import Derived.Test.YtodejloonfkkmaaGreatDirLawA
import Derived.Test.YtodejloonfkkmaaGreatDirMut
import Derived.Test.YtodejloonfkkmaaGreatSitesLawE
import Derived.Deep.RegionHeld3
import Derived.Deep.DrawnRows
import Derived.Deep.CutBlock
set_option maxRecDepth 100000
set_option maxHeartbeats 8000000
set_option linter.unusedVariables false
set_option linter.unusedSimpArgs false
namespace Go.Proofs.YtodejloonfkkmaaGreat.Dir
open Go.RowKit Mem Arena Kinds Path Cat Suite Delta Sites Mach
attribute [local go_sem ↓] Go.wp_at_zero Go.wp_at_succ
structure SPkg2:Prop where
 all:∀ (p:Prg) (w:World),p.Ok w→Calls Tryz.prog 10 #[.agg #[.int .i64 p.ps,.slice p.A p.vs.length p.c,.slice p.B p.xs.length p.e]] w (MAll (pcheck p.ps p.vs p.xs) (msites p.xs) w)
 mutant:∀ (p:Prg) (d:Dlt) (w:World),p.Ok w→d.Ok w→Calls Tryz.prog 11 #[.agg #[.int .i64 p.ps,.slice p.A p.vs.length p.c,.slice p.B p.xs.length p.e],.agg #[.slice d.A d.p.length d.c,.int .i64 d.op,.int .i64 d.n]] w (MEnds p d w)
theorem mutant_in2(C:SPkg2)(p:Prg)(hc:pcheck p.ps p.vs p.xs=0){m:Mt}(hm:m∈msites p.xs)(P:Option Addr)(cp:Nat)(W:World)(h:p.Ok W)(h':(dl P cp m).Ok W) :
  Calls Tryz.prog 11 #[.agg #[.int .i64 p.ps,.slice p.A p.vs.length p.c,.slice p.B p.xs.length p.e],.agg #[.slice P m.1.length cp,.int .i64 m.2.1,.int .i64 m.2.2]] W fun e w'=>Below W.heap.size W w'∧∃ A c B ce,e=.returned (.tuple #[.agg #[.int .i64 p.ps,.slice A p.vs.length c,.slice B (anew p.xs m.1 m.2.1 m.2.2).length ce],.int .i64 0])∧Prg.Ok ⟨p.ps,A,c,p.vs,B,ce,anew p.xs m.1 m.2.1 m.2.2⟩ w'∧∀ ad,A=some ad→p.A=some ad∨W.heap.size≤ad.block :=
 (C.mutant p (dl P cp m) W h h').mono (fun e w' q=>MEndsE.ok q (merr_in hc hm))
theorem directMutants_of(C:SPkg2)(M:MPkg)(K:DPkg)(hw:Works)(p:Prg)(n:Int)(A:Option Addr)(c:Nat)(args:List Int)(hl:args.length≤c)(hA:A=none→c=0)(f:Int)(hf:N64 f)(w:World)(hp:p.In w)(hR:IRow w w.heap.size A args) :
    Calls Tryz.prog 4 #[.agg #[.int .i64 p.ps,.slice p.A p.vs.length p.c,.slice p.B p.xs.length p.e],.int .i64 n,.slice A args.length c,.int .i64 f] w fun e w'=>e=.returned (.bool true)∧Below w.heap.size w w':=by
  have hB0:Below w.heap.size w (w.alloc (.cells #[.int .i64 p.ps,.slice p.A p.vs.length p.c,.slice p.B p.xs.length p.e] 25)):=(Below.refl _ _).alloc (Nat.le_refl _) _
  have bX:=Blk.new w 25 #[.int .i64 p.ps,.slice p.A p.vs.length p.c,.slice p.B p.xs.length p.e]
  have hi:=hp.at hB0
  have hr:=hR.at hB0
  obtain⟨wQ,hwQ⟩:∃ wQ,w.alloc (.cells #[.int .i64 p.ps,.slice p.A p.vs.length p.c,.slice p.B p.xs.length p.e] 25)=wQ:=⟨_,rfl⟩
  rw [hwQ] at hB0 bX hi hr
  have hgl:=bX.lt
  have HBX:=Lib.hid (fun W (h:Below wQ.heap.size wQ W)=>(bX.below h hgl).three)
  have HP:=Lib.hid hi
  have HR:=Lib.hid (fun W (h:Below wQ.heap.size wQ W)=>hr.at h)
  have HWQ:=Lib.hid hwQ
  have HW:=Lib.hid (fun W=>hw W)
  have HF:=Lib.hid (fun W=>few17_any p A c args.length f W)
  have HA:=Lib.hid (fun W h=>C.all p W h)
  have HTY:=Lib.hid (fun(hc:pcheck p.ps p.vs p.xs=0) (hl:p.xs.length≤199) (m:Mt) (hm:m∈msites p.xs)=>mutant_check hc hl (q:=m.1) (op:=m.2.1) (n:=m.2.2) hm args.length f)
  have HLEN:=Lib.hid (fun(hc:pcheck p.ps p.vs p.xs=0) (hl:p.xs.length≤199) (m:Mt) (hm:m∈msites p.xs)=>(typed_in hc hl (q:=m.1) (op:=m.2.1) (n:=m.2.2) hm).2.2.2)
  have HMU:=Lib.hid (fun(hc:pcheck p.ps p.vs p.xs=0) (m:Mt) (hm:m∈msites p.xs) P cp W h h'=>mutant_in2 C p hc hm P cp W h h')
  clear hp hR bX hwQ hi hr
  generalize hc:pcheck p.ps p.vs p.xs=e9 at *
  generalize hfe:mfew p args.length f=fe at *
  cases fe with
  | false =>
    go_enter Tryz.func4,Tryz.ntmps4
    go_wp2_with (first
      | (go_at_call 5;rw [HWQ.out];(with_reducible refine(HW.out _).mono ?_);rintro e w2 ⟨rfl,hb2⟩;obtain⟨b0,b1,b2⟩:=HBX.out _ hb2)
      | (go_at_call 6;(with_reducible refine(HF.out _).mono ?_);rintro e w3 ⟨rfl,hb⟩;have hb3:=hb2.trans (hb.mono hb2.size);obtain⟨b0,b1,b2⟩:=HBX.out _ hb3)
      | fail)
    go_ret
    exact⟨rfl,hB0.trans (hb3.mono hB0.size)⟩
  | true =>
  obtain⟨q1,q2,q3,q4⟩:=mfew_ok hfe
  have HOK:=Lib.hid (fun W (h:Below wQ.heap.size wQ W)=>(HP.out.at h).ok (by omega) (by omega))
  by_cases h9:e9=0
  case neg =>
    have HA2:=Lib.hid (fun W h=>(HA.out W h).mono (fun e w' q=>q.no h9))
    have e0:(e9==0)=false:=by simpa using h9
    have e1:(e9 != 0)=true:=by simpa using h9
    clear HA h9 hfe hc
    go_enter Tryz.func4,Tryz.ntmps4
    go_wp2_with (first
      | (go_at_call 5;rw [HWQ.out];(with_reducible refine(HW.out _).mono ?_);rintro e w2 ⟨rfl,hb2⟩;obtain⟨b0,b1,b2⟩:=HBX.out _ hb2)
      | (go_at_call 6;(with_reducible refine(HF.out _).mono ?_);rintro e w3 ⟨rfl,hb⟩;have hb3:=hb2.trans (hb.mono hb2.size);obtain⟨b0,b1,b2⟩:=HBX.out _ hb3)
      | (go_at_call 10;refine(HA2.out _ (HOK.out _ hb3)).mono ?_;rintro e w4 ⟨hb,A4,c4,rfl⟩;have hb4:=hb3.trans (hb.mono hb3.size))
      | fail)
    go_ret
    exact⟨rfl,hB0.trans (hb4.mono hB0.size)⟩
  subst h9
  have HA2:=Lib.hid (fun W h=>(HA.out W h).mono (fun e w' q=>q.ok rfl))
  clear HA hfe
  by_cases hn:n<0
  case pos =>
    clear hc HTY HMU HLEN
    generalize msites p.xs=M' at *
    go_enter Tryz.func4,Tryz.ntmps4
    go_wp2_with (first
      | (go_at_call 5;rw [HWQ.out];(with_reducible refine(HW.out _).mono ?_);rintro e w2 ⟨rfl,hb2⟩;obtain⟨b0,b1,b2⟩:=HBX.out _ hb2)
      | (go_at_call 6;(with_reducible refine(HF.out _).mono ?_);rintro e w3 ⟨rfl,hb⟩;have hb3:=hb2.trans (hb.mono hb2.size);obtain⟨b0,b1,b2⟩:=HBX.out _ hb3)
      | (go_at_call 10;refine(HA2.out _ (HOK.out _ hb3)).mono ?_;rintro e w4 ⟨hb,A4,c4,rfl,-,-,hm4⟩;have hb4:=hb3.trans (hb.mono hb3.size))
      | fail)
    go_ret
    exact⟨rfl,hB0.trans (hb4.mono hB0.size)⟩
  obtain⟨q,rfl⟩:=Int.eq_ofNat_of_zero_le (show 0≤n by omega)
  by_cases hq:(msites p.xs).length≤q
  case pos =>
    have j1:((msites p.xs).length:Int)≤(q:Int):=by omega
    clear hc HTY HMU HLEN
    generalize msites p.xs=M' at *
    go_enter Tryz.func4,Tryz.ntmps4
    go_wp2_with (first
      | (go_at_call 5;rw [HWQ.out];(with_reducible refine(HW.out _).mono ?_);rintro e w2 ⟨rfl,hb2⟩;obtain⟨b0,b1,b2⟩:=HBX.out _ hb2)
      | (go_at_call 6;(with_reducible refine(HF.out _).mono ?_);rintro e w3 ⟨rfl,hb⟩;have hb3:=hb2.trans (hb.mono hb2.size);obtain⟨b0,b1,b2⟩:=HBX.out _ hb3)
      | (go_at_call 10;refine(HA2.out _ (HOK.out _ hb3)).mono ?_;rintro e w4 ⟨hb,A4,c4,rfl,-,-,hm4⟩;have hb4:=hb3.trans (hb.mono hb3.size))
      | fail)
    go_ret
    exact⟨rfl,hB0.trans (hb4.mono hB0.size)⟩
  have j1:¬ ((msites p.xs).length:Int)≤(q:Int):=by omega
  have j2:(q:Int)<((msites p.xs).length:Int):=by omega
  have j3:(0:Int)≤(q:Int):=by omega
  obtain⟨m,hm⟩:∃ m,(msites p.xs)[q]? = some m:=⟨_,List.getElem?_eq_getElem (by omega)⟩
  have hmem:m∈msites p.xs:=List.mem_of_getElem? hm
  have t1:=HTY.out rfl (by omega) m hmem
  have KM:=Lib.hid (fun P cp W h h'=>HMU.out rfl m hmem P cp W h h')
  obtain⟨mp,mo,mn⟩:=m
  simp only at t1 KM
  have KD:=Lib.hid (fun A6 c6 B6 ce6 W (h:Prg.Ok ⟨p.ps,A6,c6,p.vs,B6,ce6,anew p.xs mp mo mn⟩ W) (h2:Below wQ.heap.size wQ W)=>(K.run ⟨p.ps,A6,c6,p.vs,B6,ce6,anew p.xs mp mo mn⟩ A c args f W h (HR.out W h2) hl hA (by omega) hf).mono (RunEnds.open _ args f W))
  have KR:=Lib.hid (fun A6 c6 B6 ce6 W (h:Prg.Ok ⟨p.ps,A6,c6,p.vs,B6,ce6,anew p.xs mp mo mn⟩ W) (h2:Below wQ.heap.size wQ W)=>(M.run ⟨p.ps,A6,c6,p.vs,B6,ce6,anew p.xs mp mo mn⟩ A c args f W h (HR.out W h2) hl hA (by omega) hf).mono (RunEnds.open _ args f W))
  have HCk:=Lib.hid (fun W (h:p.Ok W) (h2:Below wQ.heap.size wQ W)=>M.check p A c args f W h (HR.out W h2) hl hA (by omega) hf)
  simp only at KD KR
  rw [t1] at KD KR
  generalize mcheck p.ps p.vs p.xs args.length f=E at *
  generalize anew p.xs mp mo mn=R at *
  generalize rrun p.ps p.vs R args f=s at *
  have HS:=Lib.hid (fun A1 c1 A2 c2 W (h1:(rn A1 c1 s).Ok W) (h2:(rn A2 c2 s).Ok W)=>show Calls Tryz.prog 9 #[.agg #[.int .i64 s.kind,.int .i64 s.value,.int .i64 s.steps,.slice A1 s.ev.length c1],.agg #[.int .i64 s.kind,.int .i64 s.value,.int .i64 s.steps,.slice A2 s.ev.length c2]] W fun e w'=>e=.returned (.bool true)∧Below W.heap.size W w' from by
    have:=ref_MSame_any _ _ W h1 h2
    rw [show(rn A1 c1 s).same (rn A2 c2 s)=true from Rn.same_iff.2 ⟨rfl,rfl,rfl,rfl⟩] at this
    exact this)
  have HVL:=Lib.hid (fun W (h:p.Ok W) hv ad e=>vars_lt (p:=p) (W:=W) h hv ad e)
  clear hc HTY HMU HLEN t1 hmem hq hn q1 q2 q3 q4 hf
  generalize msites p.xs=M' at *
  go_enter Tryz.func4,Tryz.ntmps4
  go_wp2_with (first
    | (go_at_call 5;rw [HWQ.out];(with_reducible refine(HW.out _).mono ?_);rintro e w2 ⟨rfl,hb2⟩;obtain⟨b0,b1,b2⟩:=HBX.out _ hb2)
    | (go_at_call 6;(with_reducible refine(HF.out _).mono ?_);rintro e w3 ⟨rfl,hb⟩;have hb3:=hb2.trans (hb.mono hb2.size);obtain⟨b0,b1,b2⟩:=HBX.out _ hb3)
    | (go_at_call 10;refine(HA2.out _ (HOK.out _ hb3)).mono ?_;rintro e w4 ⟨hb,A4,c4,rfl,-,-,hm4⟩;have hb4:=hb3.trans (hb.mono hb3.size))
    | fail)
  have HB4:=Lib.hid hb4
  obtain⟨ad,P,cp,rfl,G⟩:=hm4.get hm
  have hadb:ad.block<w4.heap.size:=by
    obtain⟨ad',_,_,e,hlt,-,-⟩:=hm4 q _ hm
    cases e
    exact hlt
  have HS4:=Lib.hid (fun W (h:Below w4.heap.size w4 W)=>And.intro (HBX.out _ (hb4.trans (h.mono hb4.size))) (G W h).2)
  have HOK4:=Lib.hid (fun W (h:Below w4.heap.size w4 W)=>And.intro (HOK.out _ (hb4.trans (h.mono hb4.size))) (G W h).1)
  have hS:=HS4.out _ (Below.refl _ _)
  unfold Cem at hS
  simp only at hS
  have AL:Below w4.heap.size w4 (w4.alloc (.cells #[.int .i64 0,.slice none 0 0,.slice none 0 0] 25)):=(Below.refl _ _).alloc (Nat.le_refl _) _
  have hbd:Below w4.heap.size w4 w4.drew:=(Below.refl _ _).drew
  have hgp:w.heap.size<w4.heap.size:=Nat.lt_of_lt_of_le hgl hb4.size
  have nb:∀ i,(⟨w4.heap.size,i,none⟩:Addr)≠ad.add (q*3):=fun i=>ne_blk (by rw [add_blockN];omega)
  have nb1:∀ i o,(⟨w4.heap.size,i,none⟩:Addr)≠⟨(ad.add (q*3)).block,o,none⟩:=fun i o=>ne_blk (by show(ad.add (q*3)).block≠_;rw [add_blockN];omega)
  have nb2:∀ i o,(⟨w4.heap.size,i,none⟩:Addr)≠⟨w.heap.size,o,none⟩:=fun i o=>ne_blk (by show w.heap.size≠_;omega)
  have hV4:=Lib.hid (HVL.out _ (HOK4.out _ (Below.refl _ _)).1)
  clear hm4 hm G hb hb2 hb3 b0 b1 b2
  go_region_held3 (fun w'=>(w'.cell? ⟨w.heap.size,0,none⟩=some (.int .i64 p.ps)∧w'.cell? ⟨w.heap.size,1,none⟩=some (.slice p.A p.vs.length p.c)∧w'.cell? ⟨w.heap.size,2,none⟩=some (.slice p.B p.xs.length p.e))∧(w'.cell? (ad.add (q*3))=some (.slice P mp.length cp)∧w'.cell? ⟨(ad.add (q*3)).block,(ad.add (q*3)).off+1,none⟩=some (.int .i64 mo)∧w'.cell? ⟨(ad.add (q*3)).block,(ad.add (q*3)).off+2,none⟩=some (.int .i64 mn))) (first | exact hS | exact HS4.out _ AL.drew | exact HS4.out _ AL | exact HS4.out _ (hBq.alloc hBq.size _) | exact⟨⟨by (repeat rw [World.cell?_setCell_other _ _ _ _ (nb2 _ _)]);exact hS.1.1,by (repeat rw [World.cell?_setCell_other _ _ _ _ (nb2 _ _)]);exact hS.1.2.1,by (repeat rw [World.cell?_setCell_other _ _ _ _ (nb2 _ _)]);exact hS.1.2.2⟩,by (repeat rw [World.cell?_setCell_other _ _ _ _ (nb _)]);exact hS.2.1,by (repeat rw [World.cell?_setCell_other _ _ _ _ (nb1 _ _)]);exact hS.2.2.1,by (repeat rw [World.cell?_setCell_other _ _ _ _ (nb1 _ _)]);exact hS.2.2.2⟩ | fail) (first
    | (go_at_call 11; first
      | ((with_reducible refine(KM.out P cp w4.drew (HOK4.out _ hbd).1 (HOK4.out _ hbd).2).mono ?_);rintro e w7 ⟨hb7,A6,c6,B6,ce6,rfl,ok7,far7⟩;have hBq:Below w4.heap.size w4 w7:=hbd.trans hb7;have hS:=HS4.out _ hBq;unfold Cem at hS;simp only at hS)
      | ((with_reducible refine(KM.out P cp _ (HOK4.out _ AL.drew).1 (HOK4.out _ AL.drew).2).mono ?_);rintro e w7 ⟨hb7,A6,c6,B6,ce6,rfl,ok7,far7⟩;have bX0:=(Blk.new w4 25 #[.int .i64 0,.slice none 0 0,.slice none 0 0]).drew;have bX:=bX0.below hb7 bX0.lt;have hBq:Below w4.heap.size w4 w7:=AL.drew.trans (hb7.mono AL.drew.size);have zf:=bX.frozen;obtain⟨z0,z1,z2⟩:=bX.three;have hS:=HS4.out _ hBq;unfold Cem at hS;simp only at hS)
      | fail)
    | fail)
  all_goals first
    | (have hF : FinP w4 (((w7.setCell ⟨w4.heap.size, 0, none⟩ (.int .i64 p.ps)).setCell ⟨w4.heap.size, 1, none⟩ (.slice A6 p.vs.length c6)).setCell ⟨w4.heap.size, 2, none⟩ (.slice B6 R.length ce6)) w4.heap.size p.ps A6 c6 p.vs B6 ce6 R := finp_set hBq ok7 bX (Nat.le_refl _) (fun hv ad' e => by
         rcases far7 ad' e with z | z
         · have := hV4.out hv ad' z
           omega
         · have z2 : w4.heap.size + 1 ≤ ad'.block := by simpa using z
           omega)
       generalize ((w7.setCell ⟨w4.heap.size,0,none⟩ (.int .i64 p.ps)).setCell ⟨w4.heap.size,1,none⟩ (.slice A6 p.vs.length c6)).setCell ⟨w4.heap.size,2,none⟩ (.slice B6 R.length ce6)=w8 at hF ⊢
       obtain⟨g7,hg7⟩:∃ g7,w4.heap.size=g7:=⟨_,rfl⟩
       have hF2:=hF.2
       have hF1:=hF.1
       rw [hg7] at hF2
       clear hF
       have hF:Below w4.heap.size w4 w8∧_:=⟨hF1,hF2⟩
       rw [hg7])
    | (have hF : FinP w4 (w7.alloc (.cells #[.int .i64 p.ps, .slice A6 p.vs.length c6, .slice B6 R.length ce6] 25)) w7.heap.size p.ps A6 c6 p.vs B6 ce6 R := finp_new hBq ok7
       generalize w7.alloc (.cells #[.int .i64 p.ps,.slice A6 p.vs.length c6,.slice B6 R.length ce6] 25)=w8 at hF ⊢
       generalize w7.heap.size=g7 at hF ⊢)
  all_goals (
    obtain⟨hB8,bF,okF⟩:=hF
    have HS8:=Lib.hid (fun W (h:Below w8.heap.size w8 W)=>And.intro (HS4.out _ (hB8.trans (h.mono hB8.size))).1 (bF.below h bF.lt).three)
    have HK8:=Lib.hid (fun W (h:Below w8.heap.size w8 W)=>And.intro (HOK4.out _ (hB8.trans (h.mono hB8.size))).1 (okF.at h))
    obtain⟨⟨b0,b1,b2⟩,f0,f1,f2⟩:=HS8.out _ (Below.refl _ _)
    have HF8:=Lib.hid (HB4.out.trans (hB8.mono HB4.out.size))
    clear hBq ok7 hS bF okF hb7 far7 nb nb1 nb2 hbd AL
    go_wp2_with (first
      | (go_at_call 7; (with_reducible refine (KD.out _ _ _ _ _ (HK8.out _ (Below.refl _ _)).2 HF8.out).mono ?_); rintro e w9 ⟨hb9, A1, c1, rfl, ok1⟩
         have bA:=Blk.new w9 32 #[.int .i64 s.kind,.int .i64 s.value,.int .i64 s.steps,.slice A1 s.ev.length c1]
         have hbA:Below w9.heap.size w9 (w9.alloc (.cells #[.int .i64 s.kind,.int .i64 s.value,.int .i64 s.steps,.slice A1 s.ev.length c1] 32)):=(Below.refl _ _).alloc (Nat.le_refl _) _
         have ok1:=ok1.at hbA
         have hb10:=hb9.trans (hbA.mono hb9.size)
         obtain⟨⟨b0,b1,b2⟩,f0,f1,f2⟩:=HS8.out _ hb10)
      | (go_at_call 8; (with_reducible refine (KR.out _ _ _ _ _ (HK8.out _ hb10).2 (HF8.out.trans (hb10.mono HF8.out.size))).mono ?_); rintro e w11 ⟨hb11, A2, c2, rfl, ok2⟩
         have ok1:=ok1.at hb11
         have bA11:=bA.below hb11 bA.lt
         have bB:=Blk.new w11 32 #[.int .i64 s.kind,.int .i64 s.value,.int .i64 s.steps,.slice A2 s.ev.length c2]
         have hbB:Below w11.heap.size w11 (w11.alloc (.cells #[.int .i64 s.kind,.int .i64 s.value,.int .i64 s.steps,.slice A2 s.ev.length c2] 32)):=(Below.refl _ _).alloc (Nat.le_refl _) _
         have ok1:=ok1.at hbB
         have ok2:=ok2.at hbB
         have hb12:=(hb10.trans (hb11.mono hb10.size)).trans (hbB.mono (hb10.trans (hb11.mono hb10.size)).size)
         obtain⟨x0,x1,x2,x3⟩:=blk4 (bA11.below hbB bA11.lt)
         obtain⟨y0,y1,y2,y3⟩:=blk4 bB
         obtain⟨⟨b0,b1,b2⟩,f0,f1,f2⟩:=HS8.out _ hb12)
      | (go_at_call 9;(with_reducible refine(HS.out _ _ _ _ _ ok1 ok2).mono ?_);rintro e w13 ⟨rfl,hb13⟩;have hb13:=hb12.trans (hb13.mono hb12.size);obtain⟨⟨b0,b1,b2⟩,f0,f1,f2⟩:=HS8.out _ hb13)
      | (go_at_call 12;(with_reducible refine(HCk.out _ (HK8.out _ hb13).1 (HF8.out.trans (hb13.mono HF8.out.size))).mono ?_);rintro e w14 ⟨rfl,hb14⟩;have hb14:=hb13.trans (hb14.mono hb13.size))
      | fail)
    go_ret
    exact⟨by simp,hB0.trans ((HF8.out.trans (hb14.mono HF8.out.size)).mono hB0.size)⟩)
end Go.Proofs.YtodejloonfkkmaaGreat.Dir
