/-
  Package direct, walked: a run is made.
  Package direct, walked: a program is gone through till the run ends; the end is recovered.
  Package direct, walked: Run, Out: what the package comes to.
-/
import Derived.Test.YtekogckmgkodfaaGreatDoorDirG
import Derived.Test.YtekogckmgkodfaaGreatDoorDirH
import Derived.Test.YtekogckmgkodfaaGreatDoorKindsP
import Derived.Deep.CutBlock
import Derived.Deep.CutRange
import Derived.Laws.MakeOwn
import Derived.Test.YtekogckmgkodfaaGreatDoorMachK
import Derived.Recover
import Derived.Laws.Pointers
import Derived.Test.YtekogckmgkodfaaGreatDoorDirPkg
import Derived.Test.YtekogckmgkodfaaGreatDoorMachPChk
set_option maxRecDepth 100000
set_option maxHeartbeats 8000000
set_option linter.unusedVariables false
set_option linter.unusedSimpArgs false
namespace Go.Proofs.YtekogckmgkodfaaGreatDoor
theorem zDirI0{P:Prop}(h:P:=by
  obtain⟨vz,hcz⟩:=hcz
  have hcz2:=hcz
  rw [hvd]
  clear h1 h2 h3 hP hB hPA hbA hM hvd ht
  have i1:(k:Int)<(p.vs.length:Int):=by omega
  have i2:(0:Int)≤(k:Int):=by omega
  have v1:IntKind.i64.wrap ((k:Int)+1)=(k:Int)+1:=IntWalk.i64_in _ (by omega)
  go_wp2_with fail
  refine OrdU.wp_region_U 9 (fun w'=>w'.cell? ⟨g,8,none⟩=some (.slice (some ⟨ab,0,none⟩) p.vs.length p.vs.length)) (by kernel_rfl) hC2 (fun hHeld=>?_)
  refine OrdU.tk 0 (h:=?_)
  refine OrdU.tk 1 (h:=?_)
  refine OrdU.tk 2 (h:=?_)
  refine OrdU.tk 3 (h:=?_)
  refine OrdU.tk 4 (h:=?_)
  refine OrdU.tk 5 (h:=?_)
  refine OrdU.one 6 (h:=fun K' hK=>?_)
  go_simp
  go_at_call 28
  with_reducible refine(HZ.out _).mono ?_
  rintro e w9 ⟨rfl,hw9⟩
  obtain rfl:=hw9
  go_wp2_with fail
  refine OrdU.bh hK (hC2) (h:=fun hHeld=>?_)
  clear hK K'
  refine OrdU.one 7 (h:=fun K' hK=>?_)
  go_simp
  refine OrdU.bh hK (hC2) (h:=fun hHeld=>?_)
  clear hK K'
  refine OrdU.one 8 (h:=fun K' hK=>?_)
  go_simp
  refine OrdU.bh hK (hC3) (h:=fun hHeld=>?_)
  clear hK K'
  refine OrdU.one 9 (h:=fun K' hK=>?_)
  go_simp
  refine OrdU.bk hK (h:=?_)
  clear hK K'
  refine OrdU.one 10 (h:=fun K' hK=>?_)
  go_simp
  refine OrdU.bk hK (h:=?_)
  clear hK K'
  refine OrdU.wpAnyU_done (by kernel_rfl) ?_ _
  go_wp2_with fail
  go_roundw
  case rel=>exact⟨k+1,by omega,by go_num,HN.out⟩
  case measure=>simp [intOf];omega):P:=h
theorem zDirI1{P:Prop}(h:P:=by
  refine OrdU.bk hK (h:=?_)
  clear hK K'
  refine OrdU.one 14 (h:=fun K' hK=>?_)
  go_simp
  refine OrdU.bk hK (h:=?_)
  clear hK K'
  refine OrdU.wpAnyU_done (by kernel_rfl) ?_ _
  go_wp2_with fail
  go_meet
  exact⟨_,_,_,rfl,HBN.out⟩):P:=h
theorem zDirI2{P:Prop}(h:P:=by
  have hc:=World.ownsRow.cellAt hPA.ar k (by simpa using hlt)
  rw [show(tcells Y2)[k]? = some (.slice none 0 0) by unfold tcells;rw [List.getElem?_map,h2 k (Nat.le_refl _) hlt];rfl] at hc
  exact⟨_,hc⟩):P:=h
end Go.Proofs.YtekogckmgkodfaaGreatDoor
namespace Go.Proofs.YtekogckmgkodfaaGreatDoor.Dir
open Go.RowKit Mem Arena Kinds Path Cat Suite Mach
attribute [local go_sem ↓] Go.wp_at_zero Go.wp_at_succ
def vsz(t:Int):Nat:=if asz t=0 then 1 else(asz t).toNat
def Making(p:Prg)(F:Nat)(w:World)(g bb ab k:Nat)(W:World):Prop :=
 ∃ κ Y,MkD (dkOf p F w.heap.size g bb ab) κ Y W∧(∀ j t,j<k→p.vs[j]? = some t→(Y[j]?).map (·.2)=some (List.replicate (vsz t) 0))∧(∀ j,k≤j→j<p.vs.length→Y[j]? = some ((none,0),[]))∧Y.length=p.vs.length∧Below w.heap.size w W
theorem begin_arg{vs args:List Int}(F k:Nat){x:Int}(hx:args[k]? = some x)(hl:args.length≤vs.length):(begin_ vs (args.take (k+1)) F).vals=(begin_ vs (args.take k) F).vals.set k x:=by
 have hk:=(List.getElem?_eq_some_iff.1 hx).1
 show(List.range vs.length).map (fun i=>(args.take (k+1)).getD i 0)=((List.range vs.length).map (fun i=>(args.take k).getD i 0)).set k x
 apply List.ext_getElem?
 intro j
 rw [List.getElem?_set,List.getElem?_map,List.getElem?_map]
 simp only [List.length_map,List.length_range]
 by_cases hj:j<vs.length
 ·rw [List.getElem?_range hj]
  simp only [Option.map_some,List.getD_eq_getElem?_getD,List.getElem?_take]
  by_cases q:k=j
  ·subst q
   rw [if_pos (by omega),if_pos rfl,if_pos hj,hx];rfl
  ·rw [if_neg q]
   by_cases z:j<k
   ·rw [if_pos (by omega),if_pos z]
   ·rw [if_neg (by omega),if_neg z]
 ·rw [List.getElem?_eq_none (l:=List.range vs.length) (by rw [List.length_range];omega)]
  simp only [Option.map_none]
  by_cases q:k=j
  ·omega
  ·rw [if_neg q]
theorem Making.all{p:Prg}{F:Nat}{w:World}{g bb ab:Nat}{W:World}(h:Making p F w g bb ab p.vs.length W):(∃ κ Y,DM (dkOf p F w.heap.size g bb ab) κ (.slice none 0 0) Y (begin_ p.vs [] F) 0 W)∧Below w.heap.size w W:=by
 obtain⟨κ,Y,hM,h1,-,hl,hB⟩:=h
 refine⟨⟨κ,Y,hM.dm ?_ rfl rfl⟩,hB⟩
 apply List.ext_getElem?
 intro j
 show(Y.map (·.2))[j]? = (dcells p.vs (begin_ p.vs [] F))[j]?
 by_cases hj:j<p.vs.length
 ·obtain⟨t,ht⟩:∃ t,p.vs[j]? = some t:=⟨_,List.getElem?_eq_getElem hj⟩
  rw [List.getElem?_map,h1 j t hj ht,dcells_get hj]
  unfold dcell vsz
  rw [List.getD_eq_getElem?_getD,ht]
  simp only [Option.getD_some]
  by_cases z:asz t=0
  ·rw [if_pos z,if_pos z]
   show some [0]=some [((List.range p.vs.length).map fun i=>([]:List Int).getD i 0).getD j 0]
   rw [List.getD_eq_getElem?_getD,List.getElem?_map,List.getElem?_range hj];rfl
  ·rw [if_neg z,if_neg z]
   show some _=some ((p.vs.map fun t=>List.replicate (asz t).toNat (0:Int)).getD j [])
   rw [List.getD_eq_getElem?_getD,List.getElem?_map,ht];rfl
 ·rw [List.getElem?_eq_none (by rw [List.length_map];omega),List.getElem?_eq_none (by rw [dcells_len];omega)]
theorem Making.next{p:Prg}{F:Nat}{w:World}{g bb ab k:Nat}{t:Int}{W:World}(h:Making p F w g bb ab k W)(ht:p.vs[k]? = some t){z:Nat}(hz:vsz t=z)(hzm:z≤maxLen) :
  Making p F w g bb ab (k+1) ((W.alloc (.cells (madeCells #[.int .i64 0] z) 3)).setCell ⟨ab,k,none⟩ (.slice (some ⟨W.heap.size,0,none⟩) z z)):=by
 obtain⟨κ,Y,hM,h1,h2,hl,hB⟩:=h
 have hk:=(List.getElem?_eq_some_iff.1 ht).1
 have hbs:=hM.size
 have hb:Below W.heap.size W (W.alloc (.cells (madeCells #[.int .i64 0] z) 3)):=(Below.refl _ _).alloc (Nat.le_refl _) _
 have hκ:κ W.heap.size=0:=by
  by_cases q:κ W.heap.size=0
  ·exact q
  ·have:=(hM.lab.lt _ q).2;omega
 have hL:=World.ownsRow_lit (e:=3) (size:=1) (base:=w.heap.size) W (madeCells #[.int .i64 0] z) z hbs hzm (by rw [size_madeCells,Nat.mul_one])
 rw [toList_madeCells_one] at hL
 obtain⟨κ',hM'⟩:=(hM.below hb).put (nb:=W.heap.size) (z:=z) (i:=k) (ab:=ab) (ac:=p.vs.length) rfl hk hκ hbs (by simp) (by simpa [icells,dkOf] using hL) (h2 k (Nat.le_refl _) hk)
 have hal:=(hM.lab.lt ab (by rw [hM.lab.a ab rfl];decide)).1
 refine⟨κ',_,hM',fun j u hj hu=>?_,fun j h7 h8=>?_,by rw [List.length_set];exact hl,(hB.trans (hb.mono hB.size)).setCell (p:=⟨ab,k,none⟩) hal _⟩
 ·rw [List.getElem?_set]
  by_cases q:k=j
  ·subst q
   rw [if_pos rfl,if_pos (by rw [hl];exact hk)]
   rw [ht] at hu
   cases hu
   rw [hz];rfl
  ·rw [if_neg q]
   exact h1 j u (by omega) hu
 ·rw [List.getElem?_set,if_neg (by omega)]
  exact h2 j (by omega) h8
theorem Making.drew{p:Prg}{F:Nat}{w:World}{g bb ab k:Nat}{W:World}(h:Making p F w g bb ab k W):Making p F w g bb ab k W.drew:=by
 obtain⟨κ,Y,hM,h1,h2,hl,hB⟩:=h
 exact⟨κ,Y,hM.drew,h1,h2,hl,hB.drew⟩
def Filling(p:Prg)(args:List Int)(F:Nat)(w:World)(g bb ab k:Nat)(W:World):Prop :=
 (∃ κ Y,DM (dkOf p F w.heap.size g bb ab) κ (.slice none 0 0) Y (begin_ p.vs (args.take k) F) 0 W)∧Below w.heap.size w W
def StartEnds(p:Prg)(args:List Int)(F:Nat)(w:World)(e:Ending)(w':World):Prop :=
 ∃ K κ Y,e=.returned (.pointer (some ⟨K.g,0,none⟩))∧DM K κ (.slice none 0 0) Y (begin_ p.vs args F) 0 w'∧Below w.heap.size w w'∧w.heap.size≤K.base∧K.p=p∧K.F=F
theorem info_ints2:(Tryz.prog.info? 22).map (fun i=>(i.zero,i.size,i.bytes))=some (some (.slice none 0 0),1,24):=by kernel_rfl
theorem start_any(p:Prg)(A:Option Addr)(c:Nat)(args:List Int)(F:Nat)(w:World)(hp:p.Ok w)(hA:IRow w w.heap.size A args)(hw:MRight p.ps p.vs p.xs args.length F) :
    Calls Tryz.prog 14 #[.agg #[.int .i64 p.ps,.slice p.A p.vs.length p.c,.slice p.B p.xs.length p.e],.slice A args.length c,.int .i64 (F:Nat)] w (StartEnds p args F w):=by
  obtain⟨hnv,hps0,hpsn⟩:=hw.nv
  have hargs:=hw.args
  have hle:args.length≤p.vs.length:=by omega
  have hlx:=hp.lx
  have hb1:=(Below.refl w.heap.size w).alloc (Nat.le_refl _) (.cells #[.int .i64 p.ps,.slice p.A p.vs.length p.c,.slice p.B p.xs.length p.e] 25)
  have bX:=Blk.new w 25 #[.int .i64 p.ps,.slice p.A p.vs.length p.c,.slice p.B p.xs.length p.e]
  have hp1:=hp.at hb1
  have hA1:=hA.at hb1
  obtain⟨W1,hW1⟩:∃ W1,w.alloc (.cells #[.int .i64 p.ps,.slice p.A p.vs.length p.c,.slice p.B p.xs.length p.e] 25)=W1:=⟨_,rfl⟩
  rw [hW1] at hb1 bX hp1 hA1
  have hbx:=bX.lt
  have HDE:=Lib.hid (fun W=>deeds_any W)
  obtain⟨ig,hig,hz0,hz1,hz2⟩:=info_parts info_int
  obtain⟨jg,hjg,hy0,hy1,hy2⟩:=info_parts info_ints2
  have hmk1:∀ W:World,(Instr.makeSlice 22 (.int .i64 (p.xs.length:Int)) (.int .i64 (p.xs.length:Int))).run Tryz.prog W=.ok (.slice (some ⟨W.heap.size,0,none⟩) p.xs.length p.xs.length) (W.alloc (.cells (madeCells #[.int .i64 0] p.xs.length) 3)):=fun W=>by
    have:=run_make (P:=Tryz.prog) W 22 3 ig _ Tryz.underlying22 hig hz0 .i64 .i64 (p.xs.length:Int) (p.xs.length:Int) (by omega) (by omega) (by rw [hz2];omega) (by omega)
    rw [hz1,Int.toNat_natCast,Nat.mul_one] at this
    exact this
  have hmk2:∀ W:World,(Instr.makeSlice 43 (.int .i64 (p.vs.length:Int)) (.int .i64 (p.vs.length:Int))).run Tryz.prog W=.ok (.slice (some ⟨W.heap.size,0,none⟩) p.vs.length p.vs.length) (W.alloc (.cells (madeCells #[.slice none 0 0] p.vs.length) 22)):=fun W=>by
    have:=run_make (P:=Tryz.prog) W 43 22 jg _ Tryz.underlying43 hjg hy0 .i64 .i64 (p.vs.length:Int) (p.vs.length:Int) (by omega) (by omega) (by rw [hy2];omega) (by omega)
    rw [hy1,Int.toNat_natCast,Nat.mul_one] at this
    exact this
  have HV:=Lib.hid (fun(C:World) (hb:Below W1.heap.size W1 C)=>show Below C.heap.size C (C.alloc (.cells (madeCells #[.int .i64 0] p.xs.length) 3))∧Blk (C.alloc (.cells (madeCells #[.int .i64 0] p.xs.length) 3)) C.heap.size 3 (icells (List.replicate p.xs.length 0)).toArray∧C.heap.size<(C.alloc (.cells (madeCells #[.int .i64 0] p.xs.length) 3)).heap.size from
    ⟨(Below.refl _ _).alloc (Nat.le_refl _) _, by
      have:=Blk.new C 3 (madeCells #[.int .i64 0] p.xs.length)
      rw [show madeCells #[.int .i64 0] p.xs.length=(icells (List.replicate p.xs.length 0)).toArray from by
        rw [← Array.toArray_toList (xs:=madeCells #[.int .i64 0] p.xs.length),toList_madeCells_one]
        simp [icells]] at this ⊢
      exact this,by simp⟩)
  have HA:=Lib.hid (fun(C:World) (hb:Below W1.heap.size W1 C)=>show Below C.heap.size C (C.alloc (.cells (madeCells #[.slice none 0 0] p.vs.length) 22))∧(C.alloc (.cells (madeCells #[.slice none 0 0] p.vs.length) 22)).ownsRow W1.heap.size 22 1 (.slice (some ⟨C.heap.size,0,none⟩) p.vs.length p.vs.length) p.vs.length (List.replicate p.vs.length (.slice none 0 0))∧C.heap.size<(C.alloc (.cells (madeCells #[.slice none 0 0] p.vs.length) 22)).heap.size from
    ⟨(Below.refl _ _).alloc (Nat.le_refl _) _, by
      have:=World.ownsRow_lit (e:=22) (size:=1) (base:=W1.heap.size) C (madeCells #[.slice none 0 0] p.vs.length) p.vs.length hb.size (by simp only [maxLen];omega) (by rw [size_madeCells,Nat.mul_one])
      rw [toList_madeCells_one] at this
      exact this,by simp⟩)
  have HSS:=Lib.hid (fun W (hb:Below W1.heap.size W1 W)=>show(fun w'=>w'.cell? ⟨w.heap.size,1,none⟩=some (.slice p.A p.vs.length p.c)∧w'.cell? ⟨w.heap.size,2,none⟩=some (.slice p.B p.xs.length p.e)) W from by
    have b:=bX.below hb hbx
    exact⟨b.cell 1,b.cell 2⟩)
  have HSZ:=Lib.hid (fun t W=>Size_any t W)
  have HP1:=Lib.hid hp1
  have HA1:=Lib.hid hA1
  have HB1:=Lib.hid hb1
  have hC0:(fun w'=>w'.cell? ⟨w.heap.size,1,none⟩=some (.slice p.A p.vs.length p.c)∧w'.cell? ⟨w.heap.size,2,none⟩=some (.slice p.B p.xs.length p.e)) W1.drew:=HSS.out _ (Below.refl _ _).drew
  have HW:=Lib.hid hw
  clear hp hA hp1 hA1 hb1 bX hw hps0 hpsn
  go_enter Tryz.func14,Tryz.ntmps14
  go_upto_region 1 with fail
  go_cut [7] from 12 to 26 (fun r wx=>∃ g bb ab,r=.pointer (some ⟨g,0,none⟩)∧BornD p F W1 g bb ab wx)
  case first =>
    refine OrdU.wp_region_U 12 (fun w'=>w'.cell? ⟨w.heap.size,1,none⟩=some (.slice p.A p.vs.length p.c)∧w'.cell? ⟨w.heap.size,2,none⟩=some (.slice p.B p.xs.length p.e)) (by kernel_rfl) hC0 (fun hHeld=>?_)
    refine OrdU.tk 0 (h:=?_)
    refine OrdU.tk 1 (h:=?_)
    refine OrdU.tk 2 (h:=?_)
    refine OrdU.tk 3 (h:=?_)
    refine OrdU.tk 4 (h:=?_)
    refine OrdU.tk 6 (h:=?_)
    refine OrdU.tk 7 (h:=?_)
    refine OrdU.tk 8 (h:=?_)
    refine OrdU.tk 9 (h:=?_)
    obtain⟨c0,hc0⟩:∃ c,W1.drew=c:=⟨_,rfl⟩
    have hB0:Below W1.heap.size W1 c0:=by rw [← hc0];exact(Below.refl _ _).drew
    rw [hc0] at hHeld ⊢
    clear hc0
    refine OrdU.wpAnyU_ready (rs:=[5,10,11]) (by kernel_rfl) (by simp) ?_
    refine OrdU.AllReadyU.cons (o:=⟨some 17,_,_,_,_,none⟩) rfl (fun K' hK=>?_) (OrdU.AllReadyU.cons (o:=⟨some 22,_,_,_,_,none⟩) rfl (fun K' hK=>?_) (OrdU.AllReadyU.cons (o:=⟨some 23,_,_,_,_,none⟩) rfl (fun K' hK=>?_) OrdU.AllReadyU.nil))
    · go_simp
      obtain⟨hb1,hv,hl1⟩:=HV.out c0 hB0
      obtain⟨c1,hc⟩:∃ c,c0.alloc (.cells (madeCells #[.int .i64 0] p.xs.length) 3)=c:=⟨_,rfl⟩
      rw [hc] at hb1 hv hl1 ⊢
      clear hc
      have hB1:=hB0.trans (hb1.mono hB0.size)
      refine OrdU.bh hK (HSS.out _ hB1) (h:=fun hHeld=>?_)
      clear hK K'
      refine OrdU.wpAnyU_ready (rs:=[10,11]) (by kernel_rfl) (by simp) ?_
      refine OrdU.AllReadyU.cons (o:=⟨some 22,_,_,_,_,none⟩) rfl (fun K' hK=>?_) (OrdU.AllReadyU.cons (o:=⟨some 23,_,_,_,_,none⟩) rfl (fun K' hK=>?_) OrdU.AllReadyU.nil)
      · go_simp
        obtain⟨hb2,ha,hl2⟩:=HA.out c1 hB1
        obtain⟨c2,hc⟩:∃ c,c1.alloc (.cells (madeCells #[.slice none 0 0] p.vs.length) 22)=c:=⟨_,rfl⟩
        rw [hc] at hb2 ha hl2 ⊢
        clear hc
        have hB2:=hB1.trans (hb2.mono hB1.size)
        refine OrdU.bh hK (HSS.out _ hB2) (h:=fun hHeld=>?_)
        clear hK K'
        refine OrdU.one 11 (h:=fun K' hK=>?_)
        go_simp
        go_at_call 32
        with_reducible refine(HDE.out c2).mono ?_
        rintro e c3 ⟨rfl,hb3⟩
        go_wp2_with fail
        have hB3:=hB2.trans (hb3.mono hB2.size)
        refine OrdU.bh hK (HSS.out _ hB3) (h:=fun hHeld=>?_)
        clear hK K'
        have hs1:=hb1.size
        have hs2:=hb2.size
        have hs3:=hb3.size
        have hV4:=(below2 hb2 hb3)
        have hA4:=hb3
        have HBN:=Lib.hid (born_of p F (w:=W1) hB3 (hv.below hV4 hl1) (by have:=hB0.size;omega) (own_of_block ha (fun i e=>hA4.block i (ha.lt i e).2)) (by omega))
        clear hV4 hA4
        refine OrdU.one 12 (h:=fun K' hK=>?_)
        refine step_build (by rfl) _ _ (by rfl) (.agg (rcells (dkOf p F W1.heap.size c3.heap.size c0.heap.size c1.heap.size) (.slice none 0 0) 0 0)) (by kernel_rfl) ?_
        refine OrdU.bk hK (h:=?_)
        clear hK K'
        refine OrdU.one 13 (h:=fun K' hK=>?_)
        refine step_box (by rfl) _ _ (by rfl) (.pointer (some ⟨c3.heap.size,0,none⟩)) (w':=c3.alloc (.cells (rcells (dkOf p F W1.heap.size c3.heap.size c0.heap.size c1.heap.size) (.slice none 0 0) 0 0) 54)) (by kernel_rfl) ?_
        exact zDirI1
      · go_simp
        go_at_call 32
        with_reducible refine(HDE.out c1).mono ?_
        rintro e c2 ⟨rfl,hb2⟩
        go_wp2_with fail
        have hB2:=hB1.trans (hb2.mono hB1.size)
        refine OrdU.bh hK (HSS.out _ hB2) (h:=fun hHeld=>?_)
        clear hK K'
        refine OrdU.one 10 (h:=fun K' hK=>?_)
        go_simp
        obtain⟨hb3,ha,hl3⟩:=HA.out c2 hB2
        obtain⟨c3,hc⟩:∃ c,c2.alloc (.cells (madeCells #[.slice none 0 0] p.vs.length) 22)=c:=⟨_,rfl⟩
        rw [hc] at hb3 ha hl3 ⊢
        clear hc
        have hB3:=hB2.trans (hb3.mono hB2.size)
        refine OrdU.bh hK (HSS.out _ hB3) (h:=fun hHeld=>?_)
        clear hK K'
        have hs1:=hb1.size
        have hs2:=hb2.size
        have hs3:=hb3.size
        have hV4:=(below2 hb2 hb3)
        have hA4:=(Below.refl c3.heap.size c3)
        have HBN:=Lib.hid (born_of p F (w:=W1) hB3 (hv.below hV4 hl1) (by have:=hB0.size;omega) (own_of_block ha (fun i e=>hA4.block i (ha.lt i e).2)) (by omega))
        clear hV4 hA4
        refine OrdU.one 12 (h:=fun K' hK=>?_)
        refine step_build (by rfl) _ _ (by rfl) (.agg (rcells (dkOf p F W1.heap.size c3.heap.size c0.heap.size c2.heap.size) (.slice none 0 0) 0 0)) (by kernel_rfl) ?_
        refine OrdU.bk hK (h:=?_)
        clear hK K'
        refine OrdU.one 13 (h:=fun K' hK=>?_)
        refine step_box (by rfl) _ _ (by rfl) (.pointer (some ⟨c3.heap.size,0,none⟩)) (w':=c3.alloc (.cells (rcells (dkOf p F W1.heap.size c3.heap.size c0.heap.size c2.heap.size) (.slice none 0 0) 0 0) 54)) (by kernel_rfl) ?_
        exact zDirI1
    · go_simp
      obtain⟨hb1,ha,hl1⟩:=HA.out c0 hB0
      obtain⟨c1,hc⟩:∃ c,c0.alloc (.cells (madeCells #[.slice none 0 0] p.vs.length) 22)=c:=⟨_,rfl⟩
      rw [hc] at hb1 ha hl1 ⊢
      clear hc
      have hB1:=hB0.trans (hb1.mono hB0.size)
      refine OrdU.bh hK (HSS.out _ hB1) (h:=fun hHeld=>?_)
      clear hK K'
      refine OrdU.wpAnyU_ready (rs:=[5,11]) (by kernel_rfl) (by simp) ?_
      refine OrdU.AllReadyU.cons (o:=⟨some 17,_,_,_,_,none⟩) rfl (fun K' hK=>?_) (OrdU.AllReadyU.cons (o:=⟨some 23,_,_,_,_,none⟩) rfl (fun K' hK=>?_) OrdU.AllReadyU.nil)
      · go_simp
        obtain⟨hb2,hv,hl2⟩:=HV.out c1 hB1
        obtain⟨c2,hc⟩:∃ c,c1.alloc (.cells (madeCells #[.int .i64 0] p.xs.length) 3)=c:=⟨_,rfl⟩
        rw [hc] at hb2 hv hl2 ⊢
        clear hc
        have hB2:=hB1.trans (hb2.mono hB1.size)
        refine OrdU.bh hK (HSS.out _ hB2) (h:=fun hHeld=>?_)
        clear hK K'
        refine OrdU.one 11 (h:=fun K' hK=>?_)
        go_simp
        go_at_call 32
        with_reducible refine(HDE.out c2).mono ?_
        rintro e c3 ⟨rfl,hb3⟩
        go_wp2_with fail
        have hB3:=hB2.trans (hb3.mono hB2.size)
        refine OrdU.bh hK (HSS.out _ hB3) (h:=fun hHeld=>?_)
        clear hK K'
        have hs1:=hb1.size
        have hs2:=hb2.size
        have hs3:=hb3.size
        have hV4:=hb3
        have hA4:=(below2 hb2 hb3)
        have HBN:=Lib.hid (born_of p F (w:=W1) hB3 (hv.below hV4 hl2) (by have:=hB1.size;omega) (own_of_block ha (fun i e=>hA4.block i (ha.lt i e).2)) (by omega))
        clear hV4 hA4
        refine OrdU.one 12 (h:=fun K' hK=>?_)
        refine step_build (by rfl) _ _ (by rfl) (.agg (rcells (dkOf p F W1.heap.size c3.heap.size c1.heap.size c0.heap.size) (.slice none 0 0) 0 0)) (by kernel_rfl) ?_
        refine OrdU.bk hK (h:=?_)
        clear hK K'
        refine OrdU.one 13 (h:=fun K' hK=>?_)
        refine step_box (by rfl) _ _ (by rfl) (.pointer (some ⟨c3.heap.size,0,none⟩)) (w':=c3.alloc (.cells (rcells (dkOf p F W1.heap.size c3.heap.size c1.heap.size c0.heap.size) (.slice none 0 0) 0 0) 54)) (by kernel_rfl) ?_
        exact zDirI1
      · go_simp
        go_at_call 32
        with_reducible refine(HDE.out c1).mono ?_
        rintro e c2 ⟨rfl,hb2⟩
        go_wp2_with fail
        have hB2:=hB1.trans (hb2.mono hB1.size)
        refine OrdU.bh hK (HSS.out _ hB2) (h:=fun hHeld=>?_)
        clear hK K'
        refine OrdU.one 5 (h:=fun K' hK=>?_)
        go_simp
        obtain⟨hb3,hv,hl3⟩:=HV.out c2 hB2
        obtain⟨c3,hc⟩:∃ c,c2.alloc (.cells (madeCells #[.int .i64 0] p.xs.length) 3)=c:=⟨_,rfl⟩
        rw [hc] at hb3 hv hl3 ⊢
        clear hc
        have hB3:=hB2.trans (hb3.mono hB2.size)
        refine OrdU.bh hK (HSS.out _ hB3) (h:=fun hHeld=>?_)
        clear hK K'
        have hs1:=hb1.size
        have hs2:=hb2.size
        have hs3:=hb3.size
        have hV4:=(Below.refl c3.heap.size c3)
        have hA4:=(below2 hb2 hb3)
        have HBN:=Lib.hid (born_of p F (w:=W1) hB3 (hv.below hV4 hl3) (by have:=hB2.size;omega) (own_of_block ha (fun i e=>hA4.block i (ha.lt i e).2)) (by omega))
        clear hV4 hA4
        refine OrdU.one 12 (h:=fun K' hK=>?_)
        refine step_build (by rfl) _ _ (by rfl) (.agg (rcells (dkOf p F W1.heap.size c3.heap.size c2.heap.size c0.heap.size) (.slice none 0 0) 0 0)) (by kernel_rfl) ?_
        refine OrdU.bk hK (h:=?_)
        clear hK K'
        refine OrdU.one 13 (h:=fun K' hK=>?_)
        refine step_box (by rfl) _ _ (by rfl) (.pointer (some ⟨c3.heap.size,0,none⟩)) (w':=c3.alloc (.cells (rcells (dkOf p F W1.heap.size c3.heap.size c2.heap.size c0.heap.size) (.slice none 0 0) 0 0) 54)) (by kernel_rfl) ?_
        exact zDirI1
    · go_simp
      go_at_call 32
      with_reducible refine(HDE.out c0).mono ?_
      rintro e c1 ⟨rfl,hb1⟩
      go_wp2_with fail
      have hB1:=hB0.trans (hb1.mono hB0.size)
      refine OrdU.bh hK (HSS.out _ hB1) (h:=fun hHeld=>?_)
      clear hK K'
      refine OrdU.wpAnyU_ready (rs:=[5,10]) (by kernel_rfl) (by simp) ?_
      refine OrdU.AllReadyU.cons (o:=⟨some 17,_,_,_,_,none⟩) rfl (fun K' hK=>?_) (OrdU.AllReadyU.cons (o:=⟨some 22,_,_,_,_,none⟩) rfl (fun K' hK=>?_) OrdU.AllReadyU.nil)
      · go_simp
        obtain⟨hb2,hv,hl2⟩:=HV.out c1 hB1
        obtain⟨c2,hc⟩:∃ c,c1.alloc (.cells (madeCells #[.int .i64 0] p.xs.length) 3)=c:=⟨_,rfl⟩
        rw [hc] at hb2 hv hl2 ⊢
        clear hc
        have hB2:=hB1.trans (hb2.mono hB1.size)
        refine OrdU.bh hK (HSS.out _ hB2) (h:=fun hHeld=>?_)
        clear hK K'
        refine OrdU.one 10 (h:=fun K' hK=>?_)
        go_simp
        obtain⟨hb3,ha,hl3⟩:=HA.out c2 hB2
        obtain⟨c3,hc⟩:∃ c,c2.alloc (.cells (madeCells #[.slice none 0 0] p.vs.length) 22)=c:=⟨_,rfl⟩
        rw [hc] at hb3 ha hl3 ⊢
        clear hc
        have hB3:=hB2.trans (hb3.mono hB2.size)
        refine OrdU.bh hK (HSS.out _ hB3) (h:=fun hHeld=>?_)
        clear hK K'
        have hs1:=hb1.size
        have hs2:=hb2.size
        have hs3:=hb3.size
        have hV4:=hb3
        have hA4:=(Below.refl c3.heap.size c3)
        have HBN:=Lib.hid (born_of p F (w:=W1) hB3 (hv.below hV4 hl2) (by have:=hB1.size;omega) (own_of_block ha (fun i e=>hA4.block i (ha.lt i e).2)) (by omega))
        clear hV4 hA4
        refine OrdU.one 12 (h:=fun K' hK=>?_)
        refine step_build (by rfl) _ _ (by rfl) (.agg (rcells (dkOf p F W1.heap.size c3.heap.size c1.heap.size c2.heap.size) (.slice none 0 0) 0 0)) (by kernel_rfl) ?_
        refine OrdU.bk hK (h:=?_)
        clear hK K'
        refine OrdU.one 13 (h:=fun K' hK=>?_)
        refine step_box (by rfl) _ _ (by rfl) (.pointer (some ⟨c3.heap.size,0,none⟩)) (w':=c3.alloc (.cells (rcells (dkOf p F W1.heap.size c3.heap.size c1.heap.size c2.heap.size) (.slice none 0 0) 0 0) 54)) (by kernel_rfl) ?_
        exact zDirI1
      · go_simp
        obtain⟨hb2,ha,hl2⟩:=HA.out c1 hB1
        obtain⟨c2,hc⟩:∃ c,c1.alloc (.cells (madeCells #[.slice none 0 0] p.vs.length) 22)=c:=⟨_,rfl⟩
        rw [hc] at hb2 ha hl2 ⊢
        clear hc
        have hB2:=hB1.trans (hb2.mono hB1.size)
        refine OrdU.bh hK (HSS.out _ hB2) (h:=fun hHeld=>?_)
        clear hK K'
        refine OrdU.one 5 (h:=fun K' hK=>?_)
        go_simp
        obtain⟨hb3,hv,hl3⟩:=HV.out c2 hB2
        obtain⟨c3,hc⟩:∃ c,c2.alloc (.cells (madeCells #[.int .i64 0] p.xs.length) 3)=c:=⟨_,rfl⟩
        rw [hc] at hb3 hv hl3 ⊢
        clear hc
        have hB3:=hB2.trans (hb3.mono hB2.size)
        refine OrdU.bh hK (HSS.out _ hB3) (h:=fun hHeld=>?_)
        clear hK K'
        have hs1:=hb1.size
        have hs2:=hb2.size
        have hs3:=hb3.size
        have hV4:=(Below.refl c3.heap.size c3)
        have hA4:=hb3
        have HBN:=Lib.hid (born_of p F (w:=W1) hB3 (hv.below hV4 hl3) (by have:=hB2.size;omega) (own_of_block ha (fun i e=>hA4.block i (ha.lt i e).2)) (by omega))
        clear hV4 hA4
        refine OrdU.one 12 (h:=fun K' hK=>?_)
        refine step_build (by rfl) _ _ (by rfl) (.agg (rcells (dkOf p F W1.heap.size c3.heap.size c2.heap.size c1.heap.size) (.slice none 0 0) 0 0)) (by kernel_rfl) ?_
        refine OrdU.bk hK (h:=?_)
        clear hK K'
        refine OrdU.one 13 (h:=fun K' hK=>?_)
        refine step_box (by rfl) _ _ (by rfl) (.pointer (some ⟨c3.heap.size,0,none⟩)) (w':=c3.alloc (.cells (rcells (dkOf p F W1.heap.size c3.heap.size c2.heap.size c1.heap.size) (.slice none 0 0) 0 0) 54)) (by kernel_rfl) ?_
        exact zDirI1
  case rest =>
    obtain⟨g,bb,ab,rfl,hBn⟩:=hcut
    obtain⟨l1,l2,l3⟩:=hBn.lo
    obtain⟨n1,n2,n3⟩:=hBn.ne
    have hMB:MB g bb W1.heap.size p p.xs.length (List.replicate p.xs.length 0) wc:={
      c4:=hBn.blk.cell 4
      c6:=hBn.blk.cell 6
      blk:=hBn.bb
      len:=List.length_replicate
      body:=HP1.out.body.keep fun k q=>hBn.below.block k q
      hb:=l2
      hg:=n1
      gl:=hBn.blk.lt
      bl:=hBn.below.size }
    have HMA:=Lib.hid (show Calls Tryz.prog 33 #[.pointer (some ⟨g,0,none⟩),.int .i64 0] wc (MarkEnds g bb W1.heap.size p p.xs.length 0 p.xs.length (List.replicate p.xs.length 0) wc) from mark_any hlx p.xs.length 0 p.xs.length (List.replicate p.xs.length 0) wc (Nat.le_refl _) (by rw [List.drop_zero];exact HW.out.whole) hMB)
    have HBN:=Lib.hid hBn
    have hpos:=HW.out.pos
    clear hMB hBn
    go_wp2_with (first
      | (go_at_call 33; (with_reducible refine HMA.out.mono ?_); rintro e w3 ⟨rfl, L3, hM3, hK3, hm3⟩
         have hB3:Below W1.heap.size W1 w3:=HBN.out.below.trans (hK3.to_below HBN.out.below.size (fun k q=>by rw [q];exact l2))
         obtain⟨b2a,b2b⟩:=HSS.out w3 hB3
         have HMK:=Lib.hid (show Making p F W1 g bb ab 0 w3 from⟨_,_,HBN.out.marked HP1.out.body hlx (by omega) hpos hM3 hK3 hm3,fun j t hj=>absurd hj (by omega),fun j _ hj=>by rw [List.getElem?_replicate,if_pos hj],List.length_replicate,hB3⟩)
         clear hM3 hK3 hm3 hB3)
      | fail)
    go_loopw [31] (fun i wr=>∃ k:Nat,k≤p.vs.length∧i=.int .i64 k∧Making p F W1 g bb ab k wr) (fun i _=>p.vs.length-(intOf i).toNat)
    case atStart=>exact⟨0,by omega,rfl,HMK.out⟩
    case round =>
      obtain⟨k,hk,rfl,hM⟩:=hrel
      by_cases hlt:k<p.vs.length
      · obtain ⟨t, ht⟩ : ∃ t, p.vs[k]? = some t := ⟨_, List.getElem?_eq_getElem hlt⟩
        have hM0:=hM
        obtain⟨κ2,Y2,hP,h1,h2,h3,hB⟩:=hM0
        obtain⟨vd,hvd,-,d0⟩:=(HP1.out.at hB).vars k t ht
        have c8:wr.cell? ⟨g,8,none⟩=some (.slice (some ⟨ab,0,none⟩) p.vs.length p.vs.length):=hP.cell 8
        have hg0:0≤asz t:=by unfold asz;split<;>omega
        have hg1:asz t≤8:=by unfold asz;split<;>omega
        by_cases hz:asz t=0
        · have hvz : vsz t = 1 := by unfold vsz; rw [if_pos hz]
          have HZ:=Lib.hid (fun W=>show Calls Tryz.prog 28 #[.int .i64 t] W fun e w'=>e=.returned (.int .i64 0)∧w'=W from by rw [← hz];exact Size_any t W)
          have hmk3:∀ W:World,(Instr.makeSlice 22 (.int .i64 (1:Int)) (.int .i64 (1:Int))).run Tryz.prog W=.ok (.slice (some ⟨W.heap.size,0,none⟩) 1 1) (W.alloc (.cells (madeCells #[.int .i64 0] 1) 3)):=fun W=>by
            have:=run_make (P:=Tryz.prog) W 22 3 ig _ Tryz.underlying22 hig hz0 .i64 .i64 (1:Int) (1:Int) (by omega) (by omega) (by rw [hz2];omega) (by omega)
            rw [hz1,show((1:Int)).toNat=1 by omega,Nat.mul_one] at this
            exact this
          have HN:=Lib.hid (hM.next ht (z:=1) hvz (by simp only [maxLen];omega)).drew
          have hbA:Below wr.drew.heap.size wr.drew (wr.drew.alloc (.cells (madeCells #[.int .i64 0] 1) 3)):=(Below.refl _ _).alloc (Nat.le_refl _) _
          have hC2:(fun w'=>w'.cell? ⟨g,8,none⟩=some (.slice (some ⟨ab,0,none⟩) p.vs.length p.vs.length)) wr.drew:=c8
          have hPA:=hP.drew.below hbA
          have hC3:(fun w'=>w'.cell? ⟨g,8,none⟩=some (.slice (some ⟨ab,0,none⟩) p.vs.length p.vs.length)) (wr.drew.alloc (.cells (madeCells #[.int .i64 0] 1) 3)):=hPA.cell 8
          have hfz:∀ j,(wr.alloc (.cells (madeCells #[.int .i64 0] 1) 3)).drew.frozen? ⟨ab,j,none⟩=false:=fun j=>World.ownsRow.frozenAt hPA.ar j
          have hcz:∃ v,(wr.alloc (.cells (madeCells #[.int .i64 0] 1) 3)).cell? ⟨ab,k,none⟩=some v:=by
            exact zDirI2
          exact zDirI0
        · obtain ⟨z, hzz⟩ := Int.eq_ofNat_of_zero_le hg0
          have hvz:vsz t=z:=by unfold vsz;rw [if_neg hz];omega
          have HZ:=Lib.hid (fun W=>show Calls Tryz.prog 28 #[.int .i64 t] W fun e w'=>e=.returned (.int .i64 (z:Int))∧w'=W from by rw [← hzz];exact Size_any t W)
          have hmx:(if(1:Int)<(z:Int) then(z:Int) else 1)=(z:Int):=by split<;>omega
          have hmk3:∀ W:World,(Instr.makeSlice 22 (.int .i64 (z:Int)) (.int .i64 (z:Int))).run Tryz.prog W=.ok (.slice (some ⟨W.heap.size,0,none⟩) z z) (W.alloc (.cells (madeCells #[.int .i64 0] z) 3)):=fun W=>by
            have:=run_make (P:=Tryz.prog) W 22 3 ig _ Tryz.underlying22 hig hz0 .i64 .i64 (z:Int) (z:Int) (by omega) (by omega) (by rw [hz2];omega) (by omega)
            rw [hz1,show((z:Int)).toNat=z by omega,Nat.mul_one] at this
            exact this
          have HN:=Lib.hid (hM.next ht (z:=z) hvz (by simp only [maxLen];omega)).drew
          have hbA:Below wr.drew.heap.size wr.drew (wr.drew.alloc (.cells (madeCells #[.int .i64 0] z) 3)):=(Below.refl _ _).alloc (Nat.le_refl _) _
          have hC2:(fun w'=>w'.cell? ⟨g,8,none⟩=some (.slice (some ⟨ab,0,none⟩) p.vs.length p.vs.length)) wr.drew:=c8
          have hPA:=hP.drew.below hbA
          have hC3:(fun w'=>w'.cell? ⟨g,8,none⟩=some (.slice (some ⟨ab,0,none⟩) p.vs.length p.vs.length)) (wr.drew.alloc (.cells (madeCells #[.int .i64 0] z) 3)):=hPA.cell 8
          have hfz:∀ j,(wr.alloc (.cells (madeCells #[.int .i64 0] z) 3)).drew.frozen? ⟨ab,j,none⟩=false:=fun j=>World.ownsRow.frozenAt hPA.ar j
          have hcz:∃ v,(wr.alloc (.cells (madeCells #[.int .i64 0] z) 3)).cell? ⟨ab,k,none⟩=some v:=by
            exact zDirI2
          exact zDirI0
      · obtain rfl : k = p.vs.length := by omega
        have i3:¬ ((p.vs.length:Nat):Int)<((p.vs.length:Nat):Int):=by omega
        obtain⟨⟨κ4,Y4,hD⟩,hB4⟩:=hM.all
        have HF0:=Lib.hid (show Filling p args F W1 g bb ab 0 wr from⟨⟨κ4,Y4,by rw [List.take_zero];exact hD⟩,hB4⟩)
        clear hM hD hB4
        go_wp2_with fail
        go_loopw [49] (fun i wr=>∃ k:Nat,k≤args.length∧i=.int .i64 k∧Filling p args F W1 g bb ab k wr) (fun i _=>args.length-(intOf i).toNat)
        case atStart=>exact⟨0,by omega,rfl,HF0.out⟩
        case round =>
          obtain⟨k,hk,rfl,⟨κ5,Y5,hD⟩,hB⟩:=hrel
          by_cases hlt:k<args.length
          · obtain ⟨x, hx⟩ : ∃ x, args[k]? = some x := ⟨_, List.getElem?_eq_getElem hlt⟩
            obtain⟨ad,rfl,-,d0⟩:=(HA1.out.at hB) k x hx
            have hkv:k<p.vs.length:=by omega
            have hty:=HW.out.good (i:=k) (by omega)
            have ht0:=hty.2.2 (by omega)
            have hty2:asz (p.vs.getD k (-1))=0:=by
              rw [List.getD_eq_getElem?_getD,List.getElem?_eq_getElem hkv] at ht0 ⊢
              simp only [Option.getD_some] at ht0 ⊢
              rw [ht0];rfl
            have hdc:dcell p.vs (begin_ p.vs (args.take k) F) k=[(begin_ p.vs (args.take k) F).vals.getD k 0]:=by unfold dcell;rw [if_pos hty2]
            obtain⟨cb,cc,b,cl,e1,y1,y2,y3,y4,y5⟩:=hD.var hkv (by show 0<(dcell p.vs _ k).length;rw [hdc];exact Nat.zero_lt_one)
            have e1':(Value.slice (some ⟨ab,0,none⟩) p.vs.length p.vs.length)=.slice (some ⟨cb,0,none⟩) p.vs.length cc:=e1
            cases e1'
            replace y1:wr.cell? ⟨ab,k,none⟩=some (.slice (some ⟨b,0,none⟩) (dcell p.vs (begin_ p.vs (args.take k) F) k).length cl):=y1
            rw [hdc] at y1
            have y3:=y3 0 _ (by show(dcell p.vs _ k)[0]? = some _;rw [hdc];rfl)
            have y4:=y4 0
            have c8:wr.cell? ⟨g,8,none⟩=some (.slice (some ⟨ab,0,none⟩) p.vs.length p.vs.length):=hD.cell 8
            have hnext:=hD.set_y y2 (by rfl) (j:=0) (by show 0<(dcell p.vs _ k).length;rw [hdc];exact Nat.zero_lt_one) x (s':=begin_ p.vs (args.take (k+1)) F) (by
              show dcells p.vs _=(dcells p.vs _).set k ((dcell p.vs _ k).set 0 x)
              rw [hdc]
              exact dcells_setV x hkv (by show((List.range p.vs.length).map _).length=_;simp) hty2 (begin_arg F k hx hle) rfl) rfl rfl
            have hbl:W1.heap.size≤b:=(hD.lab.lt b (by rw [y5];omega)).1
            have HN:=Lib.hid (show Filling p args F W1 g bb ab (k+1) _ from⟨⟨κ5,_,hnext⟩,hB.setCell (p:=⟨b,0,none⟩) hbl (.int .i64 x)⟩)
            have i1:(k:Int)<(args.length:Int):=by omega
            have i1':(k:Int)<(p.vs.length:Int):=by omega
            have i2:(0:Int)≤(k:Int):=by omega
            have v1:IntKind.i64.wrap ((k:Int)+1)=(k:Int)+1:=IntWalk.i64_in _ (by omega)
            clear hnext y2 y5 e1 hdc hty2 ht0 hty hD hB hbl
            generalize (begin_ p.vs (args.take k) F).vals.getD k 0=old at *
            simp only [List.length_cons,List.length_nil,Nat.zero_add] at y1
            go_wp2_with fail
            go_roundw
            case rel=>exact⟨k+1,by omega,by go_num,HN.out⟩
            case measure=>simp [intOf];omega
          · obtain rfl : k = args.length := by omega
            have i4:¬ ((args.length:Nat):Int)<((args.length:Nat):Int):=by omega
            have HE:=Lib.hid (show StartEnds p args F w (.returned (.pointer (some ⟨g,0,none⟩))) wr from⟨dkOf p F W1.heap.size g bb ab,κ5,Y5,rfl,by rw [List.take_length] at hD;exact hD,HB1.out.trans (hB.mono HB1.out.size),HB1.out.size,rfl,rfl⟩)
            clear hD hB
            go_wp2_with fail
            go_ret
            exact HE.out
def caught(g:Nat)(k v:Int)(w:World):World:=((w.setCell ⟨g,0,none⟩ (.int .i64 k)).setCell ⟨g,1,none⟩ (.int .i64 v)).alloc (.cells #[.int .i64 k,.int .i64 v] 83)
theorem catch_ended(rb g:Nat)(k v x y:Int)(w:World)(hr:w.cell? ⟨rb,0,none⟩=some (.pointer (some ⟨g,0,none⟩)))(h0:w.cell? ⟨g,0,none⟩=some (.int .i64 x))(h1:w.cell? ⟨g,1,none⟩=some (.int .i64 y))(hz:∀ j,w.frozen? ⟨g,j,none⟩=false)(hrb:rb<w.heap.size)(hg:g<w.heap.size) :
  CallsD Tryz.prog 34 #[.pointer (some ⟨rb,0,none⟩)] (.panicking (ended k v)) w fun e u' w' =>
   e=.returned (.tuple #[])∧u'=.panicking [{ v:=.iface 83 (.agg #[.int .i64 k,.int .i64 v]),recovered:=true }]∧w'=caught g k v w:=by
 have ta:∀ W,(Instr.typeAssert (.iface 83 (.agg #[.int .i64 k,.int .i64 v])) 20 83 true).run Tryz.prog W=.ok (.tuple #[.agg #[.int .i64 k,.int .i64 v],.bool true]) W:=fun W=>by kernel_rfl
 refine callsD_of_wpS Tryz.func34 rfl fun c₀ cs hu=>?_
 unfold ended at hu
 apply wpS_seq
 apply wpS_region
 simp [wpOpsS,go_sem,recoverD,hu,Tryz.ntmps34,Exit.thenS]
 have bX:=Blk.new w 83 #[.int .i64 k,.int .i64 v]
 obtain⟨x0,x1⟩:=bX.two
 have hb:=(Below.refl w.heap.size w).alloc (Nat.le_refl _) (.cells #[.int .i64 k,.int .i64 v] 83)
 have hr':=(hb.cell (p:=⟨rb,0,none⟩) hrb).trans hr
 have h0':=(hb.cell (p:=⟨g,0,none⟩) hg).trans h0
 have h1':=(hb.cell (p:=⟨g,1,none⟩) hg).trans h1
 have hz':∀ j,(w.alloc (.cells #[.int .i64 k,.int .i64 v] 83)).frozen? ⟨g,j,none⟩=false:=fun j=>(hb.frozen (p:=⟨g,j,none⟩) hg).trans (hz j)
 have h1'':((w.alloc (.cells #[.int .i64 k,.int .i64 v] 83)).setCell ⟨g,0,none⟩ (.int .i64 k)).cell? ⟨g,1,none⟩=some (.int .i64 y):=by
  rw [World.cell?_setCell_other _ _ _ _ (by simp)];exact h1'
 clear bX hb
 refine wpS_of_wp ?_
 simp only [Array.replicate_succ,Array.replicate_zero,List.push_toArray,List.append_toArray,List.nil_append,List.cons_append,List.setIfInBounds_toArray,List.set_cons_zero,List.set_cons_succ]
 go_wp2_with fail
 simp [go_sem,bodyPostS,results,Tryz.results34,caught]
structure RunOutD (w2:World) (s:St) (g:Nat) (A:Option Addr) (c:Nat) (w':World):Prop where
 below:Below w2.heap.size w2 w'
 g2:w2.heap.size≤g
 z0:w'.cell? ⟨g,0,none⟩=some (.int .i64 s.kind)
 z1:w'.cell? ⟨g,1,none⟩=some (.int .i64 s.value)
 z2:w'.cell? ⟨g,2,none⟩=some (.int .i64 s.steps)
 z3:w'.cell? ⟨g,3,none⟩=some (.slice A s.ev.length c)
 lt:g<w'.heap.size
 row:ERow w' w'.heap.size A s.ev
 cap:s.ev.length≤c
 none_:A=none→c=0
 far:∀ ad,A=some ad→w2.heap.size≤ad.block
section
variable {K:DK} {κ κ':Nat→Nat} {evv evv':Value} {Y Y':List ((Option Addr×Nat)×List Int)} {s s2:St} {pos pos':Int} {W W' W0 w2:World}
theorem runOutD_of(hB0:Below W0.heap.size W0 W)(hbase:W0.heap.size≤K.base)(h:DM K κ evv Y s pos W)(h2:DM K κ' evv' Y' s2 pos' w2)(hw:Went κ κ' W w2){s6:St}(h6:s6.steps=s2.steps)(h7:s6.ev=s2.ev) :
  ∃ A c,RunOutD W0 s6 K.g A c (caught K.g s6.kind s6.value w2):=by
 obtain⟨A,c,rfl,hc,hA,hE,hlo⟩:=own_events h2.er
 have hne:∀ ad,A=some ad→ad.block≠K.g:=fun ad e q=>by
  subst e
  have h:=h2.lab.e ad.block rfl
  rw [q,h2.lab.g] at h
  cases h
 have hgl:=Nat.le_trans hbase h2.glt.1
 have b2:=((h2.blk.set 0 (.int .i64 s6.kind)).set 1 (.int .i64 s6.value)).alloc (.cells #[.int .i64 s6.kind,.int .i64 s6.value] 83)
 have hB2:Below W0.heap.size W0 w2:=hB0.trans (hw.kept.to_below hB0.size fun k q=>Nat.le_trans hbase (h.lab.lt k q).1)
 have hB3:=(hB2.setCell (p:=⟨K.g,0,none⟩) hgl (.int .i64 s6.kind)).setCell (p:=⟨K.g,1,none⟩) hgl (.int .i64 s6.value)
 have hE3:=((hE.far (g:=K.g) 0 (.int .i64 s6.kind) hne).far (g:=K.g) 1 (.int .i64 s6.value) hne)
 have hE4:ERow ((w2.setCell ⟨K.g,0,none⟩ (.int .i64 s6.kind)).setCell ⟨K.g,1,none⟩ (.int .i64 s6.value)) ((w2.setCell ⟨K.g,0,none⟩ (.int .i64 s6.kind)).setCell ⟨K.g,1,none⟩ (.int .i64 s6.value)).heap.size A s2.ev:=by simpa using hE3
 refine⟨A,c,hB3.alloc hB3.size _,hgl,b2.cell 0,b2.cell 1,(b2.cell 2).trans (by rw [h6];rfl),(b2.cell 3).trans (by rw [h7];rfl),b2.lt,by rw [h7];exact hE4.at ((Below.refl _ _).alloc (Nat.le_refl _) _),by rw [h7];exact hc,hA,fun ad e=>Nat.le_trans hbase (hlo ad e)⟩
theorem through_any(hB0:Below W0.heap.size W0 W)(hbase:W0.heap.size≤K.base)(h:DM K κ evv Y s 0 W)(hg:Good K s)(hall:∀ k n:Nat,scan 1 (K.p.xs.drop k)=some n→0≤okind K.p.vs K.p.xs k)(hwh:scan 1 K.p.xs=some K.p.xs.length)(hF:K.F≤10000) :
  Calls Tryz.prog 15 #[.pointer (some ⟨K.g,0,none⟩)] W fun e W'=>e=.returned (.tuple #[])∧∃ A c,RunOutD W0 ((mean K.p.xs 0 s).1.stop 3 0) K.g A c W':=by
 have hmf:∀ (fn:Fn) (first cap:Array Value) (w:World),(Instr.makeFunc fn first cap).run Tryz.prog w=.ok (.func fn first cap) w:=fun _ _ _ _=>rfl
 have hb1:=(Below.refl W.heap.size W).alloc (Nat.le_refl _) (.cells #[.pointer (some ⟨K.g,0,none⟩)] 48)
 have bR:=Blk.new W 48 #[.pointer (some ⟨K.g,0,none⟩)]
 have cR:(W.alloc (.cells #[.pointer (some ⟨K.g,0,none⟩)] 48)).cell? ⟨W.heap.size,0,none⟩=some (.pointer (some ⟨K.g,0,none⟩)):=bR.cell 0
 have h1:=h.below hb1
 have hκ:κ W.heap.size=0:=by
  by_cases z:κ W.heap.size=0
  ·exact z
  ·have:=(h.lab.lt _ z).2;omega
 have hn0:=node_any h.lx hall hF K.p.xs.length 0 K.p.xs.length s (Nat.le_refl _) (by rw [List.drop_zero];exact hwh) hg
 have HN:=Lib.hid (show NodeOk K 0 s (mean K.p.xs 0 s) ((0+K.p.xs.length:Nat):Int) from hn0)
 have H1:=Lib.hid h1
 have HW1:=Lib.hid ((Went.refl κ W).below hb1)
 have HO:=Lib.hid (fun(κ':Nat→Nat) (evv':Value) (Y':List ((Option Addr×Nat)×List Int)) (s2 s6:St) (pos':Int) (w2:World) (q:DM K κ' evv' Y' s2 pos' w2) (qw:Went κ κ' W w2) (q6:s6.steps=s2.steps) (q7:s6.ev=s2.ev)=>runOutD_of hB0 hbase h q qw q6 q7)
 have HBR:=Lib.hid (fun(κ':Nat→Nat) (w2:World) (q:Went κ κ' (W.alloc (.cells #[.pointer (some ⟨K.g,0,none⟩)] 48)) w2)=>show Blk w2 W.heap.size 48 #[.pointer (some ⟨K.g,0,none⟩)] from bR.kept q.kept (fun z=>z hκ))
 obtain⟨⟨s1,a⟩,hr⟩:∃ r,mean K.p.xs 0 s=r:=⟨_,rfl⟩
 rw [hr] at HN
 rw [hr]
 simp only
 clear h h1 hb1 bR hn0 hg hall hwh hF hB0 hbase hr hκ
 by_cases ho:s1.over=true
 ·have HS:=Lib.hid (show s1.stop 3 0=s1 by unfold St.stop;rw [if_pos ho])
  go_enter_defers Tryz.func15,Tryz.ntmps15
  go_wp2_with (first
   | (go_at_call 35;(with_reducible refine(HN.out _ _ _ _ H1.out).mono ?_);rintro e w1 hE;obtain⟨rfl,κ1,evv1,Y1,pos1,h1,hw1⟩:=hE.to_over ho)
   | fail)
  have bR:=HBR.out _ _ hw1
  refine leaves_cons (f:=34) (args:=#[.pointer (some ⟨W.heap.size,0,none⟩)]) (by simp) (by simp [go_sem]) ?_
  refine(catch_ended W.heap.size K.g s1.kind s1.value 0 0 w1 (bR.cell 0) (h1.cell 0) (h1.cell 1) h1.blk.frozen bR.lt h1.glt.2).mono ?_
  rintro e u' w'' ⟨rfl,rfl,rfl⟩
  rw [HS.out]
  refine⟨.tuple #[],?_,rfl,HO.out κ1 evv1 Y1 s1 s1 pos1 w1 h1 (HW1.out.trans hw1) rfl rfl⟩
  simp [results,Tryz.results15,go_sem]
 ·have ho:s1.over=false:=by simpa using ho
  have HS:=Lib.hid (show s1.stop 3 0={ s1 with kind:=3,value:=0,over:=true } from stop_no ho 3 0)
  go_enter_defers Tryz.func15,Tryz.ntmps15
  go_wp2_with (first
   | (go_at_call 35;(with_reducible refine(HN.out _ _ _ _ H1.out).mono ?_);rintro e w1 hE;obtain⟨rfl,κ1,evv1,Y1,h1,hw1⟩:=hE.to_on ho)
   | (go_at_call 36;(with_reducible refine(without_any 3 _).mono ?_);rintro e w2 ⟨rfl,hb2⟩)
   | fail)
  have h2:=h1.below hb2
  have hw2:=hw1.below hb2
  have bR:=HBR.out _ _ hw2
  refine leaves_cons (f:=34) (args:=#[.pointer (some ⟨W.heap.size,0,none⟩)]) (by simp) (by simp [go_sem]) ?_
  refine(catch_ended W.heap.size K.g 3 0 0 0 w2 (bR.cell 0) (h2.cell 0) (h2.cell 1) h2.blk.frozen bR.lt h2.glt.2).mono ?_
  rintro e u' w'' ⟨rfl,rfl,rfl⟩
  rw [HS.out]
  refine⟨.tuple #[],?_,rfl,HO.out κ1 evv1 Y1 s1 { s1 with kind:=3,value:=0,over:=true } _ w2 h2 (HW1.out.trans hw2) rfl rfl⟩
  simp [results,Tryz.results15,go_sem]
end
theorem drun_bad(p:Prg)(A:Option Addr)(c:Nat)(args:List Int)(f:Int)(w:World)(hp:p.Ok w)(hm:mcheck p.ps p.vs p.xs args.length f≠0) :
    Calls Tryz.prog 7 #[.agg #[.int .i64 p.ps,.slice p.A p.vs.length p.c,.slice p.B p.xs.length p.e],.slice A args.length c,.int .i64 f] w fun e w'=>e=.returned (.tuple #[Rn.zero.val,.int .i64 (mcheck p.ps p.vs p.xs args.length f)])∧Below w.heap.size w w':=by
  have hb0:Below w.heap.size w (w.alloc (.cells #[.int .i64 p.ps,.slice p.A p.vs.length p.c,.slice p.B p.xs.length p.e] 25)):=(Below.refl _ _).alloc (Nat.le_refl _) _
  have hb1:=hb0.alloc hb0.size (.cells #[.int .i64 0,.int .i64 0,.int .i64 0,.slice none 0 0] 32)
  have bX:=(Blk.new w 25 #[.int .i64 p.ps,.slice p.A p.vs.length p.c,.slice p.B p.xs.length p.e]).alloc (.cells #[.int .i64 0,.int .i64 0,.int .i64 0,.slice none 0 0] 32)
  have bR:=Blk.new (w.alloc (.cells #[.int .i64 p.ps,.slice p.A p.vs.length p.c,.slice p.B p.xs.length p.e] 25)) 32 #[.int .i64 0,.int .i64 0,.int .i64 0,.slice none 0 0]
  simp only [World.size_alloc] at bR
  obtain⟨x0,x1,x2⟩:=bX.three
  obtain⟨w1,hw1⟩:∃ w1,(w.alloc (.cells #[.int .i64 p.ps,.slice p.A p.vs.length p.c,.slice p.B p.xs.length p.e] 25)).alloc (.cells #[.int .i64 0,.int .i64 0,.int .i64 0,.slice none 0 0] 32)=w1:=⟨_,rfl⟩
  rw [hw1] at hb1 bX bR
  have HC:=Lib.hid (check_any p A c args.length f w1 (hp.at hb1))
  have HW:=Lib.hid hw1
  have HB:=Lib.hid hb1
  have HR:=Lib.hid (fun W (hb:Below w1.heap.size w1 W)=>bR.below hb bR.lt)
  generalize mcheck p.ps p.vs p.xs args.length f=E at *
  have e1:(E != 0)=true:=by simpa using hm
  clear hp hb0 hb1 bX bR hw1
  go_enter Tryz.func7,Tryz.ntmps7
  go_wp2_with (first
    | (go_at_call 11; rw [HW.out]; (with_reducible refine HC.out.mono ?_); rintro e w3 ⟨rfl, hb3⟩
       have bR3:=HR.out _ hb3
       have r0:=bR3.cell 0
       have r1:=bR3.cell 1
       have r2:=bR3.cell 2
       have r3:=bR3.cell 3
       have rf:=bR3.frozen)
    | fail)
  refine bodyPost_ret (v:=.tuple #[Rn.zero.val,.int .i64 E]) (by simp [results,Tryz.results7,go_sem,r0,r1,r2,r3,Rn.zero,Rn.val]) rfl ?_
  exact⟨rfl,((((HB.out.trans (hb3.mono HB.out.size)).setCell (p:=⟨w.heap.size+1,0,none⟩) (Nat.le_succ _) _).setCell (p:=⟨w.heap.size+1,1,none⟩) (Nat.le_succ _) _).setCell (p:=⟨w.heap.size+1,2,none⟩) (Nat.le_succ _) _).setCell (p:=⟨w.heap.size+1,3,none⟩) (Nat.le_succ _) _⟩
theorem drun_good(p:Prg)(A:Option Addr)(c:Nat)(args:List Int)(fn:Nat)(w:World)(hp:p.Ok w)(hA:IRow w w.heap.size A args)(hm:MRight p.ps p.vs p.xs args.length (fn:Int)) :
    Calls Tryz.prog 7 #[.agg #[.int .i64 p.ps,.slice p.A p.vs.length p.c,.slice p.B p.xs.length p.e],.slice A args.length c,.int .i64 (fn:Int)] w (REnds p.vs p.xs args fn w):=by
  have hb0:Below w.heap.size w (w.alloc (.cells #[.int .i64 p.ps,.slice p.A p.vs.length p.c,.slice p.B p.xs.length p.e] 25)):=(Below.refl _ _).alloc (Nat.le_refl _) _
  have hb1:=hb0.alloc hb0.size (.cells #[.int .i64 0,.int .i64 0,.int .i64 0,.slice none 0 0] 32)
  have bX:=(Blk.new w 25 #[.int .i64 p.ps,.slice p.A p.vs.length p.c,.slice p.B p.xs.length p.e]).alloc (.cells #[.int .i64 0,.int .i64 0,.int .i64 0,.slice none 0 0] 32)
  have bR:=Blk.new (w.alloc (.cells #[.int .i64 p.ps,.slice p.A p.vs.length p.c,.slice p.B p.xs.length p.e] 25)) 32 #[.int .i64 0,.int .i64 0,.int .i64 0,.slice none 0 0]
  simp only [World.size_alloc] at bR
  obtain⟨x0,x1,x2⟩:=bX.three
  obtain⟨w1,hw1⟩:∃ w1,(w.alloc (.cells #[.int .i64 p.ps,.slice p.A p.vs.length p.c,.slice p.B p.xs.length p.e] 25)).alloc (.cells #[.int .i64 0,.int .i64 0,.int .i64 0,.slice none 0 0] 32)=w1:=⟨_,rfl⟩
  rw [hw1] at hb1 bX bR
  have HC:=Lib.hid (check_any p A c args.length fn w1 (hp.at hb1))
  rw [mcheck_zero.2 hm] at HC
  have HW:=Lib.hid hw1
  have HB:=Lib.hid hb1
  have HX:=Lib.hid (fun W (hb:Below w1.heap.size w1 W)=>(bX.below hb bX.lt).three)
  have HR:=Lib.hid (fun W (hb:Below w1.heap.size w1 W)=>bR.below hb bR.lt)
  have HS:=Lib.hid (fun W (hb:Below w1.heap.size w1 W)=>start_any p A c args fn W ((hp.at hb1).at hb) ((hA.at hb1).at hb) hm)
  have hf1:fn≤10000:=by have:=hm.f1;omega
  have HO:=Lib.hid (fun(w2 w3:World) (K:DK) (κ:Nat→Nat) (Y:List ((Option Addr×Nat)×List Int)) (h:DM K κ (.slice none 0 0) Y (begin_ p.vs args fn) 0 w3) (hb:Below w2.heap.size w2 w3) (hbase:w2.heap.size≤K.base) (hkp:K.p=p) (hkf:K.F=fn) =>
    show Calls Tryz.prog 15 #[.pointer (some ⟨K.g,0,none⟩)] w3 fun e w'=>e=.returned (.tuple #[])∧∃ A c,RunOutD w2 (mrun p.vs p.xs args fn) K.g A c w' from by
      have:=through_any hb hbase h ⟨rfl,by rw [hkp];exact hm.begin rfl fn,⟨Nat.le_refl _,by show 0+fn≤10000;omega⟩,by rw [hkf];show 0+fn=fn;omega⟩ (by rw [hkp];exact hm.all) (by rw [hkp];exact hm.whole) (by rw [hkf];exact hf1)
      rw [hkp] at this
      exact this)
  have hev:(mrun p.vs p.xs args fn).ev.length≤1000000:=by
    have h1:=few_mean p.xs 0 (begin_ p.vs args fn) rfl
    have h2:=(nice_mean p.xs 0).sum (begin_ p.vs args fn) rfl
    have h0:(mrun p.vs p.xs args fn).ev=(mean p.xs 0 (begin_ p.vs args fn)).1.ev:=(stop_steps _ 3 0).2.1
    rw [h0]
    have h3:(begin_ p.vs args fn).ev.length=0:=rfl
    have h4:(begin_ p.vs args fn).steps+(begin_ p.vs args fn).fuel=0+fn:=rfl
    omega
  unfold REnds
  generalize mrun p.vs p.xs args fn=s6 at *
  clear hp hA hb0 hb1 bX bR hw1 hm hf1
  go_enter Tryz.func7,Tryz.ntmps7
  go_wp2_with (first
    | (go_at_call 11; rw [HW.out]; (with_reducible refine HC.out.mono ?_); rintro e w2 ⟨rfl, hb2⟩
       obtain⟨y0,y1,y2⟩:=HX.out _ hb2)
    | (go_at_call 14; (with_reducible refine (HS.out _ hb2).mono ?_); rintro e w3 ⟨K, κ, Y, rfl, h3, hb3, hbase, hkp, hkf⟩
       have HOO:=Lib.hid (HO.out w2 w3 K κ Y h3 hb3 hbase hkp hkf)
       clear h3 hbase hkp hkf)
    | (go_at_call 15; (with_reducible refine HOO.out.mono ?_); rintro e w4 ⟨rfl, A', c', hO⟩
       have z0:=hO.z0
       have z1:=hO.z1
       have z2:=hO.z2
       have z3:=hO.z3
       have bR4:=HR.out _ (hb2.trans (hO.below.mono hb2.size))
       have r0:=bR4.cell 0
       have r1:=bR4.cell 1
       have r2:=bR4.cell 2
       have r3:=bR4.cell 3
       have rf:=bR4.frozen
       have hglt:=hO.lt
       have HOH:=Lib.hid hO
       clear hO)
    | fail)
  have hO:=HOH.out
  have hlt2:=(HR.out _ hb2).lt
  have hB4:Below w.heap.size w w4:=(HB.out.trans (hb2.mono HB.out.size)).trans (hO.below.mono (Nat.le_trans HB.out.size hb2.size))
  refine bodyPost_ret (v:=.tuple #[.agg #[.int .i64 s6.kind,.int .i64 s6.value,.int .i64 s6.steps,.slice A' s6.ev.length c'],.int .i64 0]) (by simp [results,Tryz.results7,go_sem,r0,r1,r2,r3]) rfl ?_
  have hb7:=(((hB4.setCell (p:=⟨w.heap.size+1,0,none⟩) (Nat.le_succ _) (.int .i64 s6.kind)).setCell (p:=⟨w.heap.size+1,1,none⟩) (Nat.le_succ _) (.int .i64 s6.value)).setCell (p:=⟨w.heap.size+1,2,none⟩) (Nat.le_succ _) (.int .i64 s6.steps)).setCell (p:=⟨w.heap.size+1,3,none⟩) (Nat.le_succ _) (.slice A' s6.ev.length c')
  refine⟨hb7,A',c',rfl,?_,hO.cap,hO.none_,hev⟩
  have hne:∀ ad,A'=some ad→ad.block≠w.heap.size+1:=fun ad e=>by have:=hO.far ad e;omega
  have h4:=(((hO.row.far 0 (.int .i64 s6.kind) hne).far 1 (.int .i64 s6.value) hne).far 2 (.int .i64 s6.steps) hne).far 3 (.slice A' s6.ev.length c') hne
  intro i e hi
  obtain⟨ad,q1,q2,q3⟩:=h4 i e hi
  exact⟨ad,q1,by simpa using q2,q3⟩
theorem drun_any(p:Prg)(A:Option Addr)(c:Nat)(args:List Int)(f:Int)(w:World)(hp:p.Ok w)(hA:IRow w w.heap.size A args) :
  Calls Tryz.prog 7 #[.agg #[.int .i64 p.ps,.slice p.A p.vs.length p.c,.slice p.B p.xs.length p.e],.slice A args.length c,.int .i64 f] w (RunEnds p args f w):=by
 by_cases hm:mcheck p.ps p.vs p.xs args.length f=0
 ·have h:=mcheck_zero.1 hm
  obtain⟨fn,rfl⟩:=Int.eq_ofNat_of_zero_le h.f0
  refine(drun_good p A c args fn w hp hA h).mono ?_
  rintro e w' ⟨hb,A',c',he,hok⟩
  unfold RunEnds rrun
  rw [if_pos hm,hm,Int.toNat_natCast]
  exact⟨hb,A',c',he,hok⟩
 ·refine(drun_bad p A c args f w hp hm).mono ?_
  rintro e w' ⟨rfl,hb⟩
  unfold RunEnds rrun
  rw [if_neg hm]
  exact⟨hb,none,0,rfl,Rn.zero_ok _⟩
end Go.Proofs.YtekogckmgkodfaaGreatDoor.Dir
