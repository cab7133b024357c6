/-
  The library's contracts on rows of numbers (sorted, compacted, searched, some left out), laid at this program: each body is the library's own.
  Package catalog, walked: a row of tags; the number that a Return's kid is.
  Package catalog, walked: numbers in order, each once, but for some.
  Package catalog, walked: the operators that are offered at a node, told to a loop's body.
  Package catalog, walked: the operators that are offered at a node, told to a loop's body: Set, Put.
  Package catalog, walked: the operators that are offered at a node, told to a loop's body: If, While.
  Package catalog, walked: the operators that are offered at a node, told to a loop's body: all others: none.
  Package catalog, walked: the operators that are offered at a node, told to a loop's body: Return.
-/
import Derived.Shelf.Sort.Plain
import Derived.Shelf.Slices.CompactI
import Derived.Shelf.Slices.Turned
import Derived.Shelf.SlicesE.DeleteFunc
import Derived.Test.YtodejloonfkkmaaGreatRows
import Derived.Test.YtodejloonfkkmaaGreatCatG
import Derived.Test.YtodejloonfkkmaaGreatArenaH
import Derived.Test.YtodejloonfkkmaaGreatPathG
import Derived.Sort.Row
import Derived.RangeFuncNested
import Derived.RangeFuncCalls
import Derived.RangeFuncBound
import Derived.RangeFuncLeaves
import Derived.Shelf.Abstract
import Derived.Shelf.RegionOpen
import Derived.OwnWalkIn
import Derived.TacticsInMore
import Derived.RegionIn
import Derived.LoopNIn
import Derived.LoopIn
import Derived.Laws.EntriesVeiled
import Derived.Sort.CutIn
set_option maxRecDepth 100000
set_option maxHeartbeats 4000000
set_option linter.unusedVariables false
namespace Go.Proofs.YtodejloonfkkmaaGreat.ShelfI
open Go.Shelf
def sort_ren:Go.Shelf.Ren:=⟨fun | 189=>124 | 125=>147 | 257=>146 | 128=>167 | 129=>168 | 294=>158 | 295=>159 | 296=>160 | 297=>161 | 298=>162 | 299=>163 | 216=>164 | 300=>165 | 301=>166 | 328=>179 | 329=>180 | 330=>181 | 331=>182 | 332=>183 | 215=>184 | 343=>193 | n=>n,fun | 28=>22 | 3=>3 | 46=>217 | 0=>0 | 51=>96 | 53=>236 | 4=>4 | 183=>228 | 182=>227 | 131=>232 | 5=>5 | 9=>9 | 218=>246 | 222=>250 | 228=>256 | 229=>257 | n=>n,fun | n=>n⟩
theorem sort:Go.Proofs.Lays.n189 Tryz.prog sort_ren:={
 mixed:=by kernel_rfl
 f125:=Tryz.func147.trans (congrArg some (by kernel_rfl))
 f128:=Tryz.func167.trans (congrArg some (by kernel_rfl))
 f129:=Tryz.func168.trans (congrArg some (by kernel_rfl))
 f189:=Tryz.func124.trans (congrArg some (by kernel_rfl))
 f215:=Tryz.func184.trans (congrArg some (by kernel_rfl))
 f216:=Tryz.func164.trans (congrArg some (by kernel_rfl))
 f257:=Tryz.func146.trans (congrArg some (by kernel_rfl))
 f294:=Tryz.func158.trans (congrArg some (by kernel_rfl))
 f295:=Tryz.func159.trans (congrArg some (by kernel_rfl))
 f296:=Tryz.func160.trans (congrArg some (by kernel_rfl))
 f297:=Tryz.func161.trans (congrArg some (by kernel_rfl))
 f298:=Tryz.func162.trans (congrArg some (by kernel_rfl))
 f299:=Tryz.func163.trans (congrArg some (by kernel_rfl))
 f300:=Tryz.func165.trans (congrArg some (by kernel_rfl))
 f301:=Tryz.func166.trans (congrArg some (by kernel_rfl))
 f328:=Tryz.func179.trans (congrArg some (by kernel_rfl))
 f329:=Tryz.func180.trans (congrArg some (by kernel_rfl))
 f330:=Tryz.func181.trans (congrArg some (by kernel_rfl))
 f331:=Tryz.func182.trans (congrArg some (by kernel_rfl))
 f332:=Tryz.func183.trans (congrArg some (by kernel_rfl))
 f343:=Tryz.func193.trans (congrArg some (by kernel_rfl))
 t0:=Tryz.underlying0
 a0:=Tryz.isAgg0
 z0:=Tryz.sizeOf0
 v0:=Tryz.zeroValue0
 t3:=Tryz.underlying3
 a3:=Tryz.isAgg3
 z3:=Tryz.sizeOf3
 v3:=Tryz.zeroValue3
 t4:=Tryz.underlying4
 a4:=Tryz.isAgg4
 z4:=Tryz.sizeOf4
 v4:=Tryz.zeroValue4
 t5:=Tryz.underlying5
 a5:=Tryz.isAgg5
 z5:=Tryz.sizeOf5
 v5:=Tryz.zeroValue5
 t9:=Tryz.underlying9
 a9:=Tryz.isAgg9
 z9:=Tryz.sizeOf9
 v9:=Tryz.zeroValue9
 t28:=Tryz.underlying22
 a28:=Tryz.isAgg22
 z28:=Tryz.sizeOf22
 v28:=Tryz.zeroValue22
 t46:=Tryz.underlying217
 a46:=Tryz.isAgg217
 z46:=Tryz.sizeOf217
 v46:=Tryz.zeroValue217
 t51:=Tryz.underlying96
 a51:=Tryz.isAgg96
 z51:=Tryz.sizeOf96
 v51:=Tryz.zeroValue96
 t53:=Tryz.underlying236
 a53:=Tryz.isAgg236
 z53:=Tryz.sizeOf236
 v53:=Tryz.zeroValue236
 t131:=Tryz.underlying232
 a131:=Tryz.isAgg232
 z131:=Tryz.sizeOf232
 v131:=Tryz.zeroValue232
 t182:=Tryz.underlying227
 a182:=Tryz.isAgg227
 z182:=Tryz.sizeOf227
 v182:=Tryz.zeroValue227
 t183:=Tryz.underlying228
 a183:=Tryz.isAgg228
 z183:=Tryz.sizeOf228
 v183:=Tryz.zeroValue228
 t218:=Tryz.underlying246
 a218:=Tryz.isAgg246
 z218:=Tryz.sizeOf246
 v218:=Tryz.zeroValue246
 t222:=Tryz.underlying250
 a222:=Tryz.isAgg250
 z222:=Tryz.sizeOf250
 v222:=Tryz.zeroValue250
 t228:=Tryz.underlying256
 a228:=Tryz.isAgg256
 z228:=Tryz.sizeOf256
 v228:=Tryz.zeroValue256
 t229:=Tryz.underlying257
 a229:=Tryz.isAgg257
 z229:=Tryz.sizeOf257
 v229:=Tryz.zeroValue257 }
def comp_ren:Go.Shelf.Ren:=⟨fun | 20=>126 | n=>n,fun | 22=>22 | 3=>3 | 4=>4 | 0=>0 | n=>n,fun | n=>n⟩
theorem comp:Go.Proofs.Lays2.n20 Tryz.prog comp_ren:={
 mixed:=by kernel_rfl
 f20:=Tryz.func126.trans (congrArg some (by kernel_rfl))
 t0:=Tryz.underlying0
 a0:=Tryz.isAgg0
 z0:=Tryz.sizeOf0
 v0:=Tryz.zeroValue0
 t3:=Tryz.underlying3
 a3:=Tryz.isAgg3
 z3:=Tryz.sizeOf3
 v3:=Tryz.zeroValue3
 t4:=Tryz.underlying4
 a4:=Tryz.isAgg4
 z4:=Tryz.sizeOf4
 v4:=Tryz.zeroValue4
 t22:=Tryz.underlying22
 a22:=Tryz.isAgg22
 z22:=Tryz.sizeOf22
 v22:=Tryz.zeroValue22
 i3:=by kernel_rfl }
def cont_ren:Go.Shelf.Ren:=⟨fun | 107=>45 | 108=>96 | n=>n,fun | 28=>22 | 3=>3 | 4=>4 | 0=>0 | n=>n,fun | n=>n⟩
theorem cont:Go.Proofs.Lays.n107 Tryz.prog cont_ren:={
 mixed:=by kernel_rfl
 f107:=Tryz.func45.trans (congrArg some (by kernel_rfl))
 f108:=Tryz.func96.trans (congrArg some (by kernel_rfl))
 t0:=Tryz.underlying0
 a0:=Tryz.isAgg0
 z0:=Tryz.sizeOf0
 v0:=Tryz.zeroValue0
 t3:=Tryz.underlying3
 a3:=Tryz.isAgg3
 z3:=Tryz.sizeOf3
 v3:=Tryz.zeroValue3
 t4:=Tryz.underlying4
 a4:=Tryz.isAgg4
 z4:=Tryz.sizeOf4
 v4:=Tryz.zeroValue4
 t28:=Tryz.underlying22
 a28:=Tryz.isAgg22
 z28:=Tryz.sizeOf22
 v28:=Tryz.zeroValue22 }
def del_ren:Go.Shelf.Ren:=⟨fun | 10=>125 | 6=>119 | n=>n,fun | 22=>22 | 23=>3 | 25=>117 | 3=>3 | 4=>4 | 0=>0 | n=>n,fun | n=>n⟩
theorem del:Go.Proofs.SlLaysH.n10 Tryz.prog del_ren:={
 mixed:=by kernel_rfl
 f6:=⟨Tryz.f119.name,by decide,Tryz.func119.trans (congrArg some (by kernel_rfl))⟩
 f10:=⟨Tryz.f125.name,by decide,Tryz.func125.trans (congrArg some (by kernel_rfl))⟩
 t0:=Tryz.underlying0
 a0:=Tryz.isAgg0
 z0:=Tryz.sizeOf0
 v0:=Tryz.zeroValue0
 t3:=Tryz.underlying3
 a3:=Tryz.isAgg3
 z3:=Tryz.sizeOf3
 v3:=Tryz.zeroValue3
 t4:=Tryz.underlying4
 a4:=Tryz.isAgg4
 z4:=Tryz.sizeOf4
 v4:=Tryz.zeroValue4
 t22:=Tryz.underlying22
 a22:=Tryz.isAgg22
 z22:=Tryz.sizeOf22
 v22:=Tryz.zeroValue22
 a23:=Tryz.isAgg3
 z23:=Tryz.sizeOf3
 t25:=Tryz.underlying117
 a25:=Tryz.isAgg117
 z25:=Tryz.sizeOf117
 v25:=Tryz.zeroValue117 }
end Go.Proofs.YtodejloonfkkmaaGreat.ShelfI
namespace Go.Proofs.YtodejloonfkkmaaGreat.Cat
open Go.RowKit Mem Go.Sort Arena Delta Path
attribute [local go_sem ↓] Go.wp_at_zero Go.wp_at_succ
def Mine(w:World)(B g:Nat)(zs:List Int):Prop:=B≤g∧g<w.heap.size∧Holds (Value.int .i64) w g 0 zs.toArray
theorem mine_of_own{w:World}{B g cap:Nat}{zs:List Int}(h:w.ownsRow B 3 1 (.slice (some ⟨g,0,none⟩) zs.length cap) zs.length (icells zs)):Mine w B g zs∧zs.length≤cap:=by
 have hc:=fun j (hj:j<zs.length)=>h.cellAt j (by omega)
 have hf:=fun j=>h.frozenAt j
 rcases h.2 with⟨h',_⟩ | ⟨g',cap',cur,h',hb,hg,hn,_⟩
 ·simp at h'
 ·simp only [Value.slice.injEq,Option.some.injEq,Addr.mk.injEq,and_true,true_and] at h'
  obtain⟨rfl,rfl⟩:=h'
  refine⟨⟨hb,(Array.getElem?_eq_some_iff.1 hg).1,fun j hj=>?_⟩,hn⟩
  have hj':j<zs.length:=by simpa using hj
  rw [Nat.zero_add]
  refine⟨?_,hf j⟩
  rw [hc j hj',getElem!_pos zs.toArray j hj]
  unfold icells
  rw [List.getElem?_map,List.getElem?_eq_getElem hj']
  simp
theorem own_slice{w:World}{B:Nat}{v:Value}{zs:List Int}(h:w.ownsRow B 3 1 v zs.length (icells zs))(h0:0<zs.length):∃ g cap,v=.slice (some ⟨g,0,none⟩) zs.length cap∧Mine w B g zs∧zs.length≤cap:=by
 have h2:=h
 rcases h.2 with⟨rfl,h'⟩ | ⟨g,cap,cur,rfl,-,-,-,-⟩
 ·omega
 ·obtain⟨m,hc⟩:=mine_of_own h2
  exact⟨g,cap,rfl,m,hc⟩
theorem mine_lit(w:World)(zs:List Int):Mine (w.alloc (.cells (icells zs).toArray 3)) w.heap.size w.heap.size zs:=by
 refine⟨Nat.le_refl _,by simp,fun j hj=>?_⟩
 have hj':j<zs.length:=by simpa using hj
 have b:=Blk.new w 3 (icells zs).toArray
 rw [Nat.zero_add]
 refine⟨?_,b.frozen j⟩
 rw [b.cell,getElem!_pos zs.toArray j hj]
 simp [icells,List.getElem?_eq_getElem hj']
theorem Mine.keep{w w':World}{B g:Nat}{zs:List Int}(h:Mine w B g zs)(hb:w'.heap[g]? = w.heap[g]?):Mine w' B g zs:=by
 obtain⟨h1,h2,h3⟩:=h
 have hlt:g<w'.heap.size:=by
  have:=Array.getElem?_eq_getElem h2
  rw [this] at hb
  exact(Array.getElem?_eq_some_iff.1 hb).1
 refine⟨h1,hlt,fun j hj=>?_⟩
 obtain⟨a,b⟩:=h3 j hj
 refine⟨(World.cell?_of_block hb).trans a,?_⟩
 rw [← b]
 unfold World.frozen?
 rw [hb]
theorem Mine.below{w w':World}{B g:Nat}{zs:List Int}(h:Mine w B g zs){B':Nat}(hb:Below B' w w')(hg:g<B'):Mine w' B g zs:=h.keep (hb.block g hg)
theorem Mine.irow{w:World}{B g:Nat}{zs:List Int}(h:Mine w B g zs):IRow w w.heap.size (some ⟨g,0,none⟩) zs:=by
 obtain⟨h1,h2,h3⟩:=h
 intro i x hx
 obtain⟨hi,rfl⟩:=List.getElem?_eq_some_iff.1 hx
 refine⟨_,rfl,h2,?_⟩
 have:=(h3 i (by simpa using hi)).1
 rw [Nat.zero_add,getElem!_pos zs.toArray i (by simpa using hi)] at this
 rw [show(⟨g,0,none⟩:Addr).add i=⟨g,i,none⟩ by unfold Addr.add;split<;>simp_all,this]
 simp
def upw(lo:Int):Nat→List Int
 | 0=>[]
 | k+1=>upw lo k++[lo+k]
theorem upw_len(lo:Int):∀ k,(upw lo k).length=k
 | 0=>rfl
 | k+1=>by rw [upw,List.length_append,upw_len lo k];rfl
theorem row_any(lo:Nat)(k:Nat)(hlo:lo≤100)(hk:1≤k)(hk2:k≤100)(w:World):Calls Tryz.prog 94 #[.int .i64 (lo:Int),.int .i64 ((lo+k-1:Nat):Int)] w fun e w' =>
  Below w.heap.size w w'∧∃ g cap,e=.returned (.slice (some ⟨g,0,none⟩) k cap)∧Mine w' w.heap.size g (upw lo k)∧k≤cap:=by
 obtain⟨hi,hhi⟩:∃ hi,hi=lo+k-1:=⟨_,rfl⟩
 rw [← hhi]
 go_enter Tryz.func94,Tryz.ntmps94
 go_wp2_with fail
 go_loopw [5,6] (fun v n wr=>∃ i:Nat,i≤k∧n=.int .i64 ((lo+i:Nat):Int)∧wr.ownsRow w.heap.size 3 1 v (upw lo i).length (icells (upw lo i))∧Below w.heap.size w wr) (fun _ n _=>(lo+k)-(intOf n).toNat)
 case atStart=>exact⟨0,by omega,rfl,World.ownsRow_nil _ _ _ _,Below.refl _ _⟩
 case round =>
  obtain⟨i,hi',rfl,hO,hB⟩:=hrel
  by_cases hlt:i<k
  ·have i1:((lo+i:Nat):Int)≤(hi:Int):=by omega
   have hle:=upw_len lo i
   have HSN:=Lib.hid (show upw lo (i+1)=upw lo i++[((lo+i:Nat):Int)] by rw [upw];congr 2)
   have hB2:=hB.alloc hB.size (.cells #[.int .i64 ((lo+i:Nat):Int)] 3)
   have hO2:=hO.alloc (.cells #[.int .i64 ((lo+i:Nat):Int)] 3)
   have hr2:=IRow.of_blk (B:=wr.heap.size+1) (ks:=[((lo+i:Nat):Int)]) (Blk.new wr 3 #[.int .i64 ((lo+i:Nat):Int)]) (Nat.lt_succ_self _)
   have hl9:(upw lo i).length+1≤100000000:=by omega
   have hw:IntKind.i64.wrap (((lo+i:Nat):Int)+1)=((lo+(i+1):Nat):Int):=by rw [IntWalk.i64_in _ (by omega)];omega
   obtain⟨m,hm⟩:∃ m,m=lo+i:=⟨_,rfl⟩
   obtain⟨m',hm'⟩:∃ m',m'=lo+(i+1):=⟨_,rfl⟩
   rw [← hm] at i1 HSN hB2 hO2 hr2 hw ⊢
   rw [← hm'] at hw
   have HM:=Lib.hid hm
   have HM':=Lib.hid hm'
   clear hm hm' hle hhi
   go_wp2_with (at_builtin;refine append_ints rfl _ _ rfl w.heap.size hB2.size _ (upw lo i) rfl hO2 _ (some ⟨wr.heap.size,0,none⟩) 1 [(m:Int)] 1 rfl rfl (fun e=>by cases e) hr2 hl9 ?_;intro v7 w7 hown hgr hat;have hB7:=hB2.grown hgr hB2.size (fun i hi=>(hO2.lt i hi).1))
   go_roundw
   case rel=>exact⟨i+1,by omega,by rw [← HM'.out],by rw [HSN.out];exact hown,hB7⟩
   case measure=>have:=HM.out;have:=HM'.out;simp [intOf];omega
  ·obtain rfl:i=k:=by omega
   have hle:=upw_len lo i
   obtain⟨g,cap,rfl,hm,hc⟩:=own_slice hO (by omega)
   rw [hle] at hc ⊢
   have i1:¬ ((lo+i:Nat):Int)≤(hi:Int):=by omega
   obtain⟨m,hm1⟩:∃ m,m=lo+i:=⟨_,rfl⟩
   rw [← hm1] at i1 ⊢
   clear hle hO hhi hm1
   go_wp2_with fail
   go_ret
   exact⟨hB,g,cap,rfl,hm,hc⟩
theorem row_arith(w:World):Calls Tryz.prog 94 #[.int .i64 7,.int .i64 11] w fun e w' =>
  Below w.heap.size w w'∧∃ g cap,e=.returned (.slice (some ⟨g,0,none⟩) 5 cap)∧Mine w' w.heap.size g [7,8,9,10,11]∧5≤cap:=row_any 7 5 (by decide) (by decide) (by decide) w
theorem row_rel(w:World):Calls Tryz.prog 94 #[.int .i64 12,.int .i64 17] w fun e w' =>
  Below w.heap.size w w'∧∃ g cap,e=.returned (.slice (some ⟨g,0,none⟩) 6 cap)∧Mine w' w.heap.size g [12,13,14,15,16,17]∧6≤cap:=row_any 12 6 (by decide) (by decide) (by decide) w
theorem row_logic(w:World):Calls Tryz.prog 94 #[.int .i64 18,.int .i64 19] w fun e w' =>
  Below w.heap.size w w'∧∃ g cap,e=.returned (.slice (some ⟨g,0,none⟩) 2 cap)∧Mine w' w.heap.size g [18,19]∧2≤cap:=row_any 18 2 (by decide) (by decide) (by decide) w
def ret(y:Nd):List Int:=if y.1=1 then [y.2] else []
theorem add_0(a:Addr):a.add 0=a:=by unfold Addr.add;split<;>simp_all
theorem ar_25{x:Nd}(h0:0≤ar x)(h:x.1=25):ar x=1:=by
 obtain⟨t,n⟩:=x
 simp only at h
 subst h
 unfold ar asks at h0 ⊢
 simp at h0 ⊢
 split at h0
 ·omega
 ·omega
theorem returned_any(A:Option Addr)(c:Nat)(l:List Nd)(k m:Nat)(hs:scan 1 (l.drop k)=some m)(h25:(nodeAt l k).1=25)(w:World)(hx:Nodes w w.heap.size A l)(hl:l.length≤10000000000000) :
  Calls Tryz.prog 95 #[.slice A l.length c,.int .i64 (k:Int)] w fun e w' =>
   Below w.heap.size w w'∧∃ A' c',e=.returned (.slice A' (ret (behind l k)).length c')∧IRow w' w'.heap.size A' (ret (behind l k))∧(∀ ad,A'=some ad→w.heap.size≤ad.block∧ad.spot=none)∧(ret (behind l k)).length≤c':=by
 have hb:=behind_some hs h25
 have hlt:k+1<l.length:=(List.getElem?_eq_some_iff.1 hb).1
 have hk:akids l k=[((k+1:Nat):Int)]:=by
  obtain⟨x,hxk,h0,hk,-,-,-⟩:=node_kids hs
  have e1:=nodeAt_some hs
  rw [hxk] at e1
  have e2:=Option.some.inj e1
  rw [← e2] at h25
  rw [hk,ar_25 h0 h25]
  rfl
 have HX:=Lib.hid hx
 have HK:=Lib.hid (fun W h=>Kids_anyL A c l k W h hl)
 rw [hk] at HK
 unfold IntsEnds at HK
 generalize behind l k=y at *
 obtain⟨t,n⟩:=y
 have HBD:=Lib.hid hb
 obtain⟨ad0,rfl,-,-⟩:=hx (k+1) _ hb
 have i1:((k+1:Nat):Int)<(l.length:Int):=by omega
 have i2:(0:Int)≤((k+1:Nat):Int):=by omega
 obtain⟨q,hq⟩:∃ q,q=k+1:=⟨_,rfl⟩
 rw [← hq] at HK HBD i1 i2
 clear hb hx hlt hk hs h25 hq hl
 by_cases ht:t=1
 ·subst ht
  have hr:Hid (ret (1,n)=[n]):=Lib.hid rfl
  go_enter Tryz.func95,Tryz.ntmps95
  go_wp2_with (go_at_call 128;refine(HK.out _ HX.out).mono ?_;rintro e w1 ⟨hb1,A1,c1,rfl,hR1,hF1⟩;obtain⟨ad1,rfl,hl1,hc1⟩:=hR1 0 _ rfl;rw [add_0] at hc1;obtain⟨ad',q',hbk',g0,g1⟩:=(HX.out.below hb1) q _ HBD.out;cases q')
  go_ret
  rw [hr.out]
  have hB1:=hb1.alloc hb1.size (.cells #[.int .i64 1,.int .i64 n] 47)
  have bX:=Blk.new (w1.alloc (.cells #[.int .i64 1,.int .i64 n] 47)) 3 (icells [n]).toArray
  rw [World.size_alloc] at bX
  refine⟨hB1.alloc hB1.size _,_,_,rfl,IRow.of_blk bX bX.lt,fun ad e=>?_,Nat.le_refl _⟩
  cases e
  have:=hb1.size
  exact⟨by show w.heap.size≤w1.heap.size+1;omega,rfl⟩
 ·have hr:Hid (ret (t,n)=[]):=Lib.hid (if_neg ht)
  have hne:(t != 1)=true:=by simpa using ht
  go_enter Tryz.func95,Tryz.ntmps95
  go_wp2_with (go_at_call 128;refine(HK.out _ HX.out).mono ?_;rintro e w1 ⟨hb1,A1,c1,rfl,hR1,hF1⟩;obtain⟨ad1,rfl,hl1,hc1⟩:=hR1 0 _ rfl;rw [add_0] at hc1;obtain⟨ad',q',hbk',g0,g1⟩:=(HX.out.below hb1) q _ HBD.out;cases q')
  go_ret
  rw [hr.out]
  exact⟨hb1.alloc hb1.size _,_,_,rfl,fun i x h=>by simp at h,fun ad e=>(by cases e),Nat.le_refl _⟩
def OthP:Prop:=∀ (B g cap:Nat) (zs:List Int) (n:Nat) (ys:List Int) (n':Nat) (A:Option Addr) (c:Nat) (w:World),zs.length=n→ys.length=n'→Mine w B g zs→0<n→n≤100→n≤cap→IRow w w.heap.size A ys→n'≤100→n'≤c→(∀ ad,A=some ad→ad.block≠g∧ad.spot=none) →
  Calls Tryz.prog 93 #[.slice (some ⟨g,0,none⟩) n cap,.slice A n' c] w fun e w'=>e=.returned (.slice (some ⟨g,0,none⟩) (oth zs ys).length cap)∧Kept (· = g) w w'∧IRow w' w'.heap.size (some ⟨g,0,none⟩) (oth zs ys)∧(oth zs ys).length≤cap
end Go.Proofs.YtodejloonfkkmaaGreat.Cat
namespace Go.Proofs.YtodejloonfkkmaaGreat.Cat
open Go.RowKit Mem Go.Sort Go.Lib Arena Delta Path
theorem compact_le(zs:List Int):(Lib.compact zs).length≤zs.length:=by
 unfold Lib.compact Lib.compactUpTo
 rw [List.length_map]
 refine Nat.le_trans (List.length_filter_le _ _) ?_
 rw [List.length_range]
 exact Nat.le_refl _
theorem irow_kept{S:Nat→Prop}{w w':World}{A:Option Addr}{p:List Int}(h:IRow w w.heap.size A p)(k:Kept S w w')(hn:∀ ad,A=some ad→¬ S ad.block):IRow w' w'.heap.size A p:=by
 intro i x hx
 obtain⟨ad,e,h1,h3⟩:=h i x hx
 refine⟨ad,e,Nat.lt_of_lt_of_le h1 k.size,?_⟩
 have hb:(ad.add i).block=ad.block:=add_blockN _ _
 rw [← h3]
 exact World.cell?_of_block (by rw [hb];exact k.block _ h1 (hn ad e))
theorem kept_put(w:World)(n g:Nat)(d:Array Int)(os:Array Obj):Kept (· = g) w (grow (putRow (Value.int .i64) (Sort.ahead w n) g 0 d) os):=by
 refine⟨rfl,rfl,rfl,?_,fun k hk hn=>?_⟩
 ·simp [grow,putRow,mapBlock,Sort.ahead]
 ·rw [Sort.heap_grow_old _ _ (by simpa [putRow,mapBlock,Sort.ahead] using hk)]
  simp only [putRow,mapBlock,Sort.ahead,Array.getElem?_modify]
  rw [if_neg (fun e=>hn e.symm)]
theorem put_self(w:World)(n g:Nat)(d:Array Int):grow (putRow (Value.int .i64) (Sort.ahead w n) g 0 d) #[]=putRow (Value.int .i64) (Sort.ahead w n) g 0 d:=grow_empty _
theorem mine_put{w:World}{B g:Nat}{zs:List Int}(h:Mine w B g zs)(n:Nat)(ys:List Int)(hl:ys.length=zs.length)(os:Array Obj):Mine (grow (putRow (Value.int .i64) (Sort.ahead w n) g 0 ys.toArray) os) B g ys:=by
 obtain⟨h1,h2,h3⟩:=h
 have hk:=kept_put w n g ys.toArray os
 refine⟨h1,Nat.lt_of_lt_of_le h2 hk.size,?_⟩
 refine holds_grow _ _ _ _ _ _ (by simpa [putRow,mapBlock,Sort.ahead] using h2) ?_
 exact holds_putRow _ _ _ _ _ _ (show Holds (Value.int .i64) (Sort.ahead w n) g 0 zs.toArray from h3) (by simpa using hl)
theorem Mine.prefix{w:World}{B g:Nat}{xs ys:List Int}(h:Mine w B g (xs++ys)):Mine w B g xs:=by
 obtain⟨h1,h2,h3⟩:=h
 refine⟨h1,h2,fun j hj=>?_⟩
 have hj':j<xs.length:=by simpa using hj
 have:=h3 j (by simp;omega)
 rw [getElem!_pos _ j (by simp;omega)] at this
 rw [getElem!_pos _ j hj]
 simpa [List.getElem_append_left hj'] using this
theorem sort_any{B g:Nat}{zs:List Int}{n cap:Nat}{w:World}(hn:zs.length=n)(h2:n≤100)(h:Mine w B g zs) :
  Calls Tryz.prog 124 #[.slice (some ⟨g,0,none⟩) n cap] w fun e w'=>e=.returned (.tuple #[])∧Kept (· = g) w w'∧Mine w' B g (zs.mergeSort fun x y=>decide (x≤y)):=by
 subst hn
 have hc:=Any.slices_Sort_int ShelfI.sort g 0 cap zs w h.2.2 h.2.1 (by omega)
 change Calls Tryz.prog 124 _ _ _ at hc
 refine hc.mono ?_
 rintro e w' ⟨rfl,n,os,rfl⟩
 exact⟨rfl,kept_put _ _ _ _ _,mine_put h n _ (List.length_mergeSort _) os⟩
theorem comp_any{B g:Nat}{zs:List Int}{n cap:Nat}{w:World}(hn:zs.length=n)(h2:n≤100)(hcap:n≤cap)(h:Mine w B g zs) :
  Calls Tryz.prog 126 #[.slice (some ⟨g,0,none⟩) n cap] w fun e w'=>e=.returned (.slice (some ⟨g,0,none⟩) (Lib.compact zs).length cap)∧Kept (· = g) w w'∧Mine w' B g (Lib.compact zs):=by
 subst hn
 have hc:=Any.slices_Compact_int ShelfI.comp g 0 cap zs w h.2.2 (by omega) hcap
 change Calls Tryz.prog 126 _ _ _ at hc
 have hle:=compact_le zs
 refine hc.mono ?_
 rintro e w' ⟨rfl,q,rfl⟩
 have hm:=mine_put h q (Lib.compact zs++List.replicate (zs.length-(Lib.compact zs).length) 0) (by simp;omega) #[]
 have hk:=kept_put w q g (Lib.compact zs++List.replicate (zs.length-(Lib.compact zs).length) 0).toArray #[]
 rw [put_self] at hm hk
 exact⟨rfl,hk,hm.prefix⟩
theorem own1_any{ys:List Int}{n c bx:Nat}{A:Option Addr}(hn:ys.length=n)(x:Int){W:World}(hc:W.cell? ⟨bx,0,none⟩=some (.slice A n c))(hy:IRow W W.heap.size A ys)(hs:∀ ad,A=some ad→ad.spot=none)(h2:n≤100) :
  FnGives Tryz.prog 127 #[.pointer (some ⟨bx,0,none⟩)] #[.int .i64 x] (.bool (ys.contains x)) W:=by
 show Calls Tryz.prog 127 #[.int .i64 x,.pointer (some ⟨bx,0,none⟩)] W _
 have HC:=Lib.hid (show Calls Tryz.prog 45 #[.slice A n c,.int .i64 x] W (fun e w'=>e=.returned (.bool (ys.contains x))∧w'=W) from by
  subst hn
  cases ys with
  | nil =>
   have h:=Any.slices_Contains_int_empty ShelfI.cont A c x W
   change Calls Tryz.prog 45 _ _ _ at h
   exact h
  | cons y ys =>
   obtain⟨ad,rfl,-,-⟩:=hy 0 y rfl
   have hsp:=hs ad rfl
   obtain⟨b,o,sp⟩:=ad
   simp only at hsp
   subst hsp
   have h:=Any.slices_Contains_int ShelfI.cont b o (y::ys).length c (y::ys) x W (Nat.le_refl _) (by omega) (fun j hj=>by
    obtain⟨ad',e,-,q⟩:=hy j _ (List.getElem?_eq_getElem hj)
    cases e
    rw [List.getD_eq_getElem?_getD,List.getElem?_eq_getElem hj]
    rw [show(⟨b,o,none⟩:Addr).add j=⟨b,o+j,none⟩ by unfold Addr.add;split<;>simp_all] at q
    exact q)
   change Calls Tryz.prog 45 _ _ _ at h
   rw [List.take_length] at h
   exact h)
 generalize ys.contains x=r at *
 clear hy hs
 go_enter Tryz.func127,Tryz.ntmps127
 go_wp2_with (go_at_call 45;refine HC.out.mono ?_;rintro e w' ⟨rfl,rfl⟩)
 go_ret
 exact⟨rfl,0,rfl⟩
theorem del_any{B g:Nat}{zs ys:List Int}{n cap n' c bx:Nat}{A:Option Addr}{w:World}(hn:zs.length=n)(h2:n≤100)(hcap:n≤cap)(h:Mine w B g zs)(hn':ys.length=n')(h2':n'≤100)(hbx:bx<w.heap.size)(hbg:bx≠g)(hc:w.cell? ⟨bx,0,none⟩=some (.slice A n' c))(hy:IRow w w.heap.size A ys)(hs:∀ ad,A=some ad→ad.block≠g∧ad.spot=none) :
  Calls Tryz.prog 125 #[.slice (some ⟨g,0,none⟩) n cap,.func (.func 127) #[] #[.pointer (some ⟨bx,0,none⟩)]] w fun e w'=>e=.returned (.slice (some ⟨g,0,none⟩) (zs.filter fun x=>!(ys.contains x)).length cap)∧Kept (· = g) w w'∧Mine w' B g (zs.filter fun x=>!(ys.contains x)):=by
 subst hn
 have eg:∀ args w,(callFunc 127 args).run Tryz.prog w=.ok (.enter 127 args) w:=enters_of Tryz.func127 (by kernel_rfl) rfl
 have key:∀ (W:World) (x:Int),Kept (· = g) w W→FnGives Tryz.prog 127 #[.pointer (some ⟨bx,0,none⟩)] #[.int .i64 x] (.bool (ys.contains x)) W:=fun W x hk =>
  own1_any hn' x ((hk.cell (p:=⟨bx,0,none⟩) hbx hbg).trans hc) (irow_kept hy hk (fun ad e=>(hs ad e).1)) (fun ad e=>(hs ad e).2) h2'
 have hcon:=AnyE.slices_DeleteFunc ShelfI.del (Value.int .i64) (fun _=>rfl) (fun x=>ys.contains x) 127 #[.pointer (some ⟨bx,0,none⟩)] eg 0 Tryz.zeroValue3 g 0 cap zs.toArray w
  (fun W x hb=>key W x (Kept.of_below hb (Nat.le_refl _))) (fun n os dk x _=>key _ x (kept_put w n g dk os)) h.2.2 (by simp;omega) (by simpa using hcap)
 change Calls Tryz.prog 125 _ _ _ at hcon
 refine hcon.mono ?_
 rintro e w' ⟨rfl,q,rfl⟩
 have hle:(zs.filter fun x=>!(ys.contains x)).length≤zs.length:=List.length_filter_le _ _
 have hm:=mine_put h q ((zs.filter fun x=>!(ys.contains x))++List.replicate (zs.length-(zs.filter fun x=>!(ys.contains x)).length) 0) (by simp only [List.length_append,List.length_replicate];omega) #[]
 have hk:=kept_put w q g ((zs.filter fun x=>!(ys.contains x))++List.replicate (zs.length-(zs.filter fun x=>!(ys.contains x)).length) 0).toArray #[]
 rw [put_self] at hm hk
 exact⟨rfl,hk,hm.prefix⟩
theorem others_any:OthP:=by
 intro B g cap zs n ys n' A c w hn hn' hm hz hz2 hcap hy hy2 hyc hne
 have bX:=Blk.new w 22 #[.slice A n' c]
 have hk1:Kept (· = g) w (w.alloc (.cells #[.slice A n' c] 22)):=(Kept.refl _ _).alloc _
 have hm1:=hm.below ((Below.refl w.heap.size w).alloc (Nat.le_refl _) (.cells #[.slice A n' c] 22)) hm.2.1
 have hy1:IRow (w.alloc (.cells #[.slice A n' c] 22)) (w.alloc (.cells #[.slice A n' c] 22)).heap.size A ys:=hy.at ((Below.refl _ _).alloc (Nat.le_refl _) _)
 have hgb:w.heap.size≠g:=by have:=hm.2.1;omega
 have hlen:(zs.mergeSort fun x y=>decide (x≤y)).length=n:=by rw [List.length_mergeSort,hn]
 have hlen2:(Lib.compact (zs.mergeSort fun x y=>decide (x≤y))).length≤n:=hlen▸compact_le _
 have HO:=Lib.hid (show oth zs ys=(Lib.compact (zs.mergeSort fun x y=>decide (x≤y))).filter fun x=>!(ys.contains x) by unfold oth;rfl)
 generalize oth zs ys=R at *
 have HL:=Lib.hid hlen2
 have hbs:=bX.lt
 have hcell:=bX.cell 0
 have hb0:(#[Value.slice A n' c])[0]? = some (.slice A n' c):=rfl
 rw [hb0] at hcell
 go_enter Tryz.func93,Tryz.ntmps93
 have HS:=Lib.hid (sort_any (cap:=cap) hn hz2 hm1)
 have HC:=Lib.hid (fun W h=>comp_any (B:=B) (g:=g) (cap:=cap) (w:=W) hlen hz2 hcap h)
 generalize (zs.mergeSort fun x y=>decide (x≤y))=Z at *
 have HD:=Lib.hid (fun W h h1 h2 h3=>del_any (B:=B) (g:=g) (zs:=Lib.compact Z) (ys:=ys) (n:=(Lib.compact Z).length) (cap:=cap) (n':=n') (c:=c) (bx:=w.heap.size) (A:=A) (w:=W) rfl (Nat.le_trans hlen2 hz2) (Nat.le_trans hlen2 hcap) h hn' hy2 h1 hgb h2 h3 hne)
 rw [← HO.out] at HD
 have HR:=Lib.hid (show R.length≤cap from by rw [HO.out];exact Nat.le_trans (List.length_filter_le _ _) (Nat.le_trans hlen2 hcap))
 generalize Lib.compact Z=Z2 at *
 have HY:=Lib.hid hy1
 have HM:=Lib.hid hm
 have HK:=Lib.hid hk1
 have HCE:=Lib.hid hcell
 clear hn hlen hlen2 HO HL hm1 hm hy hy1 hk1 bX hcell
 go_wp2_with (first
  | (go_at_call 124;refine HS.out.mono ?_;rintro e w2 ⟨rfl,hk2,hm2⟩)
  | (go_at_call 126;refine(HC.out _ hm2).mono ?_;rintro e w3 ⟨rfl,hk3,hm3⟩;have hk13:=hk2.trans hk3)
  | (go_at_call 125;go_loud (refine(HD.out _ hm3 (Nat.lt_of_lt_of_le hbs hk13.size) ((hk13.cell (p:=⟨w.heap.size,0,none⟩) hbs hgb).trans HCE.out) (irow_kept HY.out hk13 (fun ad e=>(hne ad e).1))).mono ?_);rintro e w4 ⟨rfl,hk4,hm4⟩)
  | fail)
 go_ret
 exact⟨rfl,(HK.out.trans hk13).trans hk4,hm4.irow,HR.out⟩
end Go.Proofs.YtodejloonfkkmaaGreat.Cat
namespace Go.Proofs.YtodejloonfkkmaaGreat.Cat
open Go.RowKit Go.Shelf Mem Arena Delta Path
attribute [local go_sem] Oper.semAt_some
def Feeds(lp:Nat)(L:List (Int×List Int))(J Stop:List (Int×List Int)→World→Prop):Prop :=
 ∀ pre op ns A c W0 W,J pre W0→Below W0.heap.size W0 W→IRow W W.heap.size A ns→(∀ ad,A=some ad→W0.heap.size≤ad.block)→ns.length≤c→pre++[(op,ns)] <+: L →
  YieldAt Fence.wide 2 Tryz.prog lp #[.int .i64 op,.slice A ns.length c] W fun e W'=>∃ q,e=.returned (.bool q)∧(q=true→J (pre++[(op,ns)]) W')∧(q=false→Stop (pre++[(op,ns)]) W')
def Caught(Bl Ba:Nat)(A:Option Addr)(c:Nat)(l:List Nd)(k:Int)(W:World):Prop :=
 Bl<W.heap.size∧Ba<W.heap.size∧W.cell? ⟨Bl,0,none⟩=some (.slice A l.length c)∧W.cell? ⟨Ba,0,none⟩=some (.int .i64 k)∧Nodes W W.heap.size A l
theorem Caught.below{Bl Ba:Nat}{A:Option Addr}{c:Nat}{l:List Nd}{k:Int}{W W':World}(h:Caught Bl Ba A c l k W)(hb:Below W.heap.size W W'):Caught Bl Ba A c l k W':=by
 obtain⟨h1,h2,h3,h4,h5⟩:=h
 have:=hb.size
 exact⟨by omega,by omega,(hb.cell (p:=⟨Bl,0,none⟩) h1).trans h3,(hb.cell (p:=⟨Ba,0,none⟩) h2).trans h4,h5.at hb⟩
def offL(l:List Nd)(a:Int):List (Int×List Int):=if aend l a<0 then [] else offs (nodeAt l a) (behind l a)
def OffEnds(L:List (Int×List Int))(J Stop:List (Int×List Int)→World→Prop)(e:Ending)(W':World):Prop :=
 (∃ v,e=.returned v)∧∃ W0,Below W0.heap.size W0 W'∧(J L W0∨∃ pre,pre <+: L∧Stop pre W0)
theorem Mine.ge{w:World}{B g:Nat}{zs:List Int}(h:Mine w B g zs):B≤g:=h.1
theorem oth_late(H:OthP){B g n cap:Nat}{zs:List Int}{t:Int}{w:World}(hn:zs.length=n)(h0:0<n)(h2:n≤100)(hcap:n≤cap)(h:Mine w B g zs)(hB:B≤w.heap.size) :
  CallsIn Fence.wide 2 Tryz.prog 93 #[.slice (some ⟨g,0,none⟩) n cap,.slice (some ⟨w.heap.size,0,none⟩) 1 1] (w.alloc (.cells #[.int .i64 t] 3)) fun e w'=>e=.returned (.slice (some ⟨g,0,none⟩) (oth zs [t]).length cap)∧Below B w w'∧IRow w' w'.heap.size (some ⟨g,0,none⟩) (oth zs [t])∧(oth zs [t]).length≤cap:=by
 have hb:Below w.heap.size w (w.alloc (.cells #[.int .i64 t] 3)):=(Below.refl _ _).alloc (Nat.le_refl _) _
 have hlt:=h.2.1
 have bL:=Blk.new w 3 (icells [t]).toArray
 refine(callsIn_wide (n:=2)).2 ((H B g cap zs n [t] 1 (some ⟨w.heap.size,0,none⟩) 1 _ hn rfl (h.below hb hlt) h0 h2 hcap (IRow.of_blk bL bL.lt) (by decide) (Nat.le_refl _) (fun ad e=>by cases e;exact⟨by show w.heap.size≠g;omega,rfl⟩)).mono ?_)
 rintro e w' ⟨rfl,hk,hi,hl⟩
 exact⟨rfl,(hb.mono hB).trans (hk.to_below (by simp;omega) (fun k e=>by subst e;exact h.1)),hi,hl⟩
theorem oth_early(H:OthP){B g h n cap:Nat}{zs:List Int}{t:Int}{w:World}(hn:zs.length=n)(h0:0<n)(h2:n≤100)(hcap:n≤cap)(hm:Mine w B g zs)(hB:B≤w.heap.size)(bL:Blk w h 3 #[.int .i64 t])(hne:h≠g) :
  CallsIn Fence.wide 2 Tryz.prog 93 #[.slice (some ⟨g,0,none⟩) n cap,.slice (some ⟨h,0,none⟩) 1 1] w fun e w'=>e=.returned (.slice (some ⟨g,0,none⟩) (oth zs [t]).length cap)∧Below B w w'∧IRow w' w'.heap.size (some ⟨g,0,none⟩) (oth zs [t])∧(oth zs [t]).length≤cap:=by
 refine(callsIn_wide (n:=2)).2 ((H B g cap zs n [t] 1 (some ⟨h,0,none⟩) 1 _ hn rfl hm h0 h2 hcap (IRow.of_blk (ks:=[t]) bL bL.lt) (by decide) (Nat.le_refl _) (fun ad e=>by cases e;exact⟨hne,rfl⟩)).mono ?_)
 rintro e w' ⟨rfl,hk,hi,hl⟩
 exact⟨rfl,hk.to_below hB (fun k e=>by subst e;exact hm.1),hi,hl⟩
theorem offers1_21(HOt:OthP)(lp Bl Ba:Nat)(A:Option Addr)(c:Nat)(l:List Nd)(k m:Nat)(hs:scan 1 (l.drop k)=some m)(hl:l.length≤10000000000000)(hlt:k<l.length)(he:aend l k=(k:Int)+m)(v:Int)(y:Nd)
  (J Stop:List (Int×List Int)→World→Prop) (W:World) (h0:J [] W) (hC:Caught Bl Ba A c l k W) (hn:l[k]? = some (21,v)) (hY:Feeds lp (offs (21,v) y) J Stop) :
  CallsIn Fence.wide 3 Tryz.prog 92 #[.func (.yield lp) #[] #[],.pointer (some ⟨Bl,0,none⟩),.pointer (some ⟨Ba,0,none⟩)] W (OffEnds (offs (21,v) y) J Stop):=by
 have HE:=Lib.hid (fun W h=>End_anyL A c l k W h hl)
 rw [he] at HE
 have j2:¬ (k:Int)+(m:Int)<0:=by omega
 have j5:(k:Int)<(l.length:Int):=by omega
 have j6:(0:Int)≤(k:Int):=by omega
 obtain⟨c1,c2,c3,c4,hx⟩:=id hC
 have HC:=Lib.hid hC
 have HX:=Lib.hid hx
 have HN:=Lib.hid hn
 have H0:=Lib.hid h0
 have HO:=Lib.hid (show offs (21,v) y=[(5,[0])] from rfl)
 have hf0:Fence.wide.fn 51:=trivial
 have hf1:Fence.wide.fn 94:=trivial
 have hf2:Fence.wide.fn 93:=trivial
 clear hC hx hn h0 he hs
 refine callsIn_of_wp Tryz.func92 rfl trivial ?_ rfl
 simp only [Tryz.ntmps92,List.size_toArray,List.length_cons,List.length_nil,Nat.reduceAdd,Nat.reduceSub,Array.replicate_succ,Array.replicate_zero,List.push_toArray,List.append_toArray,List.nil_append,List.cons_append]
 gi_upto_region 33 with(first
  | (gi_at_call 51;refine((callsIn_wide (n:=2)).2 (HE.out _ HX.out)).mono ?_;rintro e w1 ⟨rfl,hb1⟩;have hC1:=HC.out.below hb1;obtain⟨d1,d2,d3,d4,hx1⟩:=id hC1;obtain⟨ad,q,hbk,g0,g1⟩:=hx1 k _ HN.out;cases q)
  | fail)
 have bX:=Blk.new w1 47 #[.int .i64 21,.int .i64 v]
 have hB2:Below w1.heap.size w1 (w1.alloc (.cells #[.int .i64 21,.int .i64 v] 47)):=(Below.refl _ _).alloc (Nat.le_refl _) _
 have hB3:=hb1.trans (hB2.mono hb1.size)
 obtain⟨b,hb⟩:∃ b,w1.heap.size=b:=⟨_,rfl⟩
 rw [hb] at bX hB2 ⊢
 have hbW:W.heap.size≤b:=hb▸hb1.size
 generalize w1.alloc (.cells #[.int .i64 21,.int .i64 v] 47)=w2 at *
 clear hC1 d1 d2 d3 d4 hx1 hbk g0 g1 c3 c4
 obtain⟨x0,x1⟩:=bX.two
 have hp1:[]++[(5,[0])] <+: offs (21,v) y:=by rw [HO.out];exact List.prefix_refl _
 have bL:=Blk.new w2 3 (icells [0]).toArray
 have hB5:=hB3.alloc hB3.size (.cells #[.int .i64 0] 3)
 obtain⟨fn,tmps,assign,body,hy,hR⟩:=hY [] 5 [0] (some ⟨w2.heap.size,0,none⟩) 1 W _ H0.out hB5 (IRow.of_blk bL bL.lt) (fun ad e=>by cases e;exact hB3.size) (Nat.le_refl _) hp1
 have hy2:(Instr.yield lp #[.int .i64 5,.slice (some ⟨w2.heap.size,0,none⟩) 1 1]).run Tryz.prog (w2.alloc (.cells #[.int .i64 0] 3))=.ok (.round lp fn tmps assign body) (w2.alloc (.cells #[.int .i64 0] 3)):=hy
 clear hY hp1 hy
 gi_wp2
 refine hR.mono ?_
 rintro e W6 ⟨q,rfl,hq⟩
 gi_wp2
 all_goals go_end0
 all_goals refine⟨⟨_,rfl⟩,W6,Below.refl _ _,?_⟩
 all_goals (cases q;exact .inr ⟨_,(by rw [HO.out];exact List.prefix_refl _),hq.2 rfl⟩;exact .inl (by rw [HO.out];exact hq.1 rfl))
theorem offers1_22(HOt:OthP)(lp Bl Ba:Nat)(A:Option Addr)(c:Nat)(l:List Nd)(k m:Nat)(hs:scan 1 (l.drop k)=some m)(hl:l.length≤10000000000000)(hlt:k<l.length)(he:aend l k=(k:Int)+m)(v:Int)(y:Nd)
  (J Stop:List (Int×List Int)→World→Prop) (W:World) (h0:J [] W) (hC:Caught Bl Ba A c l k W) (hn:l[k]? = some (22,v)) (hY:Feeds lp (offs (22,v) y) J Stop) :
  CallsIn Fence.wide 3 Tryz.prog 92 #[.func (.yield lp) #[] #[],.pointer (some ⟨Bl,0,none⟩),.pointer (some ⟨Ba,0,none⟩)] W (OffEnds (offs (22,v) y) J Stop):=by
 have HE:=Lib.hid (fun W h=>End_anyL A c l k W h hl)
 rw [he] at HE
 have j2:¬ (k:Int)+(m:Int)<0:=by omega
 have j5:(k:Int)<(l.length:Int):=by omega
 have j6:(0:Int)≤(k:Int):=by omega
 obtain⟨c1,c2,c3,c4,hx⟩:=id hC
 have HC:=Lib.hid hC
 have HX:=Lib.hid hx
 have HN:=Lib.hid hn
 have H0:=Lib.hid h0
 have HO:=Lib.hid (show offs (22,v) y=[(5,[0])] from rfl)
 have hf0:Fence.wide.fn 51:=trivial
 have hf1:Fence.wide.fn 94:=trivial
 have hf2:Fence.wide.fn 93:=trivial
 clear hC hx hn h0 he hs
 refine callsIn_of_wp Tryz.func92 rfl trivial ?_ rfl
 simp only [Tryz.ntmps92,List.size_toArray,List.length_cons,List.length_nil,Nat.reduceAdd,Nat.reduceSub,Array.replicate_succ,Array.replicate_zero,List.push_toArray,List.append_toArray,List.nil_append,List.cons_append]
 gi_upto_region 33 with(first
  | (gi_at_call 51;refine((callsIn_wide (n:=2)).2 (HE.out _ HX.out)).mono ?_;rintro e w1 ⟨rfl,hb1⟩;have hC1:=HC.out.below hb1;obtain⟨d1,d2,d3,d4,hx1⟩:=id hC1;obtain⟨ad,q,hbk,g0,g1⟩:=hx1 k _ HN.out;cases q)
  | fail)
 have bX:=Blk.new w1 47 #[.int .i64 22,.int .i64 v]
 have hB2:Below w1.heap.size w1 (w1.alloc (.cells #[.int .i64 22,.int .i64 v] 47)):=(Below.refl _ _).alloc (Nat.le_refl _) _
 have hB3:=hb1.trans (hB2.mono hb1.size)
 obtain⟨b,hb⟩:∃ b,w1.heap.size=b:=⟨_,rfl⟩
 rw [hb] at bX hB2 ⊢
 have hbW:W.heap.size≤b:=hb▸hb1.size
 generalize w1.alloc (.cells #[.int .i64 22,.int .i64 v] 47)=w2 at *
 clear hC1 d1 d2 d3 d4 hx1 hbk g0 g1 c3 c4
 obtain⟨x0,x1⟩:=bX.two
 have hp1:[]++[(5,[0])] <+: offs (22,v) y:=by rw [HO.out];exact List.prefix_refl _
 have bL:=Blk.new w2 3 (icells [0]).toArray
 have hB5:=hB3.alloc hB3.size (.cells #[.int .i64 0] 3)
 obtain⟨fn,tmps,assign,body,hy,hR⟩:=hY [] 5 [0] (some ⟨w2.heap.size,0,none⟩) 1 W _ H0.out hB5 (IRow.of_blk bL bL.lt) (fun ad e=>by cases e;exact hB3.size) (Nat.le_refl _) hp1
 have hy2:(Instr.yield lp #[.int .i64 5,.slice (some ⟨w2.heap.size,0,none⟩) 1 1]).run Tryz.prog (w2.alloc (.cells #[.int .i64 0] 3))=.ok (.round lp fn tmps assign body) (w2.alloc (.cells #[.int .i64 0] 3)):=hy
 clear hY hp1 hy
 gi_wp2
 refine hR.mono ?_
 rintro e W6 ⟨q,rfl,hq⟩
 gi_wp2
 all_goals go_end0
 all_goals refine⟨⟨_,rfl⟩,W6,Below.refl _ _,?_⟩
 all_goals (cases q;exact .inr ⟨_,(by rw [HO.out];exact List.prefix_refl _),hq.2 rfl⟩;exact .inl (by rw [HO.out];exact hq.1 rfl))
theorem offers1_23(HOt:OthP)(lp Bl Ba:Nat)(A:Option Addr)(c:Nat)(l:List Nd)(k m:Nat)(hs:scan 1 (l.drop k)=some m)(hl:l.length≤10000000000000)(hlt:k<l.length)(he:aend l k=(k:Int)+m)(v:Int)(y:Nd)
  (J Stop:List (Int×List Int)→World→Prop) (W:World) (h0:J [] W) (hC:Caught Bl Ba A c l k W) (hn:l[k]? = some (23,v)) (hY:Feeds lp (offs (23,v) y) J Stop) :
  CallsIn Fence.wide 3 Tryz.prog 92 #[.func (.yield lp) #[] #[],.pointer (some ⟨Bl,0,none⟩),.pointer (some ⟨Ba,0,none⟩)] W (OffEnds (offs (23,v) y) J Stop):=by
 have HE:=Lib.hid (fun W h=>End_anyL A c l k W h hl)
 rw [he] at HE
 have j2:¬ (k:Int)+(m:Int)<0:=by omega
 have j5:(k:Int)<(l.length:Int):=by omega
 have j6:(0:Int)≤(k:Int):=by omega
 obtain⟨c1,c2,c3,c4,hx⟩:=id hC
 have HC:=Lib.hid hC
 have HX:=Lib.hid hx
 have HN:=Lib.hid hn
 have H0:=Lib.hid h0
 have HO:=Lib.hid (show offs (23,v) y=[(5,[0]),(6,[0])] from rfl)
 have hf0:Fence.wide.fn 51:=trivial
 have hf1:Fence.wide.fn 94:=trivial
 have hf2:Fence.wide.fn 93:=trivial
 clear hC hx hn h0 he hs
 refine callsIn_of_wp Tryz.func92 rfl trivial ?_ rfl
 simp only [Tryz.ntmps92,List.size_toArray,List.length_cons,List.length_nil,Nat.reduceAdd,Nat.reduceSub,Array.replicate_succ,Array.replicate_zero,List.push_toArray,List.append_toArray,List.nil_append,List.cons_append]
 gi_upto_region 29 with(first
  | (gi_at_call 51;refine((callsIn_wide (n:=2)).2 (HE.out _ HX.out)).mono ?_;rintro e w1 ⟨rfl,hb1⟩;have hC1:=HC.out.below hb1;obtain⟨d1,d2,d3,d4,hx1⟩:=id hC1;obtain⟨ad,q,hbk,g0,g1⟩:=hx1 k _ HN.out;cases q)
  | fail)
 have bX:=Blk.new w1 47 #[.int .i64 23,.int .i64 v]
 have hB2:Below w1.heap.size w1 (w1.alloc (.cells #[.int .i64 23,.int .i64 v] 47)):=(Below.refl _ _).alloc (Nat.le_refl _) _
 have hB3:=hb1.trans (hB2.mono hb1.size)
 obtain⟨b,hb⟩:∃ b,w1.heap.size=b:=⟨_,rfl⟩
 rw [hb] at bX hB2 ⊢
 have hbW:W.heap.size≤b:=hb▸hb1.size
 generalize w1.alloc (.cells #[.int .i64 23,.int .i64 v] 47)=w2 at *
 clear hC1 d1 d2 d3 d4 hx1 hbk g0 g1 c3 c4
 obtain⟨x0,x1⟩:=bX.two
 have hp1:[]++[(5,[0])] <+: offs (23,v) y:=by rw [HO.out];exact⟨[(6,[0])],rfl⟩
 have hp2:[(5,[0])]++[(6,[0])] <+: offs (23,v) y:=by rw [HO.out];exact List.prefix_refl _
 have bL:=Blk.new w2 3 (icells [0]).toArray
 have hB5:=hB3.alloc hB3.size (.cells #[.int .i64 0] 3)
 obtain⟨fn,tmps,assign,body,hy,hR⟩:=hY [] 5 [0] (some ⟨w2.heap.size,0,none⟩) 1 W _ H0.out hB5 (IRow.of_blk bL bL.lt) (fun ad e=>by cases e;exact hB3.size) (Nat.le_refl _) hp1
 have hy2:(Instr.yield lp #[.int .i64 5,.slice (some ⟨w2.heap.size,0,none⟩) 1 1]).run Tryz.prog (w2.alloc (.cells #[.int .i64 0] 3))=.ok (.round lp fn tmps assign body) (w2.alloc (.cells #[.int .i64 0] 3)):=hy
 have HYY:=Lib.hid (fun A' c' W0 W' j0 h1 h2 h3 h4=>hY [(5,[0])] 6 [0] A' c' W0 W' j0 h1 h2 h3 h4 hp2)
 clear hY hp1 hp2 hy
 gi_upto_region 30 with fail
 refine hR.mono ?_
 rintro e W6 ⟨q,rfl,hq⟩
 cases q
 ·have hS:=hq.2 rfl
  clear hq
  gi_wp2
  go_end0
  exact⟨⟨_,rfl⟩,W6,Below.refl _ _,.inr ⟨_,(by rw [HO.out];exact⟨[(6,[0])],rfl⟩),hS⟩⟩
 ·have hJ:=hq.1 rfl
  have bL6:=Blk.new W6 3 (icells [0]).toArray
  obtain⟨fn',tmps',assign',body',hy',hR'⟩:=HYY.out (some ⟨W6.heap.size,0,none⟩) 1 W6 _ hJ ((Below.refl _ W6).alloc (Nat.le_refl _) (.cells #[.int .i64 0] 3)) (IRow.of_blk bL6 bL6.lt) (fun ad e=>by cases e;exact Nat.le_refl _) (Nat.le_refl _)
  have hy3:(Instr.yield lp #[.int .i64 6,.slice (some ⟨W6.heap.size,0,none⟩) 1 1]).run Tryz.prog (W6.alloc (.cells #[.int .i64 0] 3))=.ok (.round lp fn' tmps' assign' body') (W6.alloc (.cells #[.int .i64 0] 3)):=hy'
  clear hy2 hy'
  gi_wp2
  refine hR'.mono ?_
  rintro e W7 ⟨q,rfl,hq'⟩
  gi_wp2
  all_goals go_end0
  all_goals refine⟨⟨_,rfl⟩,W7,Below.refl _ _,?_⟩
  all_goals (cases q;exact .inr ⟨_,(by rw [HO.out];exact List.prefix_refl _),hq'.2 rfl⟩;exact .inl (by rw [HO.out];exact hq'.1 rfl))
theorem offers1_24(HOt:OthP)(lp Bl Ba:Nat)(A:Option Addr)(c:Nat)(l:List Nd)(k m:Nat)(hs:scan 1 (l.drop k)=some m)(hl:l.length≤10000000000000)(hlt:k<l.length)(he:aend l k=(k:Int)+m)(v:Int)(y:Nd)
  (J Stop:List (Int×List Int)→World→Prop) (W:World) (h0:J [] W) (hC:Caught Bl Ba A c l k W) (hn:l[k]? = some (24,v)) (hY:Feeds lp (offs (24,v) y) J Stop) :
  CallsIn Fence.wide 3 Tryz.prog 92 #[.func (.yield lp) #[] #[],.pointer (some ⟨Bl,0,none⟩),.pointer (some ⟨Ba,0,none⟩)] W (OffEnds (offs (24,v) y) J Stop):=by
 have HE:=Lib.hid (fun W h=>End_anyL A c l k W h hl)
 rw [he] at HE
 have j2:¬ (k:Int)+(m:Int)<0:=by omega
 have j5:(k:Int)<(l.length:Int):=by omega
 have j6:(0:Int)≤(k:Int):=by omega
 obtain⟨c1,c2,c3,c4,hx⟩:=id hC
 have HC:=Lib.hid hC
 have HX:=Lib.hid hx
 have HN:=Lib.hid hn
 have H0:=Lib.hid h0
 have HO:=Lib.hid (show offs (24,v) y=[(5,[0]),(6,[0])] from rfl)
 have hf0:Fence.wide.fn 51:=trivial
 have hf1:Fence.wide.fn 94:=trivial
 have hf2:Fence.wide.fn 93:=trivial
 clear hC hx hn h0 he hs
 refine callsIn_of_wp Tryz.func92 rfl trivial ?_ rfl
 simp only [Tryz.ntmps92,List.size_toArray,List.length_cons,List.length_nil,Nat.reduceAdd,Nat.reduceSub,Array.replicate_succ,Array.replicate_zero,List.push_toArray,List.append_toArray,List.nil_append,List.cons_append]
 gi_upto_region 29 with(first
  | (gi_at_call 51;refine((callsIn_wide (n:=2)).2 (HE.out _ HX.out)).mono ?_;rintro e w1 ⟨rfl,hb1⟩;have hC1:=HC.out.below hb1;obtain⟨d1,d2,d3,d4,hx1⟩:=id hC1;obtain⟨ad,q,hbk,g0,g1⟩:=hx1 k _ HN.out;cases q)
  | fail)
 have bX:=Blk.new w1 47 #[.int .i64 24,.int .i64 v]
 have hB2:Below w1.heap.size w1 (w1.alloc (.cells #[.int .i64 24,.int .i64 v] 47)):=(Below.refl _ _).alloc (Nat.le_refl _) _
 have hB3:=hb1.trans (hB2.mono hb1.size)
 obtain⟨b,hb⟩:∃ b,w1.heap.size=b:=⟨_,rfl⟩
 rw [hb] at bX hB2 ⊢
 have hbW:W.heap.size≤b:=hb▸hb1.size
 generalize w1.alloc (.cells #[.int .i64 24,.int .i64 v] 47)=w2 at *
 clear hC1 d1 d2 d3 d4 hx1 hbk g0 g1 c3 c4
 obtain⟨x0,x1⟩:=bX.two
 have hp1:[]++[(5,[0])] <+: offs (24,v) y:=by rw [HO.out];exact⟨[(6,[0])],rfl⟩
 have hp2:[(5,[0])]++[(6,[0])] <+: offs (24,v) y:=by rw [HO.out];exact List.prefix_refl _
 have bL:=Blk.new w2 3 (icells [0]).toArray
 have hB5:=hB3.alloc hB3.size (.cells #[.int .i64 0] 3)
 obtain⟨fn,tmps,assign,body,hy,hR⟩:=hY [] 5 [0] (some ⟨w2.heap.size,0,none⟩) 1 W _ H0.out hB5 (IRow.of_blk bL bL.lt) (fun ad e=>by cases e;exact hB3.size) (Nat.le_refl _) hp1
 have hy2:(Instr.yield lp #[.int .i64 5,.slice (some ⟨w2.heap.size,0,none⟩) 1 1]).run Tryz.prog (w2.alloc (.cells #[.int .i64 0] 3))=.ok (.round lp fn tmps assign body) (w2.alloc (.cells #[.int .i64 0] 3)):=hy
 have HYY:=Lib.hid (fun A' c' W0 W' j0 h1 h2 h3 h4=>hY [(5,[0])] 6 [0] A' c' W0 W' j0 h1 h2 h3 h4 hp2)
 clear hY hp1 hp2 hy
 gi_upto_region 30 with fail
 refine hR.mono ?_
 rintro e W6 ⟨q,rfl,hq⟩
 cases q
 ·have hS:=hq.2 rfl
  clear hq
  gi_wp2
  go_end0
  exact⟨⟨_,rfl⟩,W6,Below.refl _ _,.inr ⟨_,(by rw [HO.out];exact⟨[(6,[0])],rfl⟩),hS⟩⟩
 ·have hJ:=hq.1 rfl
  have bL6:=Blk.new W6 3 (icells [0]).toArray
  obtain⟨fn',tmps',assign',body',hy',hR'⟩:=HYY.out (some ⟨W6.heap.size,0,none⟩) 1 W6 _ hJ ((Below.refl _ W6).alloc (Nat.le_refl _) (.cells #[.int .i64 0] 3)) (IRow.of_blk bL6 bL6.lt) (fun ad e=>by cases e;exact Nat.le_refl _) (Nat.le_refl _)
  have hy3:(Instr.yield lp #[.int .i64 6,.slice (some ⟨W6.heap.size,0,none⟩) 1 1]).run Tryz.prog (W6.alloc (.cells #[.int .i64 0] 3))=.ok (.round lp fn' tmps' assign' body') (W6.alloc (.cells #[.int .i64 0] 3)):=hy'
  clear hy2 hy'
  gi_wp2
  refine hR'.mono ?_
  rintro e W7 ⟨q,rfl,hq'⟩
  gi_wp2
  all_goals go_end0
  all_goals refine⟨⟨_,rfl⟩,W7,Below.refl _ _,?_⟩
  all_goals (cases q;exact .inr ⟨_,(by rw [HO.out];exact List.prefix_refl _),hq'.2 rfl⟩;exact .inl (by rw [HO.out];exact hq'.1 rfl))
theorem offers1_3(HOt:OthP)(lp Bl Ba:Nat)(A:Option Addr)(c:Nat)(l:List Nd)(k m:Nat)(hs:scan 1 (l.drop k)=some m)(hl:l.length≤10000000000000)(hlt:k<l.length)(he:aend l k=(k:Int)+m)(v:Int)(y:Nd)
  (J Stop:List (Int×List Int)→World→Prop) (W:World) (h0:J [] W) (hC:Caught Bl Ba A c l k W) (hn:l[k]? = some (3,v)) (hY:Feeds lp (offs (3,v) y) J Stop) :
  CallsIn Fence.wide 3 Tryz.prog 92 #[.func (.yield lp) #[] #[],.pointer (some ⟨Bl,0,none⟩),.pointer (some ⟨Ba,0,none⟩)] W (OffEnds (offs (3,v) y) J Stop):=by
 have HE:=Lib.hid (fun W h=>End_anyL A c l k W h hl)
 rw [he] at HE
 have j2:¬ (k:Int)+(m:Int)<0:=by omega
 have j5:(k:Int)<(l.length:Int):=by omega
 have j6:(0:Int)≤(k:Int):=by omega
 obtain⟨c1,c2,c3,c4,hx⟩:=id hC
 have HC:=Lib.hid hC
 have HX:=Lib.hid hx
 have HN:=Lib.hid hn
 have H0:=Lib.hid h0
 have HO:=Lib.hid (show offs (3,v) y=[] from rfl)
 have hf0:Fence.wide.fn 51:=trivial
 have hf1:Fence.wide.fn 94:=trivial
 have hf2:Fence.wide.fn 93:=trivial
 clear hC hx hn h0 he hs
 refine callsIn_of_wp Tryz.func92 rfl trivial ?_ rfl
 simp only [Tryz.ntmps92,List.size_toArray,List.length_cons,List.length_nil,Nat.reduceAdd,Nat.reduceSub,Array.replicate_succ,Array.replicate_zero,List.push_toArray,List.append_toArray,List.nil_append,List.cons_append]
 gi_wp2_with (first
  | (gi_at_call 51;refine((callsIn_wide (n:=2)).2 (HE.out _ HX.out)).mono ?_;rintro e w1 ⟨rfl,hb1⟩;have hC1:=HC.out.below hb1;obtain⟨d1,d2,d3,d4,hx1⟩:=id hC1;obtain⟨ad,q,hbk,g0,g1⟩:=hx1 k _ HN.out;cases q)
  | fail)
 have hB3:=hb1.alloc hb1.size (.cells #[.int .i64 3,.int .i64 v] 47)
 go_end0
 exact⟨⟨_,rfl⟩,W,hB3,.inl (by rw [HO.out];exact H0.out)⟩
theorem offers1_4(HOt:OthP)(lp Bl Ba:Nat)(A:Option Addr)(c:Nat)(l:List Nd)(k m:Nat)(hs:scan 1 (l.drop k)=some m)(hl:l.length≤10000000000000)(hlt:k<l.length)(he:aend l k=(k:Int)+m)(v:Int)(y:Nd)
  (J Stop:List (Int×List Int)→World→Prop) (W:World) (h0:J [] W) (hC:Caught Bl Ba A c l k W) (hn:l[k]? = some (4,v)) (hY:Feeds lp (offs (4,v) y) J Stop) :
  CallsIn Fence.wide 3 Tryz.prog 92 #[.func (.yield lp) #[] #[],.pointer (some ⟨Bl,0,none⟩),.pointer (some ⟨Ba,0,none⟩)] W (OffEnds (offs (4,v) y) J Stop):=by
 have HE:=Lib.hid (fun W h=>End_anyL A c l k W h hl)
 rw [he] at HE
 have j2:¬ (k:Int)+(m:Int)<0:=by omega
 have j5:(k:Int)<(l.length:Int):=by omega
 have j6:(0:Int)≤(k:Int):=by omega
 obtain⟨c1,c2,c3,c4,hx⟩:=id hC
 have HC:=Lib.hid hC
 have HX:=Lib.hid hx
 have HN:=Lib.hid hn
 have H0:=Lib.hid h0
 have HO:=Lib.hid (show offs (4,v) y=[] from rfl)
 have hf0:Fence.wide.fn 51:=trivial
 have hf1:Fence.wide.fn 94:=trivial
 have hf2:Fence.wide.fn 93:=trivial
 clear hC hx hn h0 he hs
 refine callsIn_of_wp Tryz.func92 rfl trivial ?_ rfl
 simp only [Tryz.ntmps92,List.size_toArray,List.length_cons,List.length_nil,Nat.reduceAdd,Nat.reduceSub,Array.replicate_succ,Array.replicate_zero,List.push_toArray,List.append_toArray,List.nil_append,List.cons_append]
 gi_wp2_with (first
  | (gi_at_call 51;refine((callsIn_wide (n:=2)).2 (HE.out _ HX.out)).mono ?_;rintro e w1 ⟨rfl,hb1⟩;have hC1:=HC.out.below hb1;obtain⟨d1,d2,d3,d4,hx1⟩:=id hC1;obtain⟨ad,q,hbk,g0,g1⟩:=hx1 k _ HN.out;cases q)
  | fail)
 have hB3:=hb1.alloc hb1.size (.cells #[.int .i64 4,.int .i64 v] 47)
 go_end0
 exact⟨⟨_,rfl⟩,W,hB3,.inl (by rw [HO.out];exact H0.out)⟩
theorem offers1_5(HOt:OthP)(lp Bl Ba:Nat)(A:Option Addr)(c:Nat)(l:List Nd)(k m:Nat)(hs:scan 1 (l.drop k)=some m)(hl:l.length≤10000000000000)(hlt:k<l.length)(he:aend l k=(k:Int)+m)(v:Int)(y:Nd)
  (J Stop:List (Int×List Int)→World→Prop) (W:World) (h0:J [] W) (hC:Caught Bl Ba A c l k W) (hn:l[k]? = some (5,v)) (hY:Feeds lp (offs (5,v) y) J Stop) :
  CallsIn Fence.wide 3 Tryz.prog 92 #[.func (.yield lp) #[] #[],.pointer (some ⟨Bl,0,none⟩),.pointer (some ⟨Ba,0,none⟩)] W (OffEnds (offs (5,v) y) J Stop):=by
 have HE:=Lib.hid (fun W h=>End_anyL A c l k W h hl)
 rw [he] at HE
 have j2:¬ (k:Int)+(m:Int)<0:=by omega
 have j5:(k:Int)<(l.length:Int):=by omega
 have j6:(0:Int)≤(k:Int):=by omega
 obtain⟨c1,c2,c3,c4,hx⟩:=id hC
 have HC:=Lib.hid hC
 have HX:=Lib.hid hx
 have HN:=Lib.hid hn
 have H0:=Lib.hid h0
 have HO:=Lib.hid (show offs (5,v) y=[] from rfl)
 have hf0:Fence.wide.fn 51:=trivial
 have hf1:Fence.wide.fn 94:=trivial
 have hf2:Fence.wide.fn 93:=trivial
 clear hC hx hn h0 he hs
 refine callsIn_of_wp Tryz.func92 rfl trivial ?_ rfl
 simp only [Tryz.ntmps92,List.size_toArray,List.length_cons,List.length_nil,Nat.reduceAdd,Nat.reduceSub,Array.replicate_succ,Array.replicate_zero,List.push_toArray,List.append_toArray,List.nil_append,List.cons_append]
 gi_wp2_with (first
  | (gi_at_call 51;refine((callsIn_wide (n:=2)).2 (HE.out _ HX.out)).mono ?_;rintro e w1 ⟨rfl,hb1⟩;have hC1:=HC.out.below hb1;obtain⟨d1,d2,d3,d4,hx1⟩:=id hC1;obtain⟨ad,q,hbk,g0,g1⟩:=hx1 k _ HN.out;cases q)
  | fail)
 have hB3:=hb1.alloc hb1.size (.cells #[.int .i64 5,.int .i64 v] 47)
 go_end0
 exact⟨⟨_,rfl⟩,W,hB3,.inl (by rw [HO.out];exact H0.out)⟩
theorem offers1_6(HOt:OthP)(lp Bl Ba:Nat)(A:Option Addr)(c:Nat)(l:List Nd)(k m:Nat)(hs:scan 1 (l.drop k)=some m)(hl:l.length≤10000000000000)(hlt:k<l.length)(he:aend l k=(k:Int)+m)(v:Int)(y:Nd)
  (J Stop:List (Int×List Int)→World→Prop) (W:World) (h0:J [] W) (hC:Caught Bl Ba A c l k W) (hn:l[k]? = some (6,v)) (hY:Feeds lp (offs (6,v) y) J Stop) :
  CallsIn Fence.wide 3 Tryz.prog 92 #[.func (.yield lp) #[] #[],.pointer (some ⟨Bl,0,none⟩),.pointer (some ⟨Ba,0,none⟩)] W (OffEnds (offs (6,v) y) J Stop):=by
 have HE:=Lib.hid (fun W h=>End_anyL A c l k W h hl)
 rw [he] at HE
 have j2:¬ (k:Int)+(m:Int)<0:=by omega
 have j5:(k:Int)<(l.length:Int):=by omega
 have j6:(0:Int)≤(k:Int):=by omega
 obtain⟨c1,c2,c3,c4,hx⟩:=id hC
 have HC:=Lib.hid hC
 have HX:=Lib.hid hx
 have HN:=Lib.hid hn
 have H0:=Lib.hid h0
 have HO:=Lib.hid (show offs (6,v) y=[] from rfl)
 have hf0:Fence.wide.fn 51:=trivial
 have hf1:Fence.wide.fn 94:=trivial
 have hf2:Fence.wide.fn 93:=trivial
 clear hC hx hn h0 he hs
 refine callsIn_of_wp Tryz.func92 rfl trivial ?_ rfl
 simp only [Tryz.ntmps92,List.size_toArray,List.length_cons,List.length_nil,Nat.reduceAdd,Nat.reduceSub,Array.replicate_succ,Array.replicate_zero,List.push_toArray,List.append_toArray,List.nil_append,List.cons_append]
 gi_wp2_with (first
  | (gi_at_call 51;refine((callsIn_wide (n:=2)).2 (HE.out _ HX.out)).mono ?_;rintro e w1 ⟨rfl,hb1⟩;have hC1:=HC.out.below hb1;obtain⟨d1,d2,d3,d4,hx1⟩:=id hC1;obtain⟨ad,q,hbk,g0,g1⟩:=hx1 k _ HN.out;cases q)
  | fail)
 have hB3:=hb1.alloc hb1.size (.cells #[.int .i64 6,.int .i64 v] 47)
 go_end0
 exact⟨⟨_,rfl⟩,W,hB3,.inl (by rw [HO.out];exact H0.out)⟩
theorem offers1_20(HOt:OthP)(lp Bl Ba:Nat)(A:Option Addr)(c:Nat)(l:List Nd)(k m:Nat)(hs:scan 1 (l.drop k)=some m)(hl:l.length≤10000000000000)(hlt:k<l.length)(he:aend l k=(k:Int)+m)(v:Int)(y:Nd)
  (J Stop:List (Int×List Int)→World→Prop) (W:World) (h0:J [] W) (hC:Caught Bl Ba A c l k W) (hn:l[k]? = some (20,v)) (hY:Feeds lp (offs (20,v) y) J Stop) :
  CallsIn Fence.wide 3 Tryz.prog 92 #[.func (.yield lp) #[] #[],.pointer (some ⟨Bl,0,none⟩),.pointer (some ⟨Ba,0,none⟩)] W (OffEnds (offs (20,v) y) J Stop):=by
 have HE:=Lib.hid (fun W h=>End_anyL A c l k W h hl)
 rw [he] at HE
 have j2:¬ (k:Int)+(m:Int)<0:=by omega
 have j5:(k:Int)<(l.length:Int):=by omega
 have j6:(0:Int)≤(k:Int):=by omega
 obtain⟨c1,c2,c3,c4,hx⟩:=id hC
 have HC:=Lib.hid hC
 have HX:=Lib.hid hx
 have HN:=Lib.hid hn
 have H0:=Lib.hid h0
 have HO:=Lib.hid (show offs (20,v) y=[] from rfl)
 have hf0:Fence.wide.fn 51:=trivial
 have hf1:Fence.wide.fn 94:=trivial
 have hf2:Fence.wide.fn 93:=trivial
 clear hC hx hn h0 he hs
 refine callsIn_of_wp Tryz.func92 rfl trivial ?_ rfl
 simp only [Tryz.ntmps92,List.size_toArray,List.length_cons,List.length_nil,Nat.reduceAdd,Nat.reduceSub,Array.replicate_succ,Array.replicate_zero,List.push_toArray,List.append_toArray,List.nil_append,List.cons_append]
 gi_wp2_with (first
  | (gi_at_call 51;refine((callsIn_wide (n:=2)).2 (HE.out _ HX.out)).mono ?_;rintro e w1 ⟨rfl,hb1⟩;have hC1:=HC.out.below hb1;obtain⟨d1,d2,d3,d4,hx1⟩:=id hC1;obtain⟨ad,q,hbk,g0,g1⟩:=hx1 k _ HN.out;cases q)
  | fail)
 have hB3:=hb1.alloc hb1.size (.cells #[.int .i64 20,.int .i64 v] 47)
 go_end0
 exact⟨⟨_,rfl⟩,W,hB3,.inl (by rw [HO.out];exact H0.out)⟩
theorem offers1_26(HOt:OthP)(lp Bl Ba:Nat)(A:Option Addr)(c:Nat)(l:List Nd)(k m:Nat)(hs:scan 1 (l.drop k)=some m)(hl:l.length≤10000000000000)(hlt:k<l.length)(he:aend l k=(k:Int)+m)(v:Int)(y:Nd)
  (J Stop:List (Int×List Int)→World→Prop) (W:World) (h0:J [] W) (hC:Caught Bl Ba A c l k W) (hn:l[k]? = some (26,v)) (hY:Feeds lp (offs (26,v) y) J Stop) :
  CallsIn Fence.wide 3 Tryz.prog 92 #[.func (.yield lp) #[] #[],.pointer (some ⟨Bl,0,none⟩),.pointer (some ⟨Ba,0,none⟩)] W (OffEnds (offs (26,v) y) J Stop):=by
 have HE:=Lib.hid (fun W h=>End_anyL A c l k W h hl)
 rw [he] at HE
 have j2:¬ (k:Int)+(m:Int)<0:=by omega
 have j5:(k:Int)<(l.length:Int):=by omega
 have j6:(0:Int)≤(k:Int):=by omega
 obtain⟨c1,c2,c3,c4,hx⟩:=id hC
 have HC:=Lib.hid hC
 have HX:=Lib.hid hx
 have HN:=Lib.hid hn
 have H0:=Lib.hid h0
 have HO:=Lib.hid (show offs (26,v) y=[] from rfl)
 have hf0:Fence.wide.fn 51:=trivial
 have hf1:Fence.wide.fn 94:=trivial
 have hf2:Fence.wide.fn 93:=trivial
 clear hC hx hn h0 he hs
 refine callsIn_of_wp Tryz.func92 rfl trivial ?_ rfl
 simp only [Tryz.ntmps92,List.size_toArray,List.length_cons,List.length_nil,Nat.reduceAdd,Nat.reduceSub,Array.replicate_succ,Array.replicate_zero,List.push_toArray,List.append_toArray,List.nil_append,List.cons_append]
 gi_wp2_with (first
  | (gi_at_call 51;refine((callsIn_wide (n:=2)).2 (HE.out _ HX.out)).mono ?_;rintro e w1 ⟨rfl,hb1⟩;have hC1:=HC.out.below hb1;obtain⟨d1,d2,d3,d4,hx1⟩:=id hC1;obtain⟨ad,q,hbk,g0,g1⟩:=hx1 k _ HN.out;cases q)
  | fail)
 have hB3:=hb1.alloc hb1.size (.cells #[.int .i64 26,.int .i64 v] 47)
 go_end0
 exact⟨⟨_,rfl⟩,W,hB3,.inl (by rw [HO.out];exact H0.out)⟩
theorem offers1_none(lp Bl Ba:Nat)(A:Option Addr)(c:Nat)(l:List Nd)(a:Int)(hl:l.length≤10000000000000)(he:aend l a = -1)
  (J Stop:List (Int×List Int)→World→Prop) (W:World) (h0:J [] W) (hC:Caught Bl Ba A c l a W) :
  CallsIn Fence.wide 3 Tryz.prog 92 #[.func (.yield lp) #[] #[],.pointer (some ⟨Bl,0,none⟩),.pointer (some ⟨Ba,0,none⟩)] W (OffEnds [] J Stop):=by
 have HE:=Lib.hid (fun W h=>End_anyL A c l a W h hl)
 rw [he] at HE
 obtain⟨c1,c2,c3,c4,hx⟩:=id hC
 have HX:=Lib.hid hx
 have H0:=Lib.hid h0
 have hf0:Fence.wide.fn 51:=trivial
 clear hC hx h0 he
 refine callsIn_of_wp Tryz.func92 rfl trivial ?_ rfl
 simp only [Tryz.ntmps92,List.size_toArray,List.length_cons,List.length_nil,Nat.reduceAdd,Nat.reduceSub,Array.replicate_succ,Array.replicate_zero,List.push_toArray,List.append_toArray,List.nil_append,List.cons_append]
 gi_wp2_with (first
  | (gi_at_call 51;refine((callsIn_wide (n:=2)).2 (HE.out _ HX.out)).mono ?_;rintro e w1 ⟨rfl,hb1⟩)
  | fail)
 refine bodyPost_ret (results_none rfl _ _ _) rfl ?_
 exact⟨⟨_,rfl⟩,W,hb1,.inl H0.out⟩
theorem offers1_25(HOt:OthP)(lp Bl Ba:Nat)(A:Option Addr)(c:Nat)(l:List Nd)(k m:Nat)(hs:scan 1 (l.drop k)=some m)(hl:l.length≤10000000000000)(hlt:k<l.length)(he:aend l k=(k:Int)+m)(v:Int)(h25:(nodeAt l k).1=25)
  (J Stop:List (Int×List Int)→World→Prop) (W:World) (h0:J [] W) (hC:Caught Bl Ba A c l k W) (hn:l[k]? = some (25,v)) (hCJ:∀ pre W0,J pre W0→Caught Bl Ba A c l k W0) (hY:Feeds lp (offs (25,v) (behind l k)) J Stop) :
  CallsIn Fence.wide 3 Tryz.prog 92 #[.func (.yield lp) #[] #[],.pointer (some ⟨Bl,0,none⟩),.pointer (some ⟨Ba,0,none⟩)] W (OffEnds (offs (25,v) (behind l k)) J Stop):=by
 have HR:=Lib.hid (fun W h=>returned_any A c l k m hs h25 W h hl)
 generalize behind l k=y at *
 have HE:=Lib.hid (fun W h=>End_anyL A c l k W h hl)
 rw [he] at HE
 have j2:¬ (k:Int)+(m:Int)<0:=by omega
 have j5:(k:Int)<(l.length:Int):=by omega
 have j6:(0:Int)≤(k:Int):=by omega
 obtain⟨c1,c2,c3,c4,hx⟩:=id hC
 have HC:=Lib.hid hC
 have HX:=Lib.hid hx
 have HN:=Lib.hid hn
 have H0:=Lib.hid h0
 have HO:=Lib.hid (show offs (25,v) y=[(5,[0]),(7,oth [0,1] (ret y))] from rfl)
 have hf0:Fence.wide.fn 51:=trivial
 have hf1:Fence.wide.fn 95:=trivial
 have hf2:Fence.wide.fn 93:=trivial
 clear hC hx hn h0 he hs
 refine callsIn_of_wp Tryz.func92 rfl trivial ?_ rfl
 simp only [Tryz.ntmps92,List.size_toArray,List.length_cons,List.length_nil,Nat.reduceAdd,Nat.reduceSub,Array.replicate_succ,Array.replicate_zero,List.push_toArray,List.append_toArray,List.nil_append,List.cons_append]
 gi_upto_region 31 with(first
  | (gi_at_call 51;refine((callsIn_wide (n:=2)).2 (HE.out _ HX.out)).mono ?_;rintro e w1 ⟨rfl,hb1⟩;have hC1:=HC.out.below hb1;obtain⟨d1,d2,d3,d4,hx1⟩:=id hC1;obtain⟨ad,q,hbk,g0,g1⟩:=hx1 k _ HN.out;cases q)
  | fail)
 have bX:=Blk.new w1 47 #[.int .i64 25,.int .i64 v]
 have hB2:Below w1.heap.size w1 (w1.alloc (.cells #[.int .i64 25,.int .i64 v] 47)):=(Below.refl _ _).alloc (Nat.le_refl _) _
 have hB3:=hb1.trans (hB2.mono hb1.size)
 obtain⟨b,hb⟩:∃ b,w1.heap.size=b:=⟨_,rfl⟩
 rw [hb] at bX hB2 ⊢
 have hbW:W.heap.size≤b:=hb▸hb1.size
 generalize w1.alloc (.cells #[.int .i64 25,.int .i64 v] 47)=w2 at *
 clear hC1 d1 d2 d3 d4 hx1 hbk g0 g1 c3 c4
 obtain⟨x0,x1⟩:=bX.two
 have hp1:[]++[(5,[0])] <+: offs (25,v) y:=by rw [HO.out];exact⟨[(7,oth [0,1] (ret y))],rfl⟩
 have hp2:[(5,[0])]++[(7,oth [0,1] (ret y))] <+: offs (25,v) y:=by rw [HO.out];exact List.prefix_refl _
 have bL:=Blk.new w2 3 (icells [0]).toArray
 have hB5:=hB3.alloc hB3.size (.cells #[.int .i64 0] 3)
 obtain⟨fn,tmps,assign,body,hy,hR⟩:=hY [] 5 [0] (some ⟨w2.heap.size,0,none⟩) 1 W _ H0.out hB5 (IRow.of_blk bL bL.lt) (fun ad e=>by cases e;exact hB3.size) (Nat.le_refl _) hp1
 have hy2:(Instr.yield lp #[.int .i64 5,.slice (some ⟨w2.heap.size,0,none⟩) 1 1]).run Tryz.prog (w2.alloc (.cells #[.int .i64 0] 3))=.ok (.round lp fn tmps assign body) (w2.alloc (.cells #[.int .i64 0] 3)):=hy
 have HYY:=Lib.hid (fun A' c' W0 W' j0 h1 h2 h3 h4=>hY [(5,[0])] 7 (oth [0,1] (ret y)) A' c' W0 W' j0 h1 h2 h3 h4 hp2)
 have HOt:=Lib.hid (fun(B g:Nat) (A':Option Addr) (c':Nat) (w:World) h1 h2 h3 h4=>HOt B g 2 [0,1] 2 (ret y) (ret y).length A' c' w rfl rfl h1 (by decide) (by decide) (by decide) h2 (by unfold ret;split<;>simp) h3 h4)
 clear hY hp1 hp2 hy
 gi_upto_region 32 with fail
 refine hR.mono ?_
 rintro e W6 ⟨q,rfl,hq⟩
 cases q
 ·have hS:=hq.2 rfl
  clear hq
  gi_wp2
  go_end0
  exact⟨⟨_,rfl⟩,W6,Below.refl _ _,.inr ⟨_,(by rw [HO.out];exact⟨[(7,oth [0,1] (ret y))],rfl⟩),hS⟩⟩
 ·have hJ:=hq.1 rfl
  obtain⟨d1,d2,d3,d4,hx6⟩:=hCJ _ _ hJ
  have HJ:=Lib.hid hJ
  have hB6:Below W6.heap.size W6 (W6.alloc (.cells #[.int .i64 0,.int .i64 1] 3)):=(Below.refl _ _).alloc (Nat.le_refl _) _
  have hm6:=mine_lit W6 [0,1]
  have hx7:=hx6.at hB6
  clear hq hy2 hCJ hJ hx6 x0 x1
  gi_wp2_with (first
   | (gi_at_call 95;refine((callsIn_wide (n:=2)).2 (HR.out _ hx7)).mono ?_;rintro e w7 ⟨hb7,A7,c7,rfl,hi7,hf7,hl7⟩;have hm7:=hm6.below hb7 (by simp))
   | (gi_at_call 93;refine((callsIn_wide (n:=2)).2 (HOt.out W6.heap.size W6.heap.size A7 c7 w7 hm7 hi7 hl7 (fun ad e=>⟨by have:=(hf7 ad e).1;simp at this;omega,(hf7 ad e).2⟩))).mono ?_;rintro e w8 ⟨rfl,hk8,hi8,hl8⟩;have hB7:=hB6.trans (hb7.mono hB6.size);have hB8:=hB7.trans (hk8.to_below hB7.size (fun k e=>by subst e;exact Nat.le_refl _));obtain⟨fn',tmps',assign',body',hy3,hR'⟩:=HYY.out _ _ W6 _ HJ.out hB8 hi8 (fun ad e=>by cases e;exact Nat.le_refl _) hl8)
   | fail)
  refine hR'.mono ?_
  rintro e W7 ⟨q,rfl,hq'⟩
  clear hy3
  gi_wp2
  all_goals go_end0
  all_goals refine⟨⟨_,rfl⟩,W7,Below.refl _ _,?_⟩
  all_goals (cases q;exact .inr ⟨_,(by rw [HO.out];exact List.prefix_refl _),hq'.2 rfl⟩;exact .inl (by rw [HO.out];exact hq'.1 rfl))
end Go.Proofs.YtodejloonfkkmaaGreat.Cat
