/-
  The blocks of a text and its pad, told from the left: a range over a function.
  A block's words, walked: by the reference.
  A block, walked: the state behind it, by the reference.
  The digest of a text, walked: by the program, block by block as an iterator tells them.
  The digest of a text, walked: by the reference.
-/
import Derived.RangeFuncNested
import Derived.RangeFuncBound
import Derived.RangeFuncCalls
import Derived.RangeFuncLeaves
import Derived.Shelf.Abstract
import Derived.OwnWalkIn
import Derived.TacticsInMore
import Derived.LoopNIn
import Derived.LoopIn
import Derived.Lib.Strings
import Derived.Laws.CopyRow
import Derived.Test.YtekogckmgkodfaaGreatDoorShaG
import Derived.Great.BuildSlice
import Derived.Laws.EntriesVeiled
set_option maxRecDepth 100000
set_option maxHeartbeats 2000000
namespace Go.Proofs.YtekogckmgkodfaaGreatDoor.Sha
open Go.RowKit
theorem b64_len:b64.length=64:=by simp [b64]
def blk(all:List UInt8)(i:Nat):List UInt8:=(all.drop (64*i)).take 64
def tells(all:List UInt8)(n:Nat):List (List UInt8):=(List.range n).map (blk all)
theorem tells_zero(all:List UInt8):tells all 0=[]:=rfl
theorem tells_succ(all:List UInt8)(n:Nat):tells all (n+1)=tells all n++[blk all n]:=by simp [tells,List.range_succ]
theorem tells_len(all:List UInt8)(n:Nat):(tells all n).length=n:=by simp [tells]
theorem tells_prefix(all:List UInt8)(n m:Nat)(h:n≤m):tells all n <+: tells all m:=by
 obtain⟨k,rfl⟩:∃ k,m=n+k:=⟨m-n,by omega⟩
 exact⟨(List.range k).map (fun i=>blk all (n+i)),by simp [tells,List.range_add]⟩
theorem blk_len{all:List UInt8}{i:Nat}(h:64*i+64≤all.length):(blk all i).length=64:=by
 rw [blk,List.length_take,List.length_drop];omega
theorem grown_of_below{w w':World}(h:Below w.heap.size w w'):w.grownBy w' none:=⟨h.os,h.tape,h.output,h.size,fun k hk _=>h.block k hk⟩
theorem AbidesFrom.grow{β:Type}{B:Nat}{J:β→World→Prop}(h:AbidesFrom B J){s:β}{w w':World}(hs:J s w)(hb:Below w.heap.size w w'):J s w' :=
 h s w w' none hs (grown_of_below hb) (fun r e=>by cases e)
theorem run_copy64(w:World)(ty:TypeId)(g:Nat)(cur:Array Value)(t:TypeId)(s:ByteArray)(hs:64≤s.size)(hg:Row w g t cur)(hc:cur.size=64) :
  (Builtin.copy_ #[87,9] ty #[.slice (some ⟨g,0,none⟩) 64 64,.string s]).run Tryz.prog w=.ok (goInt 64) (w.setRow g (u8s (s.data.toList.take 64))):=by
 have hl:(s.data.toList.take 64).length=64:=by
  rw [List.length_take,show s.data.toList.length=s.size from rfl];omega
 have hst:=run_storeCells_from (P:=Tryz.prog) g t ((s.data.toList.take 64).map fun x=>Value.int .u8 (x.toNat:Int)) 0 cur w hg (by rw [List.length_map,hl,hc]) (by
  intro v hv
  obtain⟨x,_,rfl⟩:=List.mem_map.1 hv
  rfl)
 have hmin:Nat.min s.size 64=64:=Nat.min_eq_right hs
 have hsz:∀ w:World,(sizeOf 5).run Tryz.prog w=.ok 1 w:=fun w=>by kernel_rfl
 have e:(List.take 0 cur.toList++(s.data.toList.take 64).map fun x=>Value.int .u8 (x.toNat:Int)).toArray=u8s (s.data.toList.take 64):=by simp [u8s]
 rw [e] at hst
 simp [Builtin.copy_,run_underlying Tryz.underlying87,Builtin.lenOf,Builtin.firstCells,hsz,hmin]
 rw [← List.map_take,hst]
 simp [Result.andThen]
theorem wpList_copy64{ops:Array Oper}{rest:List Oper}{op:Oper}{a:Act}{w:World}{Q:Exit→Act→World→Prop}(hgd:op.guard=none)(d x:Operand)
  (ho:op.op=.call { callee:=.builtin .copy,args:=#[d,x],argTypes:=#[87,9] })
  (g:Nat) (hd:a.eval d=.slice (some ⟨g,0,none⟩) 64 64) (s:ByteArray) (hx:a.eval x=.string s) (hs:64≤s.size) {t:TypeId} {cur:Array Value} (hg:Row w g t cur) (hc:cur.size=64)
  (h:wpList Tryz.prog ops Q rest (a.put op.dst (goInt 64)) (w.setRow g (u8s (s.data.toList.take 64)))):wpList Tryz.prog ops Q (op::rest) a w:=by
 refine wpList_plain hgd fun _ hK=>?_
 have hr:=run_copy64 w op.type g cur t s hs hg hc
 unfold Oper.wp execOp
 simp only [ho,resolve,invoke,builtin,Sem.run_bind,Sem.run_pure,Result.andThen_ok,List.map_toArray,List.map_cons,List.map_nil,hd,hx,hr]
 exact hK _ _ h
theorem wpListIn_loadRow{F:Fence}{n:Nat}{P:Program}{ops:Array Oper}{rest:List Oper}{op:Oper}{a:Act}{w:World}{Q:Exit→Act→World→Prop}(hgd:op.guard=none)(ty:TypeId)(x:Operand)(ho:op.op=.load ty x)
  (g:Nat) (hx:a.eval x=.pointer (some ⟨g,0,none⟩)) {t:TypeId} {cs:Array Value} (hr:Row w g t cs) {d:TypeDesc}
  (hu:P.underlying ty=some d) (hd:d.isRow=true) (hi:(P.info? ty).map (·.size)=some cs.size)
  (h:wpListIn F n P ops Q rest (a.put op.dst (.agg cs)) w):wpListIn F n P ops Q (op::rest) a w:=by
 refine wpListIn_plain hgd fun K hK=>?_
 unfold Oper.wpIn
 refine⟨by simp [Oper.about,ho],?_⟩
 rw [Oper.semAt_plain F _ _ (by rw [ho];intro c hc';cases hc')]
 unfold execOp
 simp only [ho,hx,Sem.run_bind,hr.load d hu hd hi,Result.andThen_ok]
 exact hK _ _ h
theorem wpListIn_storeRow{F:Fence}{n:Nat}{P:Program}{ops:Array Oper}{rest:List Oper}{op:Oper}{a:Act}{w:World}{Q:Exit→Act→World→Prop}(hgd:op.guard=none)(ty:TypeId)(x y:Operand)(ho:op.op=.store ty x y)
  (g:Nat) (hx:a.eval x=.pointer (some ⟨g,0,none⟩)) {cs:Array Value} (hy:a.eval y=.agg cs) {t:TypeId} {old:Array Value} (hr:Row w g t old)
  (hi:(P.info? ty).map (·.size)=some cs.size) (hold:old.size=cs.size) (h1:cs.all (·.oneCell')=true)
  (h:wpListIn F n P ops Q rest (a.put op.dst undef) (w.setRow g cs)):wpListIn F n P ops Q (op::rest) a w:=by
 refine wpListIn_plain hgd fun K hK=>?_
 unfold Oper.wpIn
 refine⟨by simp [Oper.about,ho],?_⟩
 rw [Oper.semAt_plain F _ _ (by rw [ho];intro c hc';cases hc')]
 unfold execOp
 simp only [ho,hx,hy,Sem.run_bind,hr.store hi hold h1,Result.andThen_ok]
 exact hK _ _ h
def full(s:ByteArray):List UInt8:=s.data.toList++pad s.size
theorem full_len(s:ByteArray):(full s).length%64=0:=by
 rw [full,List.length_append,show s.data.toList.length=s.size from rfl];exact pad_fits s.size
theorem bytes_part(A S:ByteArray)(all:List UInt8)(o j:Nat)(hA:A.data.toList=(all.drop (64*o)).take A.size)(hj:64*j+64≤A.size)(h:S.data.toList=A.data.toList.drop (64*j)) :
  S.data.toList.take 64=blk all (o+j):=by
 rw [h,hA,blk,List.drop_take,List.take_take,List.drop_drop,show 64*o+64*j=64*(o+j) by omega]
 congr 1
 omega
def offOf(q m p:Nat):Nat:=if p=0 then 0 else if p=1 then q else m
theorem index53_0(A B:ByteArray)(W:World):(Instr.index 98 (.agg #[.string A,.string B]) (.int .i64 ((0:Nat):Int))).run Tryz.prog W=.ok (.string A) W:=by kernel_rfl
theorem index53_1(A B:ByteArray)(W:World):(Instr.index 98 (.agg #[.string A,.string B]) (.int .i64 ((1:Nat):Int))).run Tryz.prog W=.ok (.string B) W:=by kernel_rfl
theorem blocks1_in(l Bn:Nat)(s:ByteArray)(hs:s.size≤1073741824)(B:Nat)(J Jx:List (List UInt8)→World→Prop)(n₀:Nat)
  (hJ:AbidesFrom B J)
  (hY:∀ pre x W,J pre W→x.length=64→pre.length<100000000→YieldAt Fence.wide 2 Tryz.prog l #[.agg (u8s x)] W fun e W' =>
   (e=.returned (.bool true)∧J (pre++[x]) W'∧Below n₀ W W')∨(e=.returned (.bool false)∧Jx (pre++[x]) W'))
  (W:World) (hBn:W.cell? ⟨Bn,0,none⟩=some (.string s)) (h0:J [] W) :
  CallsIn Fence.wide 3 Tryz.prog 42 #[.func (.yield l) #[] #[],.pointer (some ⟨Bn,0,none⟩)] W fun e W'=>(∃ v,e=.returned v) ∧
   ((∃ ys,ys=tells (full s) ((full s).length / 64)∧J ys W')∨(∃ pre,pre <+: tells (full s) ((full s).length / 64)∧Jx pre W')):=by
 obtain⟨q,hq⟩:∃ q,q=s.size / 64:=⟨_,rfl⟩
 obtain⟨r,hr⟩:∃ r,r=s.size%64:=⟨_,rfl⟩
 obtain⟨m,hm⟩:∃ m,m=(full s).length / 64:=⟨_,rfl⟩
 have hfl:=full_len s
 have hfull:(full s).length=s.size+(pad s.size).length:=by rw [full,List.length_append];rfl
 have hpl:=pad_len s.size
 have hwle:q*64≤s.size:=by omega
 have hx1:(s.extract 0 (q*64)).size=q*64:=by simp;omega
 have hx2:(s.extract (q*64) s.size).size=s.size-q*64:=by simp
 have hd1:(s.extract 0 (q*64)).data.toList=((full s).drop (64*0)).take (s.extract 0 (q*64)).size:=by
  rw [hx1,Lib.extract_data,full,Nat.mul_zero,List.drop_zero,List.drop_zero,Nat.sub_zero,List.take_append_of_le_length (by rw [show s.data.toList.length=s.size from rfl];omega)]
 have hd2:(s.extract (q*64) s.size++⟨(pad s.size).toArray⟩:ByteArray).data.toList=((full s).drop (64*q)).take (s.extract (q*64) s.size++⟨(pad s.size).toArray⟩:ByteArray).size:=by
  rw [ByteArray.size_append,hx2,size_list (pad s.size)]
  have e:(s.extract (q*64) s.size++⟨(pad s.size).toArray⟩:ByteArray).data.toList=s.data.toList.drop (q*64)++pad s.size:=by
   rw [ByteArray.data_append,Array.toList_append,Lib.extract_data,List.take_of_length_le (by rw [List.length_drop,show s.data.toList.length=s.size from rfl];omega)]
  rw [e,full,List.drop_append_of_le_length (by rw [show s.data.toList.length=s.size from rfl];omega),Nat.mul_comm 64 q,List.take_of_length_le]
  rw [List.length_append,List.length_drop,show s.data.toList.length=s.size from rfl]
  exact Nat.le_refl _
 have hrq:s.size=q*64+r:=by omega
 have hr64:r<64:=by omega
 obtain⟨wi,hwi⟩:∃ wi,wi=q*64:=⟨_,rfl⟩
 rw [← hwi] at hx1 hx2 hd1 hd2 hwle
 obtain⟨A1,hA1⟩:∃ A,A=s.extract 0 wi:=⟨_,rfl⟩
 obtain⟨X2,hX2⟩:∃ A,A=s.extract wi s.size:=⟨_,rfl⟩
 obtain⟨P,hP⟩:∃ A:ByteArray,A=⟨(pad s.size).toArray⟩:=⟨_,rfl⟩
 have hPs:P.size=(pad s.size).length:=by rw [hP,size_list]
 rw [← hA1] at hx1 hd1
 rw [← hX2] at hx2 hd2
 rw [← hP] at hd2
 have hpad:=fun W=>Pad_any s.size (by omega) W
 rw [← hP] at hpad
 obtain⟨A2,hA2⟩:∃ A,A=X2++P:=⟨_,rfl⟩
 rw [← hA2] at hd2
 have hA2s:A2.size=64*(m-q):=by rw [hA2,ByteArray.size_append,hx2,hPs];omega
 have hA1s:A1.size=64*q:=by omega
 have hqm:q≤m:=by omega
 have hm8:m≤20000000:=by omega
 have i1:(s.size:Int)%64=(r:Int):=by omega
 have i2:(s.size:Int)-(r:Int)=(wi:Int):=by omega
 have i3:(0:Int)≤(wi:Int):=by omega
 have i4:(wi:Int)≤(s.size:Int):=by omega
 have HPAD:=Lib.hid hpad
 have hcat:X2++P=A2:=hA2.symm
 have hext1:s.extract 0 wi=A1:=hA1.symm
 have hext2:s.extract wi s.size=X2:=hX2.symm
 have hgt:¬ (9223372036854775807<X2.size+P.size):=by omega
 have HD1:=Lib.hid hd1
 have HD2:=Lib.hid hd2
 have HA1:=Lib.hid hA1s
 have HA2:=Lib.hid hA2s
 have HMm:=Lib.hid hm
 rw [← hm]
 clear hpad hA1 hX2 hP hA2 hPs hd1 hd2 hA1s hA2s hwi hrq hq hr hm hx1 hx2 hpl hfl hfull
 have hBlt:=World.block_lt_of_cell? W _ hBn
 refine callsIn_wide.2 ?_
 go_enter Tryz.func42,Tryz.ntmps42
 go_wp2_with fail
 go_region_held3 (fun W'=>W'.cell? ⟨Bn,0,none⟩=some (.string s)) (first | exact hc1 | go_keep) (first | (go_at_call 43;(refine(HPAD.out _).mono ?_);rintro e w1 ⟨rfl,hb1⟩;have hc1:w1.cell? ⟨Bn,0,none⟩=some (.string s):=(hb1.cell (p:=⟨Bn,0,none⟩) hBlt).trans hBn))
 have hW1:Below W.heap.size W w1:=(Below.drew (Below.refl _ W)).trans hb1
 have hJ1:J (tells (full s) 0) w1:=AbidesFrom.grow hJ h0 hW1
 clear hcat hext1 hext2 hgt hc1 hb1 HPAD i1 i2 i3 i4
 have hz:=zero27
 go_wp2_with fail
 go_loopw [25] (fun i wr=>∃ p:Nat,p≤2∧i=.int .i64 p∧J (tells (full s) (offOf q m p)) wr) (fun i _=>2-(intOf i).toNat)
 case atStart=>exact⟨0,by omega,rfl,hJ1⟩
 case round =>
  clear hJ1 hW1
  obtain⟨p,hp,rfl,hJ1⟩:=hrel
  by_cases hlt:p<2
  ·obtain⟨A,o,cnt,hix,hAd,hAs,hoff,hoff',hcm⟩:∃ (A:ByteArray) (o cnt:Nat),(∀ W,(Instr.index 98 (.agg #[.string A1,.string A2]) (.int .i64 (p:Int))).run Tryz.prog W=.ok (.string A) W) ∧
     A.data.toList=((full s).drop (64*o)).take A.size∧A.size=64*cnt∧offOf q m p=o∧offOf q m (p+1)=o+cnt∧o+cnt≤m:=by
    rcases (show p=0∨p=1 by omega) with rfl | rfl
    ·exact⟨A1,0,q,fun W=>index53_0 A1 A2 W,HD1.out,HA1.out,rfl,by simp [offOf],by omega⟩
    ·exact⟨A2,q,m-q,fun W=>index53_1 A1 A2 W,HD2.out,HA2.out,rfl,by simp [offOf];omega,by omega⟩
   have hd:decide ((p:Int)<2)=true:=by simp;omega
   rw [hoff] at hJ1
   have HO:=Lib.hid hoff'
   have HAD:=Lib.hid hAd
   have HAS:=Lib.hid hAs
   have hA9:A.size≤1280000000:=by omega
   clear hoff hoff' hAd hAs
   go_wp2_with fail
   go_loopw [6] (fun a wr=>∃ j:Nat,j≤cnt∧a=.int .i64 ((64*j:Nat):Int)∧J (tells (full s) (o+j)) wr) (fun a _=>64*cnt-(intOf a).toNat)
   case atStart=>exact⟨0,by omega,rfl,hJ1⟩
   case round =>
    clear hJ1
    obtain⟨j,hj,rfl,hJ1⟩:=hrel
    by_cases hlj:j<cnt
    ·obtain⟨t,ht⟩:∃ t,t=64*j:=⟨_,rfl⟩
     rw [← ht]
     have has:=HAS.out
     have hd2:decide ((t:Int)<(A.size:Int))=true:=by simp;omega
     have hd3:t<A.size:=by omega
     have ht0:(0:Int)≤(t:Int):=by omega
     have ht1:(t:Int)≤(A.size:Int):=by omega
     have ht2:t≤1280000000:=by omega
     obtain⟨S,hS⟩:∃ S,S=A.extract t A.size:=⟨_,rfl⟩
     have hSs:64≤S.size:=by rw [hS];simp;omega
     have hSd:S.data.toList=A.data.toList.drop (64*j):=by rw [hS,Lib.extract_data,ht,List.take_of_length_le (by rw [List.length_drop,show A.data.toList.length=A.size from rfl];exact Nat.le_refl _)]
     have hblk:=bytes_part A S (full s) o j HAD.out (by omega) hSd
     have hext:A.extract t A.size=S:=hS.symm
     have HB:=Lib.hid hblk
     have HT:=Lib.hid ht
     clear hS hSd hblk ht has
     go_upto_region 8 with(fail)
     have hJ2:J (tells (full s) (o+j)) (wr.alloc (.cells (u8s b64) 72)):=AbidesFrom.grow hJ hJ1 ((Below.refl _ _).alloc (Nat.le_refl _) _)
     have hR:=Row.new wr 72 (u8s b64)
     refine wp_region_still_tail 4 (by kernel_rfl) (by kernel_rfl) ?_
     simp only [List.take_succ_cons,List.take_zero,List.drop_succ_cons,List.drop_zero]
     change wpStill _ _ (wr.alloc (.cells (u8s b64) 72)).drew (fun a'=>wpList _ _ _ _ a' (wr.alloc (.cells (u8s b64) 72)).drew) _ _
     replace hJ2:J (tells (full s) (o+j)) (wr.alloc (.cells (u8s b64) 72)).drew:=AbidesFrom.grow hJ hJ2 (Below.drew (Below.refl _ _))
     replace hR:Row (wr.alloc (.cells (u8s b64) 72)).drew wr.heap.size 72 (u8s b64):=hR
     have hbel:Below wr.heap.size wr (wr.alloc (.cells (u8s b64) 72)).drew:=((Below.refl _ wr).alloc (Nat.le_refl _) _).drew
     generalize (wr.alloc (.cells (u8s b64) 72)).drew=wd at *
     repeat still_step
     refine wpStill_nil ?_
     with_reducible refine wpList_copy64 (op:=⟨some 38,.call { callee:=.builtin .copy,args:=#[.tmp 34,.tmp 37],argTypes:=#[87,9] },_,_,_,none⟩) rfl (.tmp 34) (.tmp 37) rfl wr.heap.size ?_ S ?_ hSs hR (by rw [u8s_size,b64_len]) ?_
     ·rfl
     ·rfl
     have hJ3:J (tells (full s) (o+j)) (wd.setRow wr.heap.size (u8s (S.data.toList.take 64))):=AbidesFrom.grow hJ hJ1 (below_setRow hbel (Nat.le_refl _) _)
     have hR3:=hR.put (u8s (S.data.toList.take 64))
     rw [HB.out] at hJ3 hR3 ⊢
     have hbl:(u8s (blk (full s) (o+j))).size=64:=by rw [← HB.out,u8s_size,List.length_take,show S.data.toList.length=S.size from rfl];omega
     have hI:Hid ((Tryz.prog.info? 72).map (·.size)=some (u8s (blk (full s) (o+j))).size):=Lib.hid (by rw [size27,hbl])
     generalize wd.setRow wr.heap.size (u8s (blk (full s) (o+j)))=we at *
     clear hJ2 hR hbel hbl hext
     obtain⟨fn,tmps,assign,body,hy,hRI⟩:=hY _ (blk (full s) (o+j)) we hJ3 (blk_len (by have:=HMm.out;omega)) (by rw [tells_len];omega)
     go_upto_region 9 with(fail)
     refine(wpIn_wide (n:=3)).1 ?_
     gi_step
     gi_step
     gi_step
     gi_step
     with_reducible refine wpListIn_loadRow (op:=⟨some 40,.load 72 (.tmp 7),_,_,_,none⟩) rfl 72 (.tmp 7) rfl wr.heap.size ?_ hR3 Tryz.underlying72 rfl hI.out ?_
     ·rfl
     go_simp
     gi_wp2
     refine hRI.mono ?_
     rintro e W3 (⟨rfl,hJ4,hk4⟩ | ⟨rfl,hJx4⟩)
     ·gi_wp2
      go_wp2_with fail
      go_roundw
      case rel=>exact⟨j+1,by omega,int_i64 (by have:=HT.out;omega),by rw [← Nat.add_assoc,tells_succ];exact hJ4⟩
      case measure=>have:=HT.out;simp [intOf];omega
     ·gi_wp2
      go_wp2_with fail
      refine bodyPost_ret (results_none rfl _ _ _) rfl ?_
      refine⟨⟨_,rfl⟩,.inr ⟨_,?_,hJx4⟩⟩
      rw [← tells_succ]
      exact tells_prefix _ _ _ (by omega)
    ·have hj9:j=cnt:=by omega
     subst hj9
     obtain⟨t,ht⟩:∃ t,t=64*j:=⟨_,rfl⟩
     rw [← ht]
     have has:=HAS.out
     have hd2:decide ((t:Int)<(A.size:Int))=false:=by simp;omega
     have hd3:¬ t<A.size:=by omega
     clear ht has
     go_wp2_with fail
     go_roundw
     case rel=>exact⟨p+1,by omega,by go_num,by rw [HO.out];exact hJ1⟩
     case measure=>simp [intOf];omega
  ·have hp9:p=2:=by omega
   subst hp9
   go_wp2_with fail
   go_end0
   exact⟨⟨_,rfl⟩,.inl ⟨_,rfl,hJ1⟩⟩
theorem blocks_any(s:ByteArray)(w:World) :
  Calls Tryz.prog 23 #[.string s] w fun e w'=>e=.returned (.func (.func 42) #[] #[.pointer (some ⟨w.heap.size,0,none⟩)])∧w'=w.alloc (.cells #[.string s] 9):=by
 go_enter Tryz.func23,Tryz.ntmps23
 go_wp2
 go_ret
 exact⟨rfl,rfl⟩
abbrev Blk:={ x:List UInt8 // x.length=64 }
def vals(l:List Blk):List (List UInt8):=l.map (·.1)
theorem vals_snoc(l:List Blk)(x:Blk):vals (l++[x])=vals l++[x.1]:=by simp [vals]
theorem vals_len(l:List Blk):(vals l).length=l.length:=by simp [vals]
theorem YieldAt.mono{F:Fence}{m:Nat}{P:Program}{l:Nat}{args:Array Value}{W:World}{R R':Ending→World→Prop}(h:YieldAt F m P l args W R)(hR:∀ e w,R e w→R' e w):YieldAt F m P l args W R':=by
 obtain⟨fn,tmps,assign,body,h1,h2⟩:=h
 exact⟨fn,tmps,assign,body,h1,h2.mono hR⟩
theorem blocks_stops(Bn n₀:Nat)(s:ByteArray)(hs:s.size≤1073741824)(w:World)(hBn:Bn<w.heap.size)(hc:w.cell? ⟨Bn,0,none⟩=some (.string s)) :
  SeqStopsK Fence.wide 3 Tryz.prog 42 #[.pointer (some ⟨Bn,0,none⟩)] (fun x:Blk=>#[Value.agg (u8s x.1)]) (Below n₀) (fun ys=>vals ys=tells (full s) ((full s).length / 64)) (fun _=>True) 100000000 w:=fun l J Jx W hW hJ _ hY h0=>by
 refine(blocks1_in l Bn s hs W.heap.size (fun p W'=>∃ q:List Blk,vals q=p∧J q W') (fun p W'=>∃ q:List Blk,vals q=p∧Jx q W') n₀
  (fun p A B row ⟨q,hq,hJq⟩ hg hr=>⟨q,hq,hJ q A B row hJq hg hr⟩) ?_ W ((hW.cell (p:=⟨Bn,0,none⟩) hBn).trans hc) ⟨[],rfl,h0⟩).mono ?_
 ·rintro pre x W1 ⟨q,rfl,hq⟩ hx hl
  refine YieldAt.mono (hY q ⟨x,hx⟩ W1 hq (by rwa [vals_len] at hl)) ?_
  rintro e W2 (⟨rfl,h1,h2⟩ | ⟨rfl,h1⟩)
  ·exact .inl ⟨rfl,⟨q++[⟨x,hx⟩],vals_snoc _ _,h1⟩,h2⟩
  ·exact .inr ⟨rfl,⟨q++[⟨x,hx⟩],vals_snoc _ _,h1⟩⟩
 ·rintro e W2 ⟨hv,(⟨ys,rfl,q,hq,hJq⟩ | ⟨pre,_,q,_,hJq⟩)⟩
  ·exact⟨hv,.inl ⟨q,hq,hJq⟩⟩
  ·exact⟨hv,.inr ⟨q,trivial,hJq⟩⟩
structure Held (W:World) (g7 g6 g5 n:Nat) (r:St) (k wv:Nat):Prop where
 a:W.cell? ⟨g7,0,none⟩=some (.int .u32 (r.a:Int))
 b:W.cell? ⟨g7,1,none⟩=some (.int .u32 (r.b:Int))
 c:W.cell? ⟨g7,2,none⟩=some (.int .u32 (r.c:Int))
 d:W.cell? ⟨g7,3,none⟩=some (.int .u32 (r.d:Int))
 e:W.cell? ⟨g7,4,none⟩=some (.int .u32 (r.e:Int))
 f:W.cell? ⟨g7,5,none⟩=some (.int .u32 (r.f:Int))
 g:W.cell? ⟨g7,6,none⟩=some (.int .u32 (r.g:Int))
 h:W.cell? ⟨g7,7,none⟩=some (.int .u32 (r.h:Int))
 k:W.cell? ⟨g6,n,none⟩=some (.int .u32 (k:Int))
 w:W.cell? ⟨g5,n,none⟩=some (.int .u32 (wv:Int))
theorem Held.drewN{W:World}{g7 g6 g5 n:Nat}{r:St}{k wv:Nat}(x:Held W g7 g6 g5 n r k wv)(m:Nat):Held (W.drewN m) g7 g6 g5 n r k wv:=⟨x.a,x.b,x.c,x.d,x.e,x.f,x.g,x.h,x.k,x.w⟩
structure Mem (w W:World) (n3:Nat) (hs:List Nat) (ws:List Nat) (v:List Nat):Prop where
 below:Below w.heap.size w W
 r2:Row W w.heap.size 65 (u32s hs)
 r4:Row W (w.heap.size+1+1) 65 (u32s z8)
 r5:Row W n3 99 (u32s ws)
 r6:Row W (n3+1) 99 (u32s cubes)
 r7:Row W (n3+1+1) 65 (u32s v)
theorem Mem.drewN{w W:World}{n3:Nat}{hs ws v:List Nat}(x:Mem w W n3 hs ws v)(m:Nat):Mem w (W.drewN m) n3 hs ws v:=⟨belowN x.below m,x.r2,x.r4,x.r5,x.r6,x.r7⟩
theorem Mem.held{w W:World}{n3:Nat}{hs ws:List Nat}{r:St}(x:Mem w W n3 hs ws r.list){n:Nat}(hn:n<64)(hl:ws.length=64):Held W (n3+1+1) (n3+1) n3 n r (cubes.getD n 0) (ws.getD n 0) :=
 ⟨x.r7.word 0 (by simp [St.list]),x.r7.word 1 (by simp [St.list]),x.r7.word 2 (by simp [St.list]),x.r7.word 3 (by simp [St.list]),x.r7.word 4 (by simp [St.list]),x.r7.word 5 (by simp [St.list]),x.r7.word 6 (by simp [St.list]),x.r7.word 7 (by simp [St.list]),
  x.r6.word n (by rw [cubes_len];exact hn),x.r5.word n (by rw [hl];exact hn)⟩
theorem Mem.put{w W:World}{n3:Nat}{hs ws v:List Nat}(x:Mem w W n3 hs ws v)(hn:w.heap.size+1+1<n3)(v':List Nat):Mem w (W.setRow (n3+1+1) (u32s v')) n3 hs ws v' :=
 ⟨below_setRow x.below (by omega) _,x.r2.putApart (by omega) _,x.r4.putApart (by omega) _,x.r5.putApart (by omega) _,x.r6.putApart (by omega) _,x.r7.put _⟩
end Go.Proofs.YtekogckmgkodfaaGreatDoor.Sha
namespace Go.Proofs.YtekogckmgkodfaaGreatDoor.Sha
open Go.RowKit Go.Shelf
attribute [local go_sem] Oper.semAt_some
theorem Start_any(w:World):Calls Tryz.prog 21 #[] w fun e w'=>e=.returned (.agg (u32s start))∧Below w.heap.size w w':=by
 have hz:=zero29
 go_enter Tryz.func21,Tryz.ntmps21
 go_upto_region 1 with(fail)
 have hR:=Row.new w 67 (u32s z8)
 go_step
 refine wpList_buildTo rfl 65 _ rfl (some 1) rfl (u32s start) (by kernel_rfl) ?_
 go_simp
 refine wpList_buildTo rfl 67 _ rfl (some 2) rfl (u32s start) (by kernel_rfl) ?_
 go_simp
 have hI:(Tryz.prog.info? 67).map (·.size)=some (u32s start).size:=by rw [size29,u32s_size,start_len]
 have hB2:=below_setRow ((Below.refl _ w).alloc (Nat.le_refl _) (.cells (u32s z8) 67)) (g:=w.heap.size) (Nat.le_refl _) (u32s start)
 have hR2:=hR.put (u32s start)
 have HI:=Lib.hid hI
 have HO:=Lib.hid (show(u32s z8).size=(u32s start).size by rw [u32s_size,u32s_size];rfl)
 have H19:=Lib.hid (u32s_one start)
 clear hI
 with_reducible refine wpList_storeRow (op:=⟨none,.store 67 (.tmp 0) (.tmp 2),_,_,_,none⟩) rfl 67 (.tmp 0) (.tmp 2) rfl w.heap.size ?_ (cs:=u32s start) ?_ hR HI.out HO.out H19.out ?_
 ·rfl
 ·rfl
 go_simp
 go_wp2_with fail
 exact bodyPost_ret (v:=.agg (u32s start)) (results_row rfl rfl hR2 Tryz.underlying67 rfl HI.out) rfl ⟨rfl,hB2⟩
def fold(l:List (List UInt8)):List Nat:=l.foldl block start
theorem fold_snoc(l:List (List UInt8))(b:List UInt8):fold (l++[b])=block (fold l) b:=by simp [fold]
theorem fold_len:∀ l:List (List UInt8),(fold l).length=8:=by
 have h:∀ (l:List (List UInt8)) (s:List Nat),s.length=8→(l.foldl block s).length=8:=by
  intro l
  induction l with
  | nil=>exact fun s h=>h
  | cons b l ih=>exact fun s h=>ih _ (by rw [block_len,h])
 exact fun l=>h l start rfl
theorem fold_words:∀ l:List (List UInt8),Words (fold l):=by
 have h:∀ (l:List (List UInt8)) (s:List Nat),Words s→Words (l.foldl block s):=by
  intro l
  induction l with
  | nil=>exact fun s h=>h
  | cons b l ih=>exact fun s h=>ih _ (block_words h b)
 exact fun l=>h l start start_words
theorem fold_tells(all:List UInt8):∀ n,fold (tells all n)=run all n
 | 0=>rfl
 | n+1=>by rw [tells_succ,fold_snoc,fold_tells all n];rfl
theorem sum_full(s:ByteArray):sum s.data.toList=bytes (fold (tells (full s) ((full s).length / 64))):=by rw [fold_tells];rfl
theorem Row.kept{W W':World}{g B:Nat}{t:TypeId}{cs:Array Value}{row:Option Nat}(h:Row W g t cs)(hg:W.grownBy W' row)(hr:∀ r,row=some r→B≤r∧∃ o:Obj,W.heap[r]? = some o∧o.isCells=false):Row W' g t cs:=by
 refine(hg.block g h.lt (fun e=>?_)).trans h
 obtain⟨_,_,ho,hc⟩:=hr g e.symm
 rw [show W.heap[g]? = _ from h] at ho
 cases ho
 cases hc
theorem keepsOthers_below{W W':World}(h:Below W.heap.size W W'):KeepsOthers W W' :=
 ⟨h.size,fun k _ hk _=>(h.block k (Array.getElem?_eq_some_iff.1 hk).1).trans hk⟩
theorem keepsOthers_setRow{W:World}{g:Nat}{t:TypeId}{old:Array Value}(h:Row W g t old)(cs:Array Value):KeepsOthers W (W.setRow g cs) :=
 ⟨by simp,fun k _ hk ho=>by
  have hne:k≠g:=fun e=>by
   subst e
   rw [show W.heap[k]? = _ from h] at hk
   cases hk
   cases ho
  rw [setRow_other _ _ _ _ hne];exact hk⟩
structure SumI (w W:World) (g3 g4:Nat) (pre:List Blk):Prop where
 st:Row W g3 67 (u32s (fold (vals pre)))
 kept:Boxed W g4 63 (.func (.func 22) #[.agg (u32s (fold (vals pre)))] #[])
 below:Below w.heap.size w W
 size:g4+2≤W.heap.size
theorem Sum_in(s:ByteArray)(hs:s.size≤1073741824)(w:World)(hG:Cubes w) :
  CallsIn Fence.wide 4 Tryz.prog 10 #[.string s] w fun e w'=>e=.returned (.string ⟨(sum s.data.toList).toArray⟩)∧Below w.heap.size w w':=by
 have hz:=zero29
 refine callsIn_of_wp_marks Tryz.func10 rfl trivial ?_ rfl
 simp only [Tryz.ntmps10,List.size_toArray,List.length_cons,List.length_nil,Nat.reduceAdd,Nat.reduceSub,Array.replicate_succ,Array.replicate_zero,List.push_toArray,List.append_toArray,List.nil_append,List.cons_append]
 refine(wpIn_wide (n:=4)).2 ?_
 have HI:Hid ((Tryz.prog.info? 67).map (·.size)=some (u32s start).size):=Lib.hid (by rw [size29,u32s_size,start_len])
 have HO:Hid ((u32s z8).size=(u32s start).size):=Lib.hid (by rw [u32s_size,u32s_size];rfl)
 have H1:Hid ((u32s start).all (·.oneCell')=true):=Lib.hid (u32s_one start)
 go_upto_region 2 with(first | ((with_reducible refine(Start_any _).mono ?_);rintro e w1 ⟨rfl,hb1⟩;have hR1:=Row.new w1 67 (u32s z8)) | ((with_reducible refine wpList_storeRow (op:=⟨none,.store 67 (.tmp 3) (.tmp 6),_,_,_,none⟩) rfl 67 (.tmp 3) (.tmp 6) rfl w1.heap.size ?_ (cs:=u32s start) ?_ hR1 HI.out HO.out H1.out ?_);(rfl;rfl)))
 have hR2:=hR1.put (u32s start)
 have hB2:Below w.heap.size w ((w1.alloc (.cells (u32s z8) 67)).setRow w1.heap.size (u32s start)):=below_setRow (hb1.alloc hb1.size _) hb1.size _
 have hS2:=Lib.hid (show((w1.alloc (.cells (u32s z8) 67)).setRow w1.heap.size (u32s start)).heap.size=w1.heap.size+1 by simp)
 have hn1:w.heap.size≤w1.heap.size:=hb1.size
 generalize (w1.alloc (.cells (u32s z8) 67)).setRow w1.heap.size (u32s start)=w2 at *
 generalize w1.heap.size=g3 at *
 clear hR1 hb1
 go_wp2_with (first | ((with_reducible refine wpList_loadRow (op:=⟨some 7,.load 67 (.tmp 3),_,_,_,none⟩) rfl 67 (.tmp 3) rfl g3 ?_ hR2 Tryz.underlying67 rfl HI.out ?_);rfl) | ((with_reducible refine(blocks_any s _).mono ?_);rintro e w3 ⟨rfl,rfl⟩))
 generalize hW0:(w2.alloc (Obj.cells #[Value.func (Fn.func 22) #[Value.agg (u32s start)] #[]] 63)).alloc (Obj.cells #[Value.string s] 9)=W0
 have h2:=hS2.out
 have hI0:SumI w W0 g3 w2.heap.size []:=by
  rw [← hW0]
  exact⟨(hR2.alloc _).alloc _,(Boxed.new _ _ _).alloc _,(hB2.alloc (by omega) _).alloc (by simp;omega) _,by simp⟩
 have hsz0:W0.heap.size=w2.heap.size+2:=by rw [← hW0];simp
 have hc0:W0.cell? ⟨w2.heap.size+1,0,none⟩=some (.string s):=by
  rw [← hW0]
  exact World.cell?_alloc_at _ _ _ _ (by simp)
 have hg34:g3<w2.heap.size:=hR2.lt
 generalize w2.heap.size=g4 at *
 clear hW0 hR2 hB2 hS2 h2
 have hnW:w.heap.size≤W0.heap.size:=by omega
 refine(wpIn_wide (n:=4)).1 ?_
 refine wpIn_rangeFunc_ownH (F:=Fence.wide) rfl (by omega) (gf:=42) (lb:=#[.pointer (some ⟨g4+1,0,none⟩)]) rfl trivial (enters_of Tryz.func42 (by kernel_rfl) rfl)
  (blocks_stops (g4+1) w.heap.size s hs W0 (by omega) hc0) belowK_t (belowK_b hnW) (Below.refl _ _) (fun _=>rfl)
  (fun(pre:List Blk) W=>SumI w W g3 g4 pre)
  (fun _ _ _=>False)
  (fun pre X Y row hI hg hr=>⟨hI.st.kept hg hr,hI.kept.kept hg (fun e=>by
    obtain⟨_,_,ho,hc⟩:=hr g4 e.symm
    rw [show X.heap[g4]? = _ from hI.kept] at ho
    cases ho;cases hc),hI.below.grown hg hI.below.size (fun k e=>by have:=(hr k e).1;omega),by have:=hg.size;have:=hI.size;omega⟩)
  (fun _ _ _ _ _ hs _ _=>hs)
  hI0
  (fun x a' W=>∃ B,g4+1<B∧Row W B 72 (u8s x.1)∧a'={ tmps:=#[.string s,undef,.string { data:=#[] },.pointer (some ⟨g3,0,none⟩),.pointer (some ⟨g4,0,none⟩),.pointer (some ⟨B,0,none⟩),.agg (u32s start),.agg (u32s start),.func (.func 22) #[.agg (u32s start)] #[],.string s,.func (.func 42) #[] #[.pointer (some ⟨g4+1,0,none⟩)],.agg (u8s x.1),undef,undef,undef,undef,undef,undef,undef],defers:=[] })
  (fun x a' _ X Y row ⟨B,h1,h2,h3⟩ hg hr=>⟨B,h1,h2.kept hg hr,h3⟩)
  ?assign ?body ?done ?stop
 case assign =>
  intro l pre x W K hI hK
  have hz2:=zero27
  have hRn:=Row.new W 72 (u8s b64)
  have hxI:Hid ((Tryz.prog.info? 72).map (·.size)=some (u8s x.1).size):=Lib.hid (by rw [size27,u8s_size,x.2])
  have hxO:Hid ((u8s b64).size=(u8s x.1).size):=Lib.hid (by rw [u8s_size,u8s_size,x.2,b64_len])
  have hx1:Hid ((u8s x.1).all (·.oneCell')=true):=Lib.hid (u8s_one _)
  have hl3:=hI.st.lt
  have hl4:g4<W.heap.size:=hI.kept.lt
  have hKK:=hK _ ((W.alloc (.cells (u8s b64) 72)).setRow W.heap.size (u8s x.1))
   (((KeepsOthers.alloc W _).trans (keepsOthers_setRow hRn (u8s x.1))).from _)
   (below_setRow ((Below.refl w.heap.size W).alloc hI.below.size _) hI.below.size _)
   ⟨(hI.st.alloc _).putApart (by omega) _,(show Row _ _ _ _ from hI.kept.alloc _).putApart (by omega) _,below_setRow (hI.below.alloc hI.below.size _) hI.below.size _,by have:=hI.size;simp;omega⟩
   ⟨W.heap.size,by have:=hI.size;omega,hRn.put _,rfl⟩
  have HK:=Lib.hid hKK
  clear hKK hK hl3 hl4
  gi_wp2_with ((with_reducible refine wpListIn_storeRow (op:=⟨none,.store 72 (.tmp 5) (.tmp 11),_,_,_,none⟩) rfl 72 (.tmp 5) (.tmp 11) rfl W.heap.size ?_ (cs:=u8s x.1) ?_ hRn hxI.out hxO.out hx1.out ?_);(rfl;rfl))
  exact HK.out
 case body =>
  rintro l pre x a' W hl ⟨r,hr⟩ hI ⟨B,hB1,hB2,rfl⟩ hlt
  have hfl:=fold_len (vals pre)
  have hfw:=fold_words (vals pre)
  have HF:Hid (fold (vals (pre++[x]))=block (fold (vals pre)) x.1):=Lib.hid (by rw [vals_snoc,fold_snoc])
  have hst:=hI.st
  have hkp:=hI.kept
  have hG9:=hG.below hI.below
  have hbs:=hI.below.size
  have hsz:=hI.size
  have hbI:=hI.below
  have hx9:=x.2
  clear hI hI0
  generalize fold (vals pre)=f at *
  obtain⟨xb,hxb⟩:∃ xb,xb=x.1:=⟨_,rfl⟩
  rw [← hxb] at HF hB2 hx9 ⊢
  clear hxb
  have hfI:Hid ((Tryz.prog.info? 67).map (·.size)=some (u32s f).size):=Lib.hid (by rw [size29,u32s_size,hfl])
  have hxI:Hid ((Tryz.prog.info? 72).map (·.size)=some (u8s xb).size):=Lib.hid (by rw [size27,u8s_size,hx9])
  have hbI9:Hid ((Tryz.prog.info? 67).map (·.size)=some (u32s (block f xb)).size):=Lib.hid (by rw [size29,u32s_size,block_len,hfl])
  have hbO:Hid ((u32s f).size=(u32s (block f xb)).size):=Lib.hid (by rw [u32s_size,u32s_size,block_len])
  have hb1:Hid ((u32s (block f xb)).all (·.oneCell')=true):=Lib.hid (u32s_one _)
  have hblk:=fun W' (hG':Cubes W')=>Block_any f xb hfl hfw hx9 W' hG'
  have HBL:=Lib.hid hblk
  have h3:=hst.lt
  have h4:g4<W.heap.size:=hkp.lt
  clear hblk hfl hfw hx9
  gi_wp2_with (first
   | ((with_reducible refine wpListIn_loadRow (op:=⟨some 12,.load 67 (.tmp 3),_,_,_,none⟩) rfl 67 (.tmp 3) rfl g3 ?_ hst Tryz.underlying67 rfl hfI.out ?_);rfl)
   | ((with_reducible refine wpListIn_loadRow (op:=⟨some 13,.load 72 (.tmp 5),_,_,_,none⟩) rfl 72 (.tmp 5) rfl B ?_ hB2 Tryz.underlying72 rfl hxI.out ?_);rfl))
  refine⟨trivial,?_⟩
  refine(CallsIn.inRound l ((callsIn_wide (n:=1)).2 (HBL.out _ hG9))).mono ?_
  rintro e w3 ⟨rfl,hb3⟩
  have hst3:=hst.below hb3 h3
  have hkp3:Boxed w3 g4 _ _:=(show Row _ _ _ _ from hkp).below hb3 h4
  have hst4:=hst3.put (u32s (block f xb))
  have hkp4:Boxed (w3.setRow g3 (u32s (block f xb))) g4 _ _:=(show Row _ _ _ _ from hkp3).putApart (by omega) _
  have hc4:=hkp4.cell
  have hf4:=hkp4.frozen
  gi_wp2_with (first
   | ((with_reducible refine wpListIn_storeRow (op:=⟨none,.store 67 (.tmp 3) (.tmp 14),_,_,_,none⟩) rfl 67 (.tmp 3) (.tmp 14) rfl g3 ?_ (cs:=u32s (block f xb)) ?_ hst3 hbI9.out hbO.out hb1.out ?_);(rfl;rfl))
   | ((with_reducible refine wpListIn_loadRow (op:=⟨some 15,.load 67 (.tmp 3),_,_,_,none⟩) rfl 67 (.tmp 3) rfl g3 ?_ hst4 Tryz.underlying67 rfl hbI9.out ?_);rfl))
  have hset:=hkp4.set (.func (.func 22) #[.agg (u32s (block f xb))] #[])
  have hstA:=hst4.apart (show g3≠g4 by omega) 0 (.func (.func 22) #[.agg (u32s (block f xb))] #[])
  have hbel:=(below_setRow (hb3.mono hbs) (g:=g3) (by omega) (u32s (block f xb))).setCell (p:=⟨g4,0,none⟩) (by simp;omega) (.func (.func 22) #[.agg (u32s (block f xb))] #[])
  refine⟨(((keepsOthers_below hb3).trans (keepsOthers_setRow hst3 _)).trans (KeepsOthers.setCell _ _ _)).from _,hbel,?_⟩
  refine⟨?_,?_,hbI.trans hbel,?_⟩
  ·rw [HF.out];exact hstA
  ·rw [HF.out];exact hset
  ·have:=hb3.size
   simp [World.setCell]
   omega
 case done =>
  rintro D ys W hD hys hI hK
  have hc:=hI.kept.cell
  have hfl:=fold_len (vals ys)
  have hfw:=fold_words (vals ys)
  have HS:=Lib.hid (sum_full s)
  rw [← hys] at HS
  have hDlt:D<W.heap.size:=(Array.getElem?_eq_some_iff.1 hK).1
  have hbI:=hI.below
  clear hI hI0 hys
  generalize fold (vals ys)=f at *
  have HBY:=Lib.hid (fun W'=>Bytes_any f hfl hfw W')
  clear hfl hfw
  go_wp2_with (go_at_call 22;refine(HBY.out _).mono ?_;rintro e w4 ⟨rfl,hb4⟩)
  have hK4:=(hb4.block D hDlt).trans hK
  refine⟨by simp,.inl ⟨_,_,rfl,run_takeDeferred hK4,?_⟩⟩
  exact⟨_,results_tmp (t:=2) rfl _ _ _,ret_str (by rw [HS.out]),(hbI.trans (hb4.mono hbI.size)).trans (belowK_b (w:=W0) hnW w4 D _ _ hD hK4 rfl rfl)⟩
 case stop =>
  rintro D c pre W _ _ h _
  exact h.elim
theorem Sum_any(s:ByteArray)(hs:s.size≤1073741824)(w:World)(hG:Cubes w) :
  Calls Tryz.prog 10 #[.string s] w fun e w'=>e=.returned (.string ⟨(sum s.data.toList).toArray⟩)∧Below w.heap.size w w' :=
 (callsIn_wide (n:=4)).1 (Sum_in s hs w hG)
end Go.Proofs.YtekogckmgkodfaaGreatDoor.Sha
namespace Go.Proofs.YtekogckmgkodfaaGreatDoor.Sha
open Go.RowKit
def part(b:List UInt8)(i:Nat):List UInt8:=b.take i++List.replicate (64-i) 0
theorem part_zero(b:List UInt8):part b 0=b64:=by simp [part,b64]
theorem part_all{b:List UInt8}(h:b.length=64):part b 64=b:=by simp [part];exact List.take_of_length_le (by omega)
theorem part_len{b:List UInt8}(h:b.length=64)(i:Nat)(hi:i≤64):(part b i).length=64:=by
 rw [part,List.length_append,List.length_take,List.length_replicate];omega
theorem part_succ{b:List UInt8}(h:b.length=64)(i:Nat)(hi:i<64):(part b i).set i (b.getD i 0)=part b (i+1):=by
 unfold part
 rw [List.set_append_right _ _ (by rw [List.length_take];omega),List.length_take,Nat.min_eq_left (by omega),Nat.sub_self,show 64-i=(64-(i+1))+1 by omega,List.replicate_succ,List.set_cons_zero,
  List.take_succ_eq_append_getElem (by omega),List.append_assoc,List.getD_eq_getElem?_getD,List.getElem?_eq_getElem (by omega)]
 rfl
theorem blk_at(all:List UInt8)(n i:Nat)(hi:i<64):(blk all n).getD i 0=all.getD (64*n+i) 0:=by
 simp only [List.getD_eq_getElem?_getD]
 rw [blk,List.getElem?_take_of_lt hi,List.getElem?_drop]
end Go.Proofs.YtekogckmgkodfaaGreatDoor.Sha
