/-
  The blocks of a text and its pad, told from the left: a range over a function.
  A block's words, walked: by the reference.
  A block, walked: the state behind it, by the reference.
  The digest of a text, walked: by the program, block by block as an iterator tells them.
  The digest of a text, walked: by the reference.
-/
import Derived.RangeFuncNested
import Derived.RangeFuncBound
import Derived.RangeFuncCalls
import Derived.RangeFuncLeaves
import Derived.Shelf.Abstract
import Derived.OwnWalkIn
import Derived.TacticsInMore
import Derived.LoopNIn
import Derived.LoopIn
import Derived.Lib.Strings
import Derived.Laws.CopyRow
import Derived.Test.YtekogckmgkodfaaDoorShaG
import Derived.Great.BuildSlice
import Derived.Laws.EntriesVeiled
set_option maxRecDepth 100000
set_option maxHeartbeats 2000000
namespace Go.Proofs.YtekogckmgkodfaaDoor.Sha
open Go.RowKit
theorem b64_len:b64.length=64:=by simp [b64]
def blk(all:List UInt8)(i:Nat):List UInt8:=(all.drop (64*i)).take 64
def tells(all:List UInt8)(n:Nat):List (List UInt8):=(List.range n).map (blk all)
theorem tells_zero(all:List UInt8):tells all 0=[]:=rfl
theorem tells_succ(all:List UInt8)(n:Nat):tells all (n+1)=tells all n++[blk all n]:=by simp [tells,List.range_succ]
theorem tells_len(all:List UInt8)(n:Nat):(tells all n).length=n:=by simp [tells]
theorem tells_prefix(all:List UInt8)(n m:Nat)(h:n≤m):tells all n <+: tells all m:=by
 obtain⟨k,rfl⟩:∃ k,m=n+k:=⟨m-n,by omega⟩
 exact⟨(List.range k).map (fun i=>blk all (n+i)),by simp [tells,List.range_add]⟩
theorem blk_len{all:List UInt8}{i:Nat}(h:64*i+64≤all.length):(blk all i).length=64:=by
 rw [blk,List.length_take,List.length_drop];omega
theorem grown_of_below{w w':World}(h:Below w.heap.size w w'):w.grownBy w' none:=⟨h.os,h.tape,h.output,h.size,fun k hk _=>h.block k hk⟩
theorem AbidesFrom.grow{β:Type}{B:Nat}{J:β→World→Prop}(h:AbidesFrom B J){s:β}{w w':World}(hs:J s w)(hb:Below w.heap.size w w'):J s w' :=
 h s w w' none hs (grown_of_below hb) (fun r e=>by cases e)
theorem run_copy64(w:World)(ty:TypeId)(g:Nat)(cur:Array Value)(t:TypeId)(s:ByteArray)(hs:64≤s.size)(hg:Row w g t cur)(hc:cur.size=64) :
  (Builtin.copy_ #[57,9] ty #[.slice (some ⟨g,0,none⟩) 64 64,.string s]).run Tryd.prog w=.ok (goInt 64) (w.setRow g (u8s (s.data.toList.take 64))):=by
 have hl:(s.data.toList.take 64).length=64:=by
  rw [List.length_take,show s.data.toList.length=s.size from rfl];omega
 have hst:=run_storeCells_from (P:=Tryd.prog) g t ((s.data.toList.take 64).map fun x=>Value.int .u8 (x.toNat:Int)) 0 cur w hg (by rw [List.length_map,hl,hc]) (by
  intro v hv
  obtain⟨x,_,rfl⟩:=List.mem_map.1 hv
  rfl)
 have hmin:Nat.min s.size 64=64:=Nat.min_eq_right hs
 have hsz:∀ w:World,(sizeOf 5).run Tryd.prog w=.ok 1 w:=fun w=>by kernel_rfl
 have e:(List.take 0 cur.toList++(s.data.toList.take 64).map fun x=>Value.int .u8 (x.toNat:Int)).toArray=u8s (s.data.toList.take 64):=by simp [u8s]
 rw [e] at hst
 simp [Builtin.copy_,run_underlying Tryd.underlying57,Builtin.lenOf,Builtin.firstCells,hsz,hmin]
 rw [← List.map_take,hst]
 simp [Result.andThen]
theorem wpList_copy64{ops:Array Oper}{rest:List Oper}{op:Oper}{a:Act}{w:World}{Q:Exit→Act→World→Prop}(hgd:op.guard=none)(d x:Operand)
  (ho:op.op=.call { callee:=.builtin .copy,args:=#[d,x],argTypes:=#[57,9] })
  (g:Nat) (hd:a.eval d=.slice (some ⟨g,0,none⟩) 64 64) (s:ByteArray) (hx:a.eval x=.string s) (hs:64≤s.size) {t:TypeId} {cur:Array Value} (hg:Row w g t cur) (hc:cur.size=64)
  (h:wpList Tryd.prog ops Q rest (a.put op.dst (goInt 64)) (w.setRow g (u8s (s.data.toList.take 64)))):wpList Tryd.prog ops Q (op::rest) a w:=by
 refine wpList_plain hgd fun _ hK=>?_
 have hr:=run_copy64 w op.type g cur t s hs hg hc
 unfold Oper.wp execOp
 simp only [ho,resolve,invoke,builtin,Sem.run_bind,Sem.run_pure,Result.andThen_ok,List.map_toArray,List.map_cons,List.map_nil,hd,hx,hr]
 exact hK _ _ h
theorem wpListIn_loadRow{F:Fence}{n:Nat}{P:Program}{ops:Array Oper}{rest:List Oper}{op:Oper}{a:Act}{w:World}{Q:Exit→Act→World→Prop}(hgd:op.guard=none)(ty:TypeId)(x:Operand)(ho:op.op=.load ty x)
  (g:Nat) (hx:a.eval x=.pointer (some ⟨g,0,none⟩)) {t:TypeId} {cs:Array Value} (hr:Row w g t cs) {d:TypeDesc}
  (hu:P.underlying ty=some d) (hd:d.isRow=true) (hi:(P.info? ty).map (·.size)=some cs.size)
  (h:wpListIn F n P ops Q rest (a.put op.dst (.agg cs)) w):wpListIn F n P ops Q (op::rest) a w:=by
 refine wpListIn_plain hgd fun K hK=>?_
 unfold Oper.wpIn
 refine⟨by simp [Oper.about,ho],?_⟩
 rw [Oper.semAt_plain F _ _ (by rw [ho];intro c hc';cases hc')]
 unfold execOp
 simp only [ho,hx,Sem.run_bind,hr.load d hu hd hi,Result.andThen_ok]
 exact hK _ _ h
theorem wpListIn_storeRow{F:Fence}{n:Nat}{P:Program}{ops:Array Oper}{rest:List Oper}{op:Oper}{a:Act}{w:World}{Q:Exit→Act→World→Prop}(hgd:op.guard=none)(ty:TypeId)(x y:Operand)(ho:op.op=.store ty x y)
  (g:Nat) (hx:a.eval x=.pointer (some ⟨g,0,none⟩)) {cs:Array Value} (hy:a.eval y=.agg cs) {t:TypeId} {old:Array Value} (hr:Row w g t old)
  (hi:(P.info? ty).map (·.size)=some cs.size) (hold:old.size=cs.size) (h1:cs.all (·.oneCell')=true)
  (h:wpListIn F n P ops Q rest (a.put op.dst undef) (w.setRow g cs)):wpListIn F n P ops Q (op::rest) a w:=by
 refine wpListIn_plain hgd fun K hK=>?_
 unfold Oper.wpIn
 refine⟨by simp [Oper.about,ho],?_⟩
 rw [Oper.semAt_plain F _ _ (by rw [ho];intro c hc';cases hc')]
 unfold execOp
 simp only [ho,hx,hy,Sem.run_bind,hr.store hi hold h1,Result.andThen_ok]
 exact hK _ _ h
def full(s:ByteArray):List UInt8:=s.data.toList++pad s.size
theorem full_len(s:ByteArray):(full s).length%64=0:=by
 rw [full,List.length_append,show s.data.toList.length=s.size from rfl];exact pad_fits s.size
theorem bytes_part(A S:ByteArray)(all:List UInt8)(o j:Nat)(hA:A.data.toList=(all.drop (64*o)).take A.size)(hj:64*j+64≤A.size)(h:S.data.toList=A.data.toList.drop (64*j)) :
  S.data.toList.take 64=blk all (o+j):=by
 rw [h,hA,blk,List.drop_take,List.take_take,List.drop_drop,show 64*o+64*j=64*(o+j) by omega]
 congr 1
 omega
def offOf(q m p:Nat):Nat:=if p=0 then 0 else if p=1 then q else m
theorem index53_0(A B:ByteArray)(W:World):(Instr.index 68 (.agg #[.string A,.string B]) (.int .i64 ((0:Nat):Int))).run Tryd.prog W=.ok (.string A) W:=by kernel_rfl
theorem index53_1(A B:ByteArray)(W:World):(Instr.index 68 (.agg #[.string A,.string B]) (.int .i64 ((1:Nat):Int))).run Tryd.prog W=.ok (.string B) W:=by kernel_rfl
theorem blocks1_in(l Bn:Nat)(s:ByteArray)(hs:s.size≤1073741824)(B:Nat)(J Jx:List (List UInt8)→World→Prop)(n₀:Nat)
  (hJ:AbidesFrom B J)
  (hY:∀ pre x W,J pre W→x.length=64→pre.length<100000000→YieldAt Fence.wide 2 Tryd.prog l #[.agg (u8s x)] W fun e W' =>
   (e=.returned (.bool true)∧J (pre++[x]) W'∧Below n₀ W W')∨(e=.returned (.bool false)∧Jx (pre++[x]) W'))
  (W:World) (hBn:W.cell? ⟨Bn,0,none⟩=some (.string s)) (h0:J [] W) :
  CallsIn Fence.wide 3 Tryd.prog 35 #[.func (.yield l) #[] #[],.pointer (some ⟨Bn,0,none⟩)] W fun e W'=>(∃ v,e=.returned v) ∧
   ((∃ ys,ys=tells (full s) ((full s).length / 64)∧J ys W')∨(∃ pre,pre <+: tells (full s) ((full s).length / 64)∧Jx pre W')):=by
 obtain⟨q,hq⟩:∃ q,q=s.size / 64:=⟨_,rfl⟩
 obtain⟨r,hr⟩:∃ r,r=s.size%64:=⟨_,rfl⟩
 obtain⟨m,hm⟩:∃ m,m=(full s).length / 64:=⟨_,rfl⟩
 have hfl:=full_len s
 have hfull:(full s).length=s.size+(pad s.size).length:=by rw [full,List.length_append];rfl
 have hpl:=pad_len s.size
 have hwle:q*64≤s.size:=by omega
 have hx1:(s.extract 0 (q*64)).size=q*64:=by simp;omega
 have hx2:(s.extract (q*64) s.size).size=s.size-q*64:=by simp
 have hd1:(s.extract 0 (q*64)).data.toList=((full s).drop (64*0)).take (s.extract 0 (q*64)).size:=by
  rw [hx1,Lib.extract_data,full,Nat.mul_zero,List.drop_zero,List.drop_zero,Nat.sub_zero,List.take_append_of_le_length (by rw [show s.data.toList.length=s.size from rfl];omega)]
 have hd2:(s.extract (q*64) s.size++⟨(pad s.size).toArray⟩:ByteArray).data.toList=((full s).drop (64*q)).take (s.extract (q*64) s.size++⟨(pad s.size).toArray⟩:ByteArray).size:=by
  rw [ByteArray.size_append,hx2,size_list (pad s.size)]
  have e:(s.extract (q*64) s.size++⟨(pad s.size).toArray⟩:ByteArray).data.toList=s.data.toList.drop (q*64)++pad s.size:=by
   rw [ByteArray.data_append,Array.toList_append,Lib.extract_data,List.take_of_length_le (by rw [List.length_drop,show s.data.toList.length=s.size from rfl];omega)]
  rw [e,full,List.drop_append_of_le_length (by rw [show s.data.toList.length=s.size from rfl];omega),Nat.mul_comm 64 q,List.take_of_length_le]
  rw [List.length_append,List.length_drop,show s.data.toList.length=s.size from rfl]
  exact Nat.le_refl _
 have hrq:s.size=q*64+r:=by omega
 have hr64:r<64:=by omega
 obtain⟨wi,hwi⟩:∃ wi,wi=q*64:=⟨_,rfl⟩
 rw [← hwi] at hx1 hx2 hd1 hd2 hwle
 obtain⟨A1,hA1⟩:∃ A,A=s.extract 0 wi:=⟨_,rfl⟩
 obtain⟨X2,hX2⟩:∃ A,A=s.extract wi s.size:=⟨_,rfl⟩
 obtain⟨P,hP⟩:∃ A:ByteArray,A=⟨(pad s.size).toArray⟩:=⟨_,rfl⟩
 have hPs:P.size=(pad s.size).length:=by rw [hP,size_list]
 rw [← hA1] at hx1 hd1
 rw [← hX2] at hx2 hd2
 rw [← hP] at hd2
 have hpad:=fun W=>Pad_any s.size (by omega) W
 rw [← hP] at hpad
 obtain⟨A2,hA2⟩:∃ A,A=X2++P:=⟨_,rfl⟩
 rw [← hA2] at hd2
 have hA2s:A2.size=64*(m-q):=by rw [hA2,ByteArray.size_append,hx2,hPs];omega
 have hA1s:A1.size=64*q:=by omega
 have hqm:q≤m:=by omega
 have hm8:m≤20000000:=by omega
 have i1:(s.size:Int)%64=(r:Int):=by omega
 have i2:(s.size:Int)-(r:Int)=(wi:Int):=by omega
 have i3:(0:Int)≤(wi:Int):=by omega
 have i4:(wi:Int)≤(s.size:Int):=by omega
 have HPAD:=Lib.hid hpad
 have hcat:X2++P=A2:=hA2.symm
 have hext1:s.extract 0 wi=A1:=hA1.symm
 have hext2:s.extract wi s.size=X2:=hX2.symm
 have hgt:¬ (9223372036854775807<X2.size+P.size):=by omega
 have HD1:=Lib.hid hd1
 have HD2:=Lib.hid hd2
 have HA1:=Lib.hid hA1s
 have HA2:=Lib.hid hA2s
 have HMm:=Lib.hid hm
 rw [← hm]
 clear hpad hA1 hX2 hP hA2 hPs hd1 hd2 hA1s hA2s hwi hrq hq hr hm hx1 hx2 hpl hfl hfull
 have hBlt:=World.block_lt_of_cell? W _ hBn
 refine callsIn_wide.2 ?_
 go_enter Tryd.func35,Tryd.ntmps35
 go_wp2_with fail
 go_region_held3 (fun W'=>W'.cell? ⟨Bn,0,none⟩=some (.string s)) (first | exact hc1 | go_keep) (first | (go_at_call 36;(refine(HPAD.out _).mono ?_);rintro e w1 ⟨rfl,hb1⟩;have hc1:w1.cell? ⟨Bn,0,none⟩=some (.string s):=(hb1.cell (p:=⟨Bn,0,none⟩) hBlt).trans hBn))
 have hW1:Below W.heap.size W w1:=(Below.drew (Below.refl _ W)).trans hb1
 have hJ1:J (tells (full s) 0) w1:=AbidesFrom.grow hJ h0 hW1
 clear hcat hext1 hext2 hgt hc1 hb1 HPAD i1 i2 i3 i4
 have hz:=zero27
 go_wp2_with fail
 go_loopw [25] (fun i wr=>∃ p:Nat,p≤2∧i=.int .i64 p∧J (tells (full s) (offOf q m p)) wr) (fun i _=>2-(intOf i).toNat)
 case atStart=>exact⟨0,by omega,rfl,hJ1⟩
 case round =>
  clear hJ1 hW1
  obtain⟨p,hp,rfl,hJ1⟩:=hrel
  by_cases hlt:p<2
  ·obtain⟨A,o,cnt,hix,hAd,hAs,hoff,hoff',hcm⟩:∃ (A:ByteArray) (o cnt:Nat),(∀ W,(Instr.index 68 (.agg #[.string A1,.string A2]) (.int .i64 (p:Int))).run Tryd.prog W=.ok (.string A) W) ∧
     A.data.toList=((full s).drop (64*o)).take A.size∧A.size=64*cnt∧offOf q m p=o∧offOf q m (p+1)=o+cnt∧o+cnt≤m:=by
    rcases (show p=0∨p=1 by omega) with rfl | rfl
    ·exact⟨A1,0,q,fun W=>index53_0 A1 A2 W,HD1.out,HA1.out,rfl,by simp [offOf],by omega⟩
    ·exact⟨A2,q,m-q,fun W=>index53_1 A1 A2 W,HD2.out,HA2.out,rfl,by simp [offOf];omega,by omega⟩
   have hd:decide ((p:Int)<2)=true:=by simp;omega
   rw [hoff] at hJ1
   have HO:=Lib.hid hoff'
   have HAD:=Lib.hid hAd
   have HAS:=Lib.hid hAs
   have hA9:A.size≤1280000000:=by omega
   clear hoff hoff' hAd hAs
   go_wp2_with fail
   go_loopw [6] (fun a wr=>∃ j:Nat,j≤cnt∧a=.int .i64 ((64*j:Nat):Int)∧J (tells (full s) (o+j)) wr) (fun a _=>64*cnt-(intOf a).toNat)
   case atStart=>exact⟨0,by omega,rfl,hJ1⟩
   case round =>
    clear hJ1
    obtain⟨j,hj,rfl,hJ1⟩:=hrel
    by_cases hlj:j<cnt
    ·obtain⟨t,ht⟩:∃ t,t=64*j:=⟨_,rfl⟩
     rw [← ht]
     have has:=HAS.out
     have hd2:decide ((t:Int)<(A.size:Int))=true:=by simp;omega
     have hd3:t<A.size:=by omega
     have ht0:(0:Int)≤(t:Int):=by omega
     have ht1:(t:Int)≤(A.size:Int):=by omega
     have ht2:t≤1280000000:=by omega
     obtain⟨S,hS⟩:∃ S,S=A.extract t A.size:=⟨_,rfl⟩
     have hSs:64≤S.size:=by rw [hS];simp;omega
     have hSd:S.data.toList=A.data.toList.drop (64*j):=by rw [hS,Lib.extract_data,ht,List.take_of_length_le (by rw [List.length_drop,show A.data.toList.length=A.size from rfl];exact Nat.le_refl _)]
     have hblk:=bytes_part A S (full s) o j HAD.out (by omega) hSd
     have hext:A.extract t A.size=S:=hS.symm
     have HB:=Lib.hid hblk
     have HT:=Lib.hid ht
     clear hS hSd hblk ht has
     go_upto_region 8 with(fail)
     have hJ2:J (tells (full s) (o+j)) (wr.alloc (.cells (u8s b64) 55)):=AbidesFrom.grow hJ hJ1 ((Below.refl _ _).alloc (Nat.le_refl _) _)
     have hR:=Row.new wr 55 (u8s b64)
     refine wp_region_still_tail 4 (by kernel_rfl) (by kernel_rfl) ?_
     simp only [List.take_succ_cons,List.take_zero,List.drop_succ_cons,List.drop_zero]
     change wpStill _ _ (wr.alloc (.cells (u8s b64) 55)).drew (fun a'=>wpList _ _ _ _ a' (wr.alloc (.cells (u8s b64) 55)).drew) _ _
     replace hJ2:J (tells (full s) (o+j)) (wr.alloc (.cells (u8s b64) 55)).drew:=AbidesFrom.grow hJ hJ2 (Below.drew (Below.refl _ _))
     replace hR:Row (wr.alloc (.cells (u8s b64) 55)).drew wr.heap.size 55 (u8s b64):=hR
     have hbel:Below wr.heap.size wr (wr.alloc (.cells (u8s b64) 55)).drew:=((Below.refl _ wr).alloc (Nat.le_refl _) _).drew
     generalize (wr.alloc (.cells (u8s b64) 55)).drew=wd at *
     repeat still_step
     refine wpStill_nil ?_
     with_reducible refine wpList_copy64 (op:=⟨some 38,.call { callee:=.builtin .copy,args:=#[.tmp 34,.tmp 37],argTypes:=#[57,9] },_,_,_,none⟩) rfl (.tmp 34) (.tmp 37) rfl wr.heap.size ?_ S ?_ hSs hR (by rw [u8s_size,b64_len]) ?_
     ·rfl
     ·rfl
     have hJ3:J (tells (full s) (o+j)) (wd.setRow wr.heap.size (u8s (S.data.toList.take 64))):=AbidesFrom.grow hJ hJ1 (below_setRow hbel (Nat.le_refl _) _)
     have hR3:=hR.put (u8s (S.data.toList.take 64))
     rw [HB.out] at hJ3 hR3 ⊢
     have hbl:(u8s (blk (full s) (o+j))).size=64:=by rw [← HB.out,u8s_size,List.length_take,show S.data.toList.length=S.size from rfl];omega
     have hI:Hid ((Tryd.prog.info? 55).map (·.size)=some (u8s (blk (full s) (o+j))).size):=Lib.hid (by rw [size27,hbl])
     generalize wd.setRow wr.heap.size (u8s (blk (full s) (o+j)))=we at *
     clear hJ2 hR hbel hbl hext
     obtain⟨fn,tmps,assign,body,hy,hRI⟩:=hY _ (blk (full s) (o+j)) we hJ3 (blk_len (by have:=HMm.out;omega)) (by rw [tells_len];omega)
     go_upto_region 9 with(fail)
     refine(wpIn_wide (n:=3)).1 ?_
     gi_step
     gi_step
     gi_step
     gi_step
     with_reducible refine wpListIn_loadRow (op:=⟨some 40,.load 55 (.tmp 7),_,_,_,none⟩) rfl 55 (.tmp 7) rfl wr.heap.size ?_ hR3 Tryd.underlying55 rfl hI.out ?_
     ·rfl
     go_simp
     gi_wp2
     refine hRI.mono ?_
     rintro e W3 (⟨rfl,hJ4,hk4⟩ | ⟨rfl,hJx4⟩)
     ·gi_wp2
      go_wp2_with fail
      go_roundw
      case rel=>exact⟨j+1,by omega,int_i64 (by have:=HT.out;omega),by rw [← Nat.add_assoc,tells_succ];exact hJ4⟩
      case measure=>have:=HT.out;simp [intOf];omega
     ·gi_wp2
      go_wp2_with fail
      refine bodyPost_ret (results_none rfl _ _ _) rfl ?_
      refine⟨⟨_,rfl⟩,.inr ⟨_,?_,hJx4⟩⟩
      rw [← tells_succ]
      exact tells_prefix _ _ _ (by omega)
    ·have hj9:j=cnt:=by omega
     subst hj9
     obtain⟨t,ht⟩:∃ t,t=64*j:=⟨_,rfl⟩
     rw [← ht]
     have has:=HAS.out
     have hd2:decide ((t:Int)<(A.size:Int))=false:=by simp;omega
     have hd3:¬ t<A.size:=by omega
     clear ht has
     go_wp2_with fail
     go_roundw
     case rel=>exact⟨p+1,by omega,by go_num,by rw [HO.out];exact hJ1⟩
     case measure=>simp [intOf];omega
  ·have hp9:p=2:=by omega
   subst hp9
   go_wp2_with fail
   go_end0
   exact⟨⟨_,rfl⟩,.inl ⟨_,rfl,hJ1⟩⟩
theorem blocks_any(s:ByteArray)(w:World) :
  Calls Tryd.prog 23 #[.string s] w fun e w'=>e=.returned (.func (.func 35) #[] #[.pointer (some ⟨w.heap.size,0,none⟩)])∧w'=w.alloc (.cells #[.string s] 9):=by
 go_enter Tryd.func23,Tryd.ntmps23
 go_wp2
 go_ret
 exact⟨rfl,rfl⟩
abbrev Blk:={ x:List UInt8 // x.length=64 }
def vals(l:List Blk):List (List UInt8):=l.map (·.1)
theorem vals_snoc(l:List Blk)(x:Blk):vals (l++[x])=vals l++[x.1]:=by simp [vals]
theorem vals_len(l:List Blk):(vals l).length=l.length:=by simp [vals]
theorem YieldAt.mono{F:Fence}{m:Nat}{P:Program}{l:Nat}{args:Array Value}{W:World}{R R':Ending→World→Prop}(h:YieldAt F m P l args W R)(hR:∀ e w,R e w→R' e w):YieldAt F m P l args W R':=by
 obtain⟨fn,tmps,assign,body,h1,h2⟩:=h
 exact⟨fn,tmps,assign,body,h1,h2.mono hR⟩
theorem blocks_stops(Bn n₀:Nat)(s:ByteArray)(hs:s.size≤1073741824)(w:World)(hBn:Bn<w.heap.size)(hc:w.cell? ⟨Bn,0,none⟩=some (.string s)) :
  SeqStopsK Fence.wide 3 Tryd.prog 35 #[.pointer (some ⟨Bn,0,none⟩)] (fun x:Blk=>#[Value.agg (u8s x.1)]) (Below n₀) (fun ys=>vals ys=tells (full s) ((full s).length / 64)) (fun _=>True) 100000000 w:=fun l J Jx W hW hJ _ hY h0=>by
 refine(blocks1_in l Bn s hs W.heap.size (fun p W'=>∃ q:List Blk,vals q=p∧J q W') (fun p W'=>∃ q:List Blk,vals q=p∧Jx q W') n₀
  (fun p A B row ⟨q,hq,hJq⟩ hg hr=>⟨q,hq,hJ q A B row hJq hg hr⟩) ?_ W ((hW.cell (p:=⟨Bn,0,none⟩) hBn).trans hc) ⟨[],rfl,h0⟩).mono ?_
 ·rintro pre x W1 ⟨q,rfl,hq⟩ hx hl
  refine YieldAt.mono (hY q ⟨x,hx⟩ W1 hq (by rwa [vals_len] at hl)) ?_
  rintro e W2 (⟨rfl,h1,h2⟩ | ⟨rfl,h1⟩)
  ·exact .inl ⟨rfl,⟨q++[⟨x,hx⟩],vals_snoc _ _,h1⟩,h2⟩
  ·exact .inr ⟨rfl,⟨q++[⟨x,hx⟩],vals_snoc _ _,h1⟩⟩
 ·rintro e W2 ⟨hv,(⟨ys,rfl,q,hq,hJq⟩ | ⟨pre,_,q,_,hJq⟩)⟩
  ·exact⟨hv,.inl ⟨q,hq,hJq⟩⟩
  ·exact⟨hv,.inr ⟨q,trivial,hJq⟩⟩
theorem ref_words_any(b:List UInt8)(hb:b.length=64)(w:World) :
  Calls Tryd.prog 41 #[.agg (u8s b)] w fun e w'=>e=.returned (.agg (u32s (words b)))∧Below w.heap.size w w':=by
 have hz:=zero46
 have HB:=Lib.hid hb
 clear hb
 go_enter Tryd.func41,Tryd.ntmps41
 go_wp2_with fail
 go_loopw [4] (fun i wr=>∃ k:Nat,k≤16∧i=.int .i64 k∧Below w.heap.size w wr∧Row wr w.heap.size 55 (u8s b)∧Row wr (w.heap.size+1) 69 (u32s z64)∧Row wr (w.heap.size+1+1) 69 (u32s (low b k))) (fun i _=>16-(intOf i).toNat)
 case atStart =>
  refine⟨0,by omega,rfl,(((Below.refl _ w).alloc (Nat.le_refl _) _).alloc (by simp) _).alloc (by simp;omega) _,((Row.new _ _ _).alloc _).alloc _,?_,?_⟩
  ·have:=(Row.new (w.alloc (.cells (u8s b) 55)) 69 (u32s z64)).alloc (.cells (u32s z64) 69)
   simpa using this
  ·have:=Row.new ((w.alloc (.cells (u8s b) 55)).alloc (.cells (u32s z64) 69)) 69 (u32s z64)
   rw [low_zero]
   simpa using this
 case round =>
  obtain⟨k,hk,rfl,hB,hR1,hR2,hR3⟩:=hrel
  by_cases hlt:k<16
  ·have hd:decide ((k:Int)<16)=true:=by simp;omega
   rw [← making_zero b k (by omega)] at hR3
   go_wp2_with fail
   go_loopw [5] (fun j wr=>∃ i:Nat,i≤4∧j=.int .i64 i∧Below w.heap.size w wr∧Row wr w.heap.size 55 (u8s b)∧Row wr (w.heap.size+1) 69 (u32s z64)∧Row wr (w.heap.size+1+1) 69 (u32s (making b k i))) (fun j _=>4-(intOf j).toNat)
   case atStart=>exact⟨0,by omega,rfl,hB,hR1,hR2,hR3⟩
   case round =>
    obtain⟨i,hi,rfl,hB,hR1,hR2,hR3⟩:=hrel
    by_cases hli:i<4
    ·have hd2:decide ((i:Int)<4)=true:=by simp;omega
     have h64:=HB.out
     have cb:=hR1.byte (4*k+i) (by omega)
     have cw:=hR3.word k (by rw [making_len];omega)
     rw [making_at b k i (by omega)] at cw
     have hf:=hR3.frozen k
     have hacc:=acc_word (b:=b) (t:=k) (i:=i+1) (by omega)
     have HM:=Lib.hid (making_succ b k i)
     have hl:=byte_lt (b.getD (4*k+i) 0)
     have ha:acc b k (i+1)=acc b k i*256+(b.getD (4*k+i) 0).toNat:=rfl
     generalize (b.getD (4*k+i) 0).toNat=x at *
     obtain⟨y,hy⟩:∃ y,y=acc b k i:=⟨_,rfl⟩
     obtain⟨z,hz9⟩:∃ z,z=acc b k (i+1):=⟨_,rfl⟩
     rw [← hy] at cw ha
     rw [← hz9] at ha hacc
     obtain⟨m,hm⟩:∃ m,m=4*k+i:=⟨_,rfl⟩
     rw [← hm] at cb
     obtain⟨q,hq⟩:∃ q,q=y*256:=⟨_,rfl⟩
     have q0:IntKind.u32.wrap ((y:Int)*256)=(q:Int):=by rw [IntKind.wrap_u32'];omega
     have q1:IntKind.u32.wrap ((q:Int)+(x:Int))=(z:Int):=by rw [IntKind.wrap_u32'];omega
     have q2:IntKind.u32.wrap (x:Int)=(x:Int):=by rw [IntKind.wrap_u32'];omega
     obtain⟨m0,hm0⟩:∃ m,m=4*k:=⟨_,rfl⟩
     have a0:IntKind.i64.wrap (4*(k:Int))=(m0:Int):=by rw [IntKind.wrap_i64];omega
     have a1:IntKind.i64.wrap ((m0:Int)+(i:Int))=(m:Int):=by rw [IntKind.wrap_i64];omega
     have b0:(m:Int)<64:=by omega
     have b1:(k:Int)<64:=by omega
     have HZ:=Lib.hid hz9
     clear hz9 hy ha hm hm0 hq h64 hz hlt hacc
     go_wp2_with fail
     refine wp_region_still_tail 14 (by kernel_rfl) (by kernel_rfl) ?_
     simp only [List.take_succ_cons,List.take_zero,List.drop_succ_cons,List.drop_zero]
     change wpStill _ _ wr.drew (fun a'=>wpList _ _ _ _ a' wr.drew) _ _
     replace cb:wr.drew.cell? _=_:=cb
     replace cw:wr.drew.cell? _=_:=cw
     replace hf:wr.drew.frozen? _=_:=hf
     replace hB:=hB.drew
     replace hR1:=hR1.drew
     replace hR2:=hR2.drew
     replace hR3:=hR3.drew
     generalize wr.drew=wd at *
     repeat still_step
     refine wpStill_nil ?_
     go_wp2_with fail
     go_roundw
     case rel=>exact⟨i+1,by omega,by go_num,hB.setCell (p:=⟨w.heap.size+1+1,k,none⟩) (by simp;omega) _,hR1.apart (by omega) _ _,hR2.apart (by omega) _ _,by rw [← HM.out,← HZ.out];exact hR3.set32 k z⟩
     case measure=>simp [intOf];omega
    ·have hi9:i=4:=by omega
     subst hi9
     clear hi hli
     rw [making_four] at hR3
     go_wp2_with fail
     go_roundw
     case rel=>exact⟨k+1,by omega,by go_num,hB,hR1,hR2,hR3⟩
     case measure=>simp [intOf];omega
  ·have hk9:k=16:=by omega
   subst hk9
   clear hk hlt
   rw [show((16:Nat):Int)=16 from rfl]
   go_wp2_with fail
   go_loopw [6] (fun i wr=>∃ n:Nat,n≤48∧i=.int .i64 ((16+n:Nat):Int)∧Below w.heap.size w wr∧Row wr (w.heap.size+1) 69 (u32s z64)∧Row wr (w.heap.size+1+1) 69 (u32s (ext (low b 16) n))) (fun i _=>64-(intOf i).toNat)
   case atStart=>exact⟨0,by omega,rfl,hB,hR2,hR3⟩
   case round =>
    obtain⟨n,hn,rfl,hB,hR2,hR3⟩:=hrel
    by_cases hlt:n<48
    ·have hlen:(ext (low b 16) n).length=64:=by rw [ext_len,low_len]
     have hws:Words (ext (low b 16) n):=ext_words _ (low_words b 16) n
     have hset:ext (low b 16) (n+1)=(ext (low b 16) n).set (16+n) (later (ext (low b 16) n) (16+n)):=rfl
     generalize ext (low b 16) n=l at *
     obtain⟨t,ht⟩:∃ t,t=16+n:=⟨_,rfl⟩
     have hl:later l (16+n)=later l t:=by rw [ht]
     rw [← ht] at hset ⊢
     obtain⟨t15,h15⟩:∃ i,i=t-15:=⟨_,rfl⟩
     obtain⟨t2,h2⟩:∃ i,i=t-2:=⟨_,rfl⟩
     obtain⟨t16,h16⟩:∃ i,i=t-16:=⟨_,rfl⟩
     obtain⟨t7,h7⟩:∃ i,i=t-7:=⟨_,rfl⟩
     unfold later at hl hset
     rw [← h15,← h2,← h16,← h7] at hset
     have c15:=hR3.word t15 (by omega)
     have c2:=hR3.word t2 (by omega)
     have c16:=hR3.word t16 (by omega)
     have c7:=hR3.word t7 (by omega)
     have ct:=hR3.word t (by omega)
     have hf:=hR3.frozen t
     have l15:=hws.at t15
     have l2:=hws.at t2
     have l16:=hws.at t16
     have l7:=hws.at t7
     clear hl
     generalize l.getD t15 0=x at c15 l15 hset
     generalize l.getD t2 0=y at c2 l2 hset
     generalize l.getD t16 0=p at c16 l16 hset
     generalize l.getD t7 0=q at c7 l7 hset
     have e0:bits .xor .u32 (bits .xor .u32 ((rot x 7:Nat):Int) ((rot x 18:Nat):Int)) ((x:Int) / 8)=((small0 x:Nat):Int):=by
      have:=u32_xor_nat (rot x 7 ^^^ rot x 18) (x / 8) (xor_lt (rot_lt 7 (by omega) l15) (rot_lt 18 (by omega) l15)) (by omega)
      rw [u32_xor_nat _ _ (rot_lt 7 (by omega) l15) (rot_lt 18 (by omega) l15)]
      simpa [small0] using this
     have e1:bits .xor .u32 (bits .xor .u32 ((rot y 17:Nat):Int) ((rot y 19:Nat):Int)) ((y:Int) / 1024)=((small1 y:Nat):Int):=by
      have:=u32_xor_nat (rot y 17 ^^^ rot y 19) (y / 1024) (xor_lt (rot_lt 17 (by omega) l2) (rot_lt 19 (by omega) l2)) (by omega)
      rw [u32_xor_nat _ _ (rot_lt 17 (by omega) l2) (rot_lt 19 (by omega) l2)]
      simpa [small1] using this
     have a15:(t:Int)-15=(t15:Int):=by omega
     have a2:(t:Int)-2=(t2:Int):=by omega
     have a16:(t:Int)-16=(t16:Int):=by omega
     have a7:(t:Int)-7=(t7:Int):=by omega
     have b15:(t15:Int)<64:=by omega
     have b2:(t2:Int)<64:=by omega
     have b16:(t16:Int)<64:=by omega
     have b7:(t7:Int)<64:=by omega
     have bt:(t:Int)<64:=by omega
     have n15:(0:Int)≤(t15:Int):=by omega
     have n2:(0:Int)≤(t2:Int):=by omega
     have n16:(0:Int)≤(t16:Int):=by omega
     have n7:(0:Int)≤(t7:Int):=by omega
     have w15:IntKind.i64.wrap (t15:Int)=(t15:Int):=IntWalk.i64_in _ (by omega)
     have w2:IntKind.i64.wrap (t2:Int)=(t2:Int):=IntWalk.i64_in _ (by omega)
     have w16:IntKind.i64.wrap (t16:Int)=(t16:Int):=IntWalk.i64_in _ (by omega)
     have w7:IntKind.i64.wrap (t7:Int)=(t7:Int):=IntWalk.i64_in _ (by omega)
     have hd:decide ((t:Int)<64)=true:=by simp;omega
     have HS:=Lib.hid hset
     clear hset h15 h2 h16 h7
     have HT:=Lib.hid ht
     clear ht
     go_wp2_with fail
     go_quiet (fail)
     go_wp2_with (first | (go_at_call 43;(with_reducible refine(turn_lit 7 7 (by omega) rfl (by omega) _).mono ?_);rintro e w1 ⟨rfl,rfl⟩) | (go_at_call 43;(with_reducible refine(turn_lit 18 18 (by omega) rfl (by omega) _).mono ?_);rintro e w1 ⟨rfl,rfl⟩) | (go_at_call 47;(with_reducible refine(shift_lit 3 3 (by omega) rfl (by omega) _).mono ?_);rintro e w1 ⟨rfl,rfl⟩) | (go_at_call 43;(with_reducible refine(turn_lit 17 17 (by omega) rfl (by omega) _).mono ?_);rintro e w1 ⟨rfl,rfl⟩) | (go_at_call 43;(with_reducible refine(turn_lit 19 19 (by omega) rfl (by omega) _).mono ?_);rintro e w1 ⟨rfl,rfl⟩) | (go_at_call 47;(with_reducible refine(shift_lit 10 10 (by omega) rfl (by omega) _).mono ?_);rintro e w1 ⟨rfl,rfl⟩))
     obtain⟨v,hv⟩:∃ v,v=(p+small0 x+q+small1 y)%4294967296:=⟨_,rfl⟩
     rw [← hv] at HS
     obtain⟨p1,hp1⟩:∃ p1,p1=(p+small0 x)%4294967296:=⟨_,rfl⟩
     obtain⟨p2,hp2⟩:∃ p2,p2=(p1+q)%4294967296:=⟨_,rfl⟩
     have s1:IntKind.u32.wrap ((p:Int)+(small0 x:Nat))=(p1:Int):=by rw [IntKind.wrap_u32'];omega
     have s2:IntKind.u32.wrap ((p1:Int)+(q:Int))=(p2:Int):=by rw [IntKind.wrap_u32'];omega
     have s3:IntKind.u32.wrap ((p2:Int)+(small1 y:Nat))=(v:Int):=by rw [IntKind.wrap_u32'];omega
     clear hv hp1 hp2
     refine wp_region_still_tail 15 (by kernel_rfl) (by kernel_rfl) ?_
     simp only [List.take_succ_cons,List.take_zero,List.drop_succ_cons,List.drop_zero]
     change wpStill _ _ (wr.drewN nq).drew (fun a'=>wpList _ _ _ _ a' (wr.drewN nq).drew) _ _
     replace c16:(wr.drewN nq).drew.cell? _=_:=c16
     replace c7:(wr.drewN nq).drew.cell? _=_:=c7
     replace ct:(wr.drewN nq).drew.cell? _=_:=ct
     replace hf:(wr.drewN nq).drew.frozen? _=_:=hf
     replace hB:Below w.heap.size w (wr.drewN nq).drew:=⟨hB.os,hB.tape,hB.output,hB.size,hB.block⟩
     replace hR2:Row (wr.drewN nq).drew _ _ _:=hR2
     replace hR3:Row (wr.drewN nq).drew _ _ _:=hR3
     generalize (wr.drewN nq).drew=wd at *
     repeat still_step
     refine wpStill_nil ?_
     go_wp2_with fail
     go_roundw
     case rel=>exact⟨n+1,by omega,int_i64 (by have:=HT.out;omega),hB.setCell (p:=⟨w.heap.size+1+1,t,none⟩) (by simp;omega) _,hR2.apart (by omega) _ _,by rw [HS.out];exact hR3.set32 t v⟩
     case measure=>simp [intOf];omega
    ·have hn9:n=48:=by omega
     subst hn9
     clear hn hlt
     change Row wr _ _ (u32s (words b)) at hR3
     have hln:64=(u32s (words b)).size:=by rw [u32s_size,words_len]
     have hB2:=below_setRow hB (g:=w.heap.size+1) (by omega) (u32s (words b))
     have hR:=hR2.put (u32s (words b))
     have hs9:(Tryd.prog.info? 69).map (·.size)=some (u32s (words b)).size:=by rw [size46,hln]
     have ho9:(u32s z64).size=(u32s (words b)).size:=by rw [u32s_size,← hln,z64_len]
     have h19:=u32s_one (words b)
     obtain⟨ws,hws⟩:∃ ws,ws=u32s (words b):=⟨_,rfl⟩
     rw [← hws] at hR3 hB2 hR hs9 ho9 h19
     have HW:=Lib.hid hws
     clear hws
     have HI:=Lib.hid hs9
     have HO:=Lib.hid ho9
     have H1:=Lib.hid h19
     clear hln hs9 ho9 h19 hR1
     go_upto_region 16 with(fail)
     go_step
     with_reducible refine wpList_loadRow (op:=⟨some 76,.load 69 (.tmp 3),_,_,_,none⟩) rfl 69 (.tmp 3) rfl (w.heap.size+1+1) ?_ hR3 Tryd.underlying69 rfl HI.out ?_
     ·rfl
     go_simp
     with_reducible refine wpList_storeRow (op:=⟨none,.store 69 (.tmp 2) (.tmp 76),_,_,_,none⟩) rfl 69 (.tmp 2) (.tmp 76) rfl (w.heap.size+1) ?_ (cs:=ws) ?_ hR2 HI.out HO.out H1.out ?_
     ·rfl
     ·rfl
     go_simp
     go_wp2_with fail
     exact bodyPost_ret (v:=.agg ws) (results_row rfl rfl hR Tryd.underlying69 rfl HI.out) rfl ⟨by rw [HW.out],hB2⟩
theorem cubes_any(w:World):Calls Tryd.prog 42 #[] w fun e w'=>e=.returned (.agg (u32s cubes))∧Below w.heap.size w w':=by
 have hz:=zero46
 go_enter Tryd.func42,Tryd.ntmps42
 go_upto_region 1 with(fail)
 have hR:=Row.new w 69 (u32s z64)
 go_step
 refine wpList_buildTo rfl 69 _ rfl (some 1) rfl (u32s cubes) (by kernel_rfl) ?_
 go_simp
 have hI:(Tryd.prog.info? 69).map (·.size)=some (u32s cubes).size:=by rw [size46,u32s_size,cubes_len]
 have hO:(u32s z64).size=(u32s cubes).size:=by rw [u32s_size,u32s_size];rfl
 have H1:=u32s_one cubes
 have hB2:=below_setRow ((Below.refl _ w).alloc (Nat.le_refl _) (.cells (u32s z64) 69)) (g:=w.heap.size) (Nat.le_refl _) (u32s cubes)
 have hR2:=hR.put (u32s cubes)
 have HI:=Lib.hid hI
 have HO:=Lib.hid hO
 have H19:=Lib.hid H1
 clear hI hO H1
 refine wpList_storeRow (op:=⟨none,.store 69 (.tmp 0) (.tmp 1),_,_,_,none⟩) rfl 69 (.tmp 0) (.tmp 1) rfl w.heap.size ?_ (cs:=u32s cubes) ?_ hR HI.out HO.out H19.out ?_
 ·rfl
 ·rfl
 go_simp
 go_wp2_with fail
 exact bodyPost_ret (v:=.agg (u32s cubes)) (results_row rfl rfl hR2 Tryd.underlying69 rfl HI.out) rfl ⟨rfl,hB2⟩
structure Held (W:World) (g7 g6 g5 n:Nat) (r:St) (k wv:Nat):Prop where
 a:W.cell? ⟨g7,0,none⟩=some (.int .u32 (r.a:Int))
 b:W.cell? ⟨g7,1,none⟩=some (.int .u32 (r.b:Int))
 c:W.cell? ⟨g7,2,none⟩=some (.int .u32 (r.c:Int))
 d:W.cell? ⟨g7,3,none⟩=some (.int .u32 (r.d:Int))
 e:W.cell? ⟨g7,4,none⟩=some (.int .u32 (r.e:Int))
 f:W.cell? ⟨g7,5,none⟩=some (.int .u32 (r.f:Int))
 g:W.cell? ⟨g7,6,none⟩=some (.int .u32 (r.g:Int))
 h:W.cell? ⟨g7,7,none⟩=some (.int .u32 (r.h:Int))
 k:W.cell? ⟨g6,n,none⟩=some (.int .u32 (k:Int))
 w:W.cell? ⟨g5,n,none⟩=some (.int .u32 (wv:Int))
theorem Held.drewN{W:World}{g7 g6 g5 n:Nat}{r:St}{k wv:Nat}(x:Held W g7 g6 g5 n r k wv)(m:Nat):Held (W.drewN m) g7 g6 g5 n r k wv:=⟨x.a,x.b,x.c,x.d,x.e,x.f,x.g,x.h,x.k,x.w⟩
structure Mem (w W:World) (n3:Nat) (hs:List Nat) (ws:List Nat) (v:List Nat):Prop where
 below:Below w.heap.size w W
 r2:Row W w.heap.size 48 (u32s hs)
 r4:Row W (w.heap.size+1+1) 48 (u32s z8)
 r5:Row W n3 69 (u32s ws)
 r6:Row W (n3+1) 69 (u32s cubes)
 r7:Row W (n3+1+1) 48 (u32s v)
theorem Mem.drewN{w W:World}{n3:Nat}{hs ws v:List Nat}(x:Mem w W n3 hs ws v)(m:Nat):Mem w (W.drewN m) n3 hs ws v:=⟨belowN x.below m,x.r2,x.r4,x.r5,x.r6,x.r7⟩
theorem Mem.held{w W:World}{n3:Nat}{hs ws:List Nat}{r:St}(x:Mem w W n3 hs ws r.list){n:Nat}(hn:n<64)(hl:ws.length=64):Held W (n3+1+1) (n3+1) n3 n r (cubes.getD n 0) (ws.getD n 0) :=
 ⟨x.r7.word 0 (by simp [St.list]),x.r7.word 1 (by simp [St.list]),x.r7.word 2 (by simp [St.list]),x.r7.word 3 (by simp [St.list]),x.r7.word 4 (by simp [St.list]),x.r7.word 5 (by simp [St.list]),x.r7.word 6 (by simp [St.list]),x.r7.word 7 (by simp [St.list]),
  x.r6.word n (by rw [cubes_len];exact hn),x.r5.word n (by rw [hl];exact hn)⟩
theorem Mem.put{w W:World}{n3:Nat}{hs ws v:List Nat}(x:Mem w W n3 hs ws v)(hn:w.heap.size+1+1<n3)(v':List Nat):Mem w (W.setRow (n3+1+1) (u32s v')) n3 hs ws v' :=
 ⟨below_setRow x.below (by omega) _,x.r2.putApart (by omega) _,x.r4.putApart (by omega) _,x.r5.putApart (by omega) _,x.r6.putApart (by omega) _,x.r7.put _⟩
theorem ref_Block_any(hs:List Nat)(b:List UInt8)(hh:hs.length=8)(hw:Words hs)(hb:b.length=64)(w:World) :
  Calls Tryd.prog 32 #[.agg (u32s hs),.agg (u8s b)] w fun e w'=>e=.returned (.agg (u32s (block hs b)))∧Below w.heap.size w w':=by
 have hz:=zero26
 have hz2:=zero46
 have HB:=Lib.hid hb
 have HH:=Lib.hid hh
 clear hb hh
 have HW:=Lib.hid hw
 clear hw
 go_enter Tryd.func32,Tryd.ntmps32
 go_upto_region 1 with(fail)
 generalize hw1:((w.alloc (Obj.cells (u32s hs) 48)).alloc (Obj.cells (u8s b) 55)).alloc (Obj.cells (u32s z8) 48)=w1
 have hB1:Below w.heap.size w w1:=by rw [← hw1];exact(((Below.refl _ w).alloc (Nat.le_refl _) _).alloc (by simp) _).alloc (by simp;omega) _
 have hR1:Row w1 w.heap.size 48 (u32s hs):=by rw [← hw1];exact((Row.new _ _ _).alloc _).alloc _
 have hR2:Row w1 (w.heap.size+1) 55 (u8s b):=by
  rw [← hw1]
  have:=(Row.new (w.alloc (Obj.cells (u32s hs) 48)) 55 (u8s b)).alloc (Obj.cells (u32s z8) 48)
  simpa using this
 have hR3:Row w1 (w.heap.size+1+1) 48 (u32s z8):=by
  rw [← hw1]
  have:=Row.new ((w.alloc (Obj.cells (u32s hs) 48)).alloc (Obj.cells (u8s b) 55)) 48 (u32s z8)
  simpa using this
 have hsz1:w.heap.size+1+1<w1.heap.size:=hR3.lt
 clear hw1
 go_step
 with_reducible refine wpList_loadRow (op:=⟨some 14,.load 55 (.tmp 3),_,_,_,none⟩) rfl 55 (.tmp 3) rfl (w.heap.size+1) ?_ hR2 Tryd.underlying55 rfl (by rw [size27,u8s_size,HB.out]) ?_
 ·rfl
 go_simp
 go_wp2_with (go_at_call 41;(with_reducible refine(ref_words_any b HB.out _).mono ?_);rintro e w2 ⟨rfl,hB2⟩)
 have hwl:=words_len b
 have hww:=words_words b
 have HY:Hid (block hs b=added hs (rnds (words b) (St.of hs) 64).list 8):=Lib.hid rfl
 generalize words b=ws at *
 refine(cubes_any _).mono ?_
 rintro e w3 ⟨rfl,hB3⟩
 have hI:(Tryd.prog.info? 69).map (·.size)=some (u32s ws).size:=by rw [size46,u32s_size,hwl]
 have HI:=Lib.hid hI
 have hI2:(Tryd.prog.info? 69).map (·.size)=some (u32s cubes).size:=by rw [size46,u32s_size,cubes_len]
 have HI2:=Lib.hid hI2
 clear hI hI2
 have hsz3:w.heap.size+1+1<w3.heap.size:=by have:=hB2.size;have:=hB3.size;omega
 have hB33:Below w.heap.size w w3:=(hB1.trans (hB2.mono (by omega))).trans (hB3.mono (by have:=hB2.size;omega))
 have hR1:=(hR1.below hB2 (by omega)).below hB3 (by have:=hB2.size;omega)
 have hR3:=(hR3.below hB2 (by omega)).below hB3 (by have:=hB2.size;omega)
 clear hR2 hB1 hB2 hB3
 have hN:=(Row.new w3 69 (u32s z64)).alloc (.cells (u32s z64) 69)
 have hN2:Row ((w3.alloc (.cells (u32s z64) 69)).alloc (.cells (u32s z64) 69)) (w3.heap.size+1) 69 (u32s z64):=by
  have:=Row.new (w3.alloc (.cells (u32s z64) 69)) 69 (u32s z64)
  simpa using this
 have HO:=Lib.hid (show(u32s z64).size=(u32s ws).size by rw [u32s_size,u32s_size,hwl];rfl)
 have HO2:=Lib.hid (show(u32s z64).size=(u32s cubes).size by rw [u32s_size,u32s_size];rfl)
 have H1:=Lib.hid (u32s_one ws)
 have H2:=Lib.hid (u32s_one cubes)
 have hN2':=hN2.putApart (show w3.heap.size+1≠w3.heap.size by omega) (u32s ws)
 have hA:Row ((((w3.alloc (.cells (u32s z64) 69)).alloc (.cells (u32s z64) 69)).setRow w3.heap.size (u32s ws)).setRow (w3.heap.size+1) (u32s cubes)) w.heap.size 48 (u32s hs) :=
  (((hR1.alloc _).alloc _).putApart (by omega) _).putApart (by omega) _
 have hA4:Row ((((w3.alloc (.cells (u32s z64) 69)).alloc (.cells (u32s z64) 69)).setRow w3.heap.size (u32s ws)).setRow (w3.heap.size+1) (u32s cubes)) (w.heap.size+1+1) 48 (u32s z8) :=
  (((hR3.alloc _).alloc _).putApart (by omega) _).putApart (by omega) _
 have hA5:Row ((((w3.alloc (.cells (u32s z64) 69)).alloc (.cells (u32s z64) 69)).setRow w3.heap.size (u32s ws)).setRow (w3.heap.size+1) (u32s cubes)) w3.heap.size 69 (u32s ws) :=
  (hN.put (u32s ws)).putApart (by omega) _
 have hA6:Row ((((w3.alloc (.cells (u32s z64) 69)).alloc (.cells (u32s z64) 69)).setRow w3.heap.size (u32s ws)).setRow (w3.heap.size+1) (u32s cubes)) (w3.heap.size+1) 69 (u32s cubes) :=
  hN2'.put (u32s cubes)
 have hAB:Below w.heap.size w ((((w3.alloc (.cells (u32s z64) 69)).alloc (.cells (u32s z64) 69)).setRow w3.heap.size (u32s ws)).setRow (w3.heap.size+1) (u32s cubes)) :=
  below_setRow (below_setRow ((hB33.alloc (by omega) _).alloc (by simp;omega) _) (by omega) _) (by omega) _
 have hAs:((((w3.alloc (.cells (u32s z64) 69)).alloc (.cells (u32s z64) 69)).setRow w3.heap.size (u32s ws)).setRow (w3.heap.size+1) (u32s cubes)).heap.size=w3.heap.size+1+1:=by simp
 go_upto_region 2 with(first | ((with_reducible refine wpList_storeRow (op:=⟨none,.store 69 (.tmp 5) (.tmp 15),_,_,_,none⟩) rfl 69 (.tmp 5) (.tmp 15) rfl w3.heap.size ?_ (cs:=u32s ws) ?_ hN HI.out HO.out H1.out ?_);(rfl;rfl)) | ((with_reducible refine wpList_storeRow (op:=⟨none,.store 69 (.tmp 6) (.tmp 16),_,_,_,none⟩) rfl 69 (.tmp 6) (.tmp 16) rfl (w3.heap.size+1) ?_ (cs:=u32s cubes) ?_ hN2' HI2.out HO2.out H2.out ?_);(rfl;rfl)))
 generalize ((((w3.alloc (.cells (u32s z64) 69)).alloc (.cells (u32s z64) 69)).setRow w3.heap.size (u32s ws)).setRow (w3.heap.size+1) (u32s cubes))=w4 at *
 have HS4:=Lib.hid hAs
 clear hN hN2 hN2' hR1 hR3 hB33 hAs HO HO2 H1 H2
 generalize w3.heap.size=n3 at *
 have hX:Row (w4.alloc (.cells (u32s z8) 48)) w4.heap.size 48 (u32s z8):=Row.new _ _ _
 have hXI:Hid ((Tryd.prog.info? 48).map (·.size)=some (u32s hs).size):=Lib.hid (by rw [size26,u32s_size,HH.out])
 have hXO:Hid ((u32s z8).size=(u32s hs).size):=Lib.hid (by rw [u32s_size,u32s_size,HH.out];rfl)
 have hX1:Hid ((u32s hs).all (·.oneCell')=true):=Lib.hid (u32s_one hs)
 go_wp2_with (first | ((with_reducible refine wpList_loadRow (op:=⟨some 17,.load 48 (.tmp 2),_,_,_,none⟩) rfl 48 (.tmp 2) rfl w.heap.size ?_ hA Tryd.underlying48 rfl hXI.out ?_);rfl) | ((with_reducible refine wpList_storeRow (op:=⟨none,.store 48 (.tmp 7) (.tmp 17),_,_,_,none⟩) rfl 48 (.tmp 7) (.tmp 17) rfl w4.heap.size ?_ (cs:=u32s hs) ?_ hX hXI.out hXO.out hX1.out ?_);(rfl;rfl)))
 have hM:Mem w ((w4.alloc (.cells (u32s z8) 48)).setRow w4.heap.size (u32s hs)) n3 hs ws hs:=by
  have h4:=HS4.out
  refine⟨below_setRow (hAB.alloc (by omega) _) (by omega) _,(hA.alloc _).putApart (by omega) _,(hA4.alloc _).putApart (by omega) _,(hA5.alloc _).putApart (by omega) _,(hA6.alloc _).putApart (by omega) _,?_⟩
  rw [← h4]
  exact hX.put _
 rw [HS4.out] at hM ⊢
 generalize (w4.alloc (.cells (u32s z8) 48)).setRow (n3+1+1) (u32s hs)=w5 at *
 clear hA hA4 hA5 hA6 hAB hX HS4
 have hok:=St.of_ok HW.out
 have hlo:=St.list_of HH.out
 obtain⟨s,hs9⟩:∃ s,s=St.of hs:=⟨_,rfl⟩
 rw [← hs9] at hok hlo HY
 clear hs9
 have hM:Mem w w5 n3 hs ws s.list:=by rw [hlo];exact hM
 clear hlo
 go_loopw [8] (fun i wr=>∃ n:Nat,n≤64∧i=.int .i64 n∧Mem w wr n3 hs ws (rnds ws s n).list) (fun i _=>64-(intOf i).toNat)
 case atStart=>exact⟨0,by omega,rfl,hM⟩
 case round =>
  clear hM
  obtain⟨n,hn,rfl,hM⟩:=hrel
  have hro:=rnds_ok ws hok n
  by_cases hlt:n<64
  ·have hd:decide ((n:Int)<64)=true:=by simp;omega
   have hb64:(n:Int)<64:=by omega
   have hn0:(0:Int)≤(n:Int):=by omega
   have HN:=Lib.hid (show rnds ws s (n+1)=rnd (cubes.getD n 0) (ws.getD n 0) (rnds ws s n) from rfl)
   have hH:=hM.held hlt hwl
   have lk:=cubes_words.at n
   have lw:=hww.at n
   generalize cubes.getD n 0=k at *
   generalize ws.getD n 0=wv at *
   generalize rnds ws s n=r at *
   have e1:=great_bits r.e 6 11 25 hro.e (by omega) (by omega) (by omega)
   have e0:=great_bits r.a 2 13 22 hro.a (by omega) (by omega) (by omega)
   have ec:=choose_bits r.e r.f r.g hro.e hro.f hro.g _ rfl
   have em:=major_bits r.a r.b r.c hro.a hro.b hro.c
   have l1:=great1_lt hro.e
   have l0:=great0_lt hro.a
   have lc:=choose_lt (f:=r.f) (g:=r.g) hro.e
   have lm:=major_lt (c:=r.c) hro.a hro.b
   have o1:one k wv r=(r.h+great1 r.e+choose r.e r.f r.g+k+wv)%4294967296:=rfl
   have oa:(rnd k wv r).a=(one k wv r+great0 r.a+major r.a r.b r.c)%4294967296:=rfl
   have oe:(rnd k wv r).e=(r.d+one k wv r)%4294967296:=rfl
   have ol:(rnd k wv r).list=[(rnd k wv r).a,r.a,r.b,r.c,(rnd k wv r).e,r.e,r.f,r.g]:=rfl
   change _=((great1 r.e:Nat):Int) at e1
   change _=((great0 r.a:Nat):Int) at e0
   generalize great1 r.e=s1 at *
   generalize great0 r.a=s0 at *
   generalize choose r.e r.f r.g=ch at *
   generalize major r.a r.b r.c=mj at *
   generalize one k wv r=t1 at *
   obtain⟨ne,hne⟩:∃ p,p=4294967295-r.e:=⟨_,rfl⟩
   have le9:=hro.e
   have en:IntKind.u32.wrap (4294967295-(r.e:Int))=(ne:Int):=by rw [IntKind.wrap_u32'];omega
   rw [← hne] at ec
   obtain⟨p1,hp1⟩:∃ p,p=(r.h+s1)%4294967296:=⟨_,rfl⟩
   obtain⟨p2,hp2⟩:∃ p,p=(p1+ch)%4294967296:=⟨_,rfl⟩
   obtain⟨p3,hp3⟩:∃ p,p=(p2+k)%4294967296:=⟨_,rfl⟩
   obtain⟨q1,hq1⟩:∃ p,p=(s0+mj)%4294967296:=⟨_,rfl⟩
   obtain⟨a',ha'⟩:∃ p,p=(rnd k wv r).a:=⟨_,rfl⟩
   obtain⟨e',he'⟩:∃ p,p=(rnd k wv r).e:=⟨_,rfl⟩
   rw [← ha'] at oa ol
   rw [← he'] at oe ol
   have y1:IntKind.u32.wrap ((r.h:Int)+(s1:Int))=(p1:Int):=by rw [IntKind.wrap_u32'];omega
   have y2:IntKind.u32.wrap ((p1:Int)+(ch:Int))=(p2:Int):=by rw [IntKind.wrap_u32'];omega
   have y3:IntKind.u32.wrap ((p2:Int)+(k:Int))=(p3:Int):=by rw [IntKind.wrap_u32'];omega
   have y4:IntKind.u32.wrap ((p3:Int)+(wv:Int))=(t1:Int):=by rw [IntKind.wrap_u32'];omega
   have y5:IntKind.u32.wrap ((s0:Int)+(mj:Int))=(q1:Int):=by rw [IntKind.wrap_u32'];omega
   have y6:((t1:Int)+(q1:Int))%4294967296=(a':Int):=by omega
   have y7:((r.d:Int)+(t1:Int))%4294967296=(e':Int):=by omega
   have HL:=Lib.hid ol
   have la:=hro.a
   have z6:∀ W,Calls Tryd.prog 43 #[.int .u32 (r.e:Int),.int .i64 6] W fun e w'=>e=.returned (.int .u32 ((rot r.e 6:Nat):Int))∧w'=W:=fun W=>turn_q 6 6 hro.e rfl (by omega) W
   have z11:∀ W,Calls Tryd.prog 43 #[.int .u32 (r.e:Int),.int .i64 11] W fun e w'=>e=.returned (.int .u32 ((rot r.e 11:Nat):Int))∧w'=W:=fun W=>turn_q 11 11 hro.e rfl (by omega) W
   have z25:∀ W,Calls Tryd.prog 43 #[.int .u32 (r.e:Int),.int .i64 25] W fun e w'=>e=.returned (.int .u32 ((rot r.e 25:Nat):Int))∧w'=W:=fun W=>turn_q 25 25 hro.e rfl (by omega) W
   have z2:∀ W,Calls Tryd.prog 43 #[.int .u32 (r.a:Int),.int .i64 2] W fun e w'=>e=.returned (.int .u32 ((rot r.a 2:Nat):Int))∧w'=W:=fun W=>turn_q 2 2 hro.a rfl (by omega) W
   have z13:∀ W,Calls Tryd.prog 43 #[.int .u32 (r.a:Int),.int .i64 13] W fun e w'=>e=.returned (.int .u32 ((rot r.a 13:Nat):Int))∧w'=W:=fun W=>turn_q 13 13 hro.a rfl (by omega) W
   have z22:∀ W,Calls Tryd.prog 43 #[.int .u32 (r.a:Int),.int .i64 22] W fun e w'=>e=.returned (.int .u32 ((rot r.a 22:Nat):Int))∧w'=W:=fun W=>turn_q 22 22 hro.a rfl (by omega) W
   clear o1 oa oe ol hp1 hp2 hp3 hq1 ha' he' hne
   obtain⟨ca,cb,cc,cd,ce,cf,cg,ch',ck,cw⟩:=hH
   go_upto_region 6 with(fail)
   go_quiet (fail)
   replace hM:=hM.drewN nq
   replace ca:(wr.drewN nq).cell? _=_:=ca
   replace cb:(wr.drewN nq).cell? _=_:=cb
   replace cc:(wr.drewN nq).cell? _=_:=cc
   replace cd:(wr.drewN nq).cell? _=_:=cd
   replace ce:(wr.drewN nq).cell? _=_:=ce
   replace cf:(wr.drewN nq).cell? _=_:=cf
   replace cg:(wr.drewN nq).cell? _=_:=cg
   replace ch':(wr.drewN nq).cell? _=_:=ch'
   replace ck:(wr.drewN nq).cell? _=_:=ck
   replace cw:(wr.drewN nq).cell? _=_:=cw
   generalize wr.drewN nq=wx at *
   go_upto_region 7 with(fail)
   go_quiet ((first | (go_at_call 43;with_reducible exact Calls.quiet_of_same (z6 _)) | (go_at_call 43;with_reducible exact Calls.quiet_of_same (z11 _)) | (go_at_call 43;with_reducible exact Calls.quiet_of_same (z25 _))))
   replace hM:=hM.drewN nq
   replace ca:(wx.drewN nq).cell? _=_:=ca
   replace cb:(wx.drewN nq).cell? _=_:=cb
   replace cc:(wx.drewN nq).cell? _=_:=cc
   replace cd:(wx.drewN nq).cell? _=_:=cd
   replace ce:(wx.drewN nq).cell? _=_:=ce
   replace cf:(wx.drewN nq).cell? _=_:=cf
   replace cg:(wx.drewN nq).cell? _=_:=cg
   replace ch':(wx.drewN nq).cell? _=_:=ch'
   replace ck:(wx.drewN nq).cell? _=_:=ck
   replace cw:(wx.drewN nq).cell? _=_:=cw
   generalize wx.drewN nq=wy at *
   go_upto_region 8 with(fail)
   go_quiet ((first | (go_at_call 43;with_reducible exact Calls.quiet_of_same (z2 _)) | (go_at_call 43;with_reducible exact Calls.quiet_of_same (z13 _)) | (go_at_call 43;with_reducible exact Calls.quiet_of_same (z22 _))))
   replace hM:=hM.drewN nq
   replace ca:(wy.drewN nq).cell? _=_:=ca
   replace cb:(wy.drewN nq).cell? _=_:=cb
   replace cc:(wy.drewN nq).cell? _=_:=cc
   replace cd:(wy.drewN nq).cell? _=_:=cd
   replace ce:(wy.drewN nq).cell? _=_:=ce
   replace cf:(wy.drewN nq).cell? _=_:=cf
   replace cg:(wy.drewN nq).cell? _=_:=cg
   replace ch':(wy.drewN nq).cell? _=_:=ch'
   replace ck:(wy.drewN nq).cell? _=_:=ck
   replace cw:(wy.drewN nq).cell? _=_:=cw
   generalize wy.drewN nq=wz at *
   have hp:=hM.put hsz3 (rnd k wv r).list
   rw [HL.out] at hp
   have hI8:Hid ((Tryd.prog.info? 48).map (·.size)=some (u32s [a',r.a,r.b,r.c,e',r.e,r.f,r.g]).size):=Lib.hid (by rw [size26,u32s_size];rfl)
   have hO8:Hid ((u32s r.list).size=(u32s [a',r.a,r.b,r.c,e',r.e,r.f,r.g]).size):=Lib.hid (by rw [u32s_size,u32s_size];rfl)
   have h18:Hid ((u32s [a',r.a,r.b,r.c,e',r.e,r.f,r.g]).all (·.oneCell')=true):=Lib.hid (u32s_one _)
   have h7:=hM.r7
   go_wp2_with (first | ((with_reducible refine wpList_storeRow (op:=⟨none,.store 48 (.tmp 7) (.tmp 99),_,_,_,none⟩) rfl 48 (.tmp 7) (.tmp 99) rfl (n3+1+1) ?_ (cs:=u32s [a',r.a,r.b,r.c,e',r.e,r.f,r.g]) ?_ h7 hI8.out hO8.out h18.out ?_);(rfl;rfl)))
   go_roundw
   case rel=>exact⟨n+1,by omega,by go_num,by rw [HN.out,HL.out];exact hp⟩
   case measure=>simp [intOf];omega
  ·have hn9:n=64:=by omega
   subst hn9
   clear hn hlt
   rw [show((64:Nat):Int)=64 from rfl]
   obtain⟨r,hr⟩:∃ r,r=rnds ws s 64:=⟨_,rfl⟩
   rw [← hr] at hro HY hM
   clear hr
   have hrw:=St.list_words hro
   have hrl:=St.list_len r
   generalize r.list=v at *
   go_wp2_with fail
   have hM0:Below w.heap.size w wr∧Row wr w.heap.size 48 (u32s (added hs v 0))∧Row wr (w.heap.size+1+1) 48 (u32s z8)∧Row wr (n3+1+1) 48 (u32s v):=⟨hM.below,hM.r2,hM.r4,hM.r7⟩
   clear hM
   go_loopw [13] (fun i wr=>∃ n:Nat,n≤8∧i=.int .i64 n∧Below w.heap.size w wr∧Row wr w.heap.size 48 (u32s (added hs v n))∧Row wr (w.heap.size+1+1) 48 (u32s z8)∧Row wr (n3+1+1) 48 (u32s v)) (fun i _=>8-(intOf i).toNat)
   case atStart=>exact⟨0,by omega,rfl,hM0⟩
   case round =>
    clear hM0
    obtain⟨n,hn,rfl,hBB,hR1,hR3,hR7⟩:=hrel
    by_cases hlt:n<8
    ·have hd:decide ((n:Int)<8)=true:=by simp;omega
     have hb8:(n:Int)<8:=by omega
     have hn0:(0:Int)≤(n:Int):=by omega
     have c1:=hR1.word n (by rw [added_len,HH.out];omega)
     have c7:=hR7.word n (by rw [hrl];omega)
     have hf:=hR1.frozen n
     have HN:=Lib.hid (show added hs v (n+1)=(added hs v n).set n (((added hs v n).getD n 0+v.getD n 0)%4294967296) from rfl)
     have la:=(added_words HW.out v n).at n
     have lv:=hrw.at n
     generalize added hs v n=l at *
     generalize l.getD n 0=x at *
     generalize v.getD n 0=y at *
     obtain⟨z,hz9⟩:∃ z,z=(x+y)%4294967296:=⟨_,rfl⟩
     have y1:IntKind.u32.wrap ((x:Int)+(y:Int))=(z:Int):=by rw [IntKind.wrap_u32'];omega
     rw [← hz9] at HN
     clear hz9
     go_wp2_with fail
     refine wp_region_still_tail 9 (by kernel_rfl) (by kernel_rfl) ?_
     simp only [List.take_succ_cons,List.take_zero,List.drop_succ_cons,List.drop_zero]
     change wpStill _ _ wr.drew (fun a'=>wpList _ _ _ _ a' wr.drew) _ _
     replace c1:wr.drew.cell? _=_:=c1
     replace c7:wr.drew.cell? _=_:=c7
     replace hf:wr.drew.frozen? _=_:=hf
     replace hBB:=hBB.drew
     replace hR1:=hR1.drew
     replace hR3:=hR3.drew
     replace hR7:=hR7.drew
     generalize wr.drew=wd at *
     repeat still_step
     refine wpStill_nil ?_
     go_wp2_with fail
     go_roundw
     case rel=>exact⟨n+1,by omega,by go_num,hBB.setCell (p:=⟨w.heap.size,n,none⟩) (Nat.le_refl _) _,by rw [HN.out];exact hR1.set32 n z,hR3.apart (by omega) _ _,hR7.apart (by omega) _ _⟩
     case measure=>simp [intOf];omega
    ·have hn9:n=8:=by omega
     subst hn9
     clear hn hlt
     rw [← HY.out] at hR1
     have hlen:(block hs b).length=8:=by rw [block_len,HH.out]
     obtain⟨ws,hws⟩:∃ ws,ws=u32s (block hs b):=⟨_,rfl⟩
     have hln:8=(u32s (block hs b)).size:=by rw [u32s_size,hlen]
     have h1:=u32s_one (block hs b)
     rw [← hws] at hR1 hln h1
     have HW9:=Lib.hid hws
     have HI8:=Lib.hid (show(Tryd.prog.info? 48).map (·.size)=some ws.size by rw [size26,hln])
     have HO8:=Lib.hid (show(u32s z8).size=ws.size by rw [← hln];rfl)
     have H18:=Lib.hid h1
     have hB2:=below_setRow hBB (g:=w.heap.size+1+1) (by omega) ws
     have hR:=hR3.put ws
     clear hws hln h1
     go_wp2_with (first | ((with_reducible refine wpList_loadRow (op:=⟨some 113,.load 48 (.tmp 2),_,_,_,none⟩) rfl 48 (.tmp 2) rfl w.heap.size ?_ hR1 Tryd.underlying48 rfl HI8.out ?_);rfl) | ((with_reducible refine wpList_storeRow (op:=⟨none,.store 48 (.tmp 4) (.tmp 113),_,_,_,none⟩) rfl 48 (.tmp 4) (.tmp 113) rfl (w.heap.size+1+1) ?_ (cs:=ws) ?_ hR3 HI8.out HO8.out H18.out ?_);(rfl;rfl)))
     exact bodyPost_ret (v:=.agg ws) (results_row rfl rfl hR Tryd.underlying48 rfl HI8.out) rfl ⟨by rw [HW9.out],hB2⟩
end Go.Proofs.YtekogckmgkodfaaDoor.Sha
namespace Go.Proofs.YtekogckmgkodfaaDoor.Sha
open Go.RowKit Go.Shelf
attribute [local go_sem] Oper.semAt_some
theorem Start_any(w:World):Calls Tryd.prog 21 #[] w fun e w'=>e=.returned (.agg (u32s start))∧Below w.heap.size w w':=by
 have hz:=zero29
 go_enter Tryd.func21,Tryd.ntmps21
 go_upto_region 1 with(fail)
 have hR:=Row.new w 50 (u32s z8)
 go_step
 refine wpList_buildTo rfl 48 _ rfl (some 1) rfl (u32s start) (by kernel_rfl) ?_
 go_simp
 refine wpList_buildTo rfl 50 _ rfl (some 2) rfl (u32s start) (by kernel_rfl) ?_
 go_simp
 have hI:(Tryd.prog.info? 50).map (·.size)=some (u32s start).size:=by rw [size29,u32s_size,start_len]
 have hB2:=below_setRow ((Below.refl _ w).alloc (Nat.le_refl _) (.cells (u32s z8) 50)) (g:=w.heap.size) (Nat.le_refl _) (u32s start)
 have hR2:=hR.put (u32s start)
 have HI:=Lib.hid hI
 have HO:=Lib.hid (show(u32s z8).size=(u32s start).size by rw [u32s_size,u32s_size];rfl)
 have H19:=Lib.hid (u32s_one start)
 clear hI
 with_reducible refine wpList_storeRow (op:=⟨none,.store 50 (.tmp 0) (.tmp 2),_,_,_,none⟩) rfl 50 (.tmp 0) (.tmp 2) rfl w.heap.size ?_ (cs:=u32s start) ?_ hR HI.out HO.out H19.out ?_
 ·rfl
 ·rfl
 go_simp
 go_wp2_with fail
 exact bodyPost_ret (v:=.agg (u32s start)) (results_row rfl rfl hR2 Tryd.underlying50 rfl HI.out) rfl ⟨rfl,hB2⟩
theorem ref_Start_any(w:World):Calls Tryd.prog 30 #[] w fun e w'=>e=.returned (.agg (u32s start))∧Below w.heap.size w w':=by
 have hz:=zero26
 go_enter Tryd.func30,Tryd.ntmps30
 go_upto_region 1 with(fail)
 have hR:=Row.new w 48 (u32s z8)
 go_step
 refine wpList_buildTo rfl 48 _ rfl (some 1) rfl (u32s start) (by kernel_rfl) ?_
 go_simp
 have hI:(Tryd.prog.info? 48).map (·.size)=some (u32s start).size:=by rw [size26,u32s_size,start_len]
 have hB2:=below_setRow ((Below.refl _ w).alloc (Nat.le_refl _) (.cells (u32s z8) 48)) (g:=w.heap.size) (Nat.le_refl _) (u32s start)
 have hR2:=hR.put (u32s start)
 have HI:=Lib.hid hI
 have HO:=Lib.hid (show(u32s z8).size=(u32s start).size by rw [u32s_size,u32s_size];rfl)
 have H19:=Lib.hid (u32s_one start)
 clear hI
 with_reducible refine wpList_storeRow (op:=⟨none,.store 48 (.tmp 0) (.tmp 1),_,_,_,none⟩) rfl 48 (.tmp 0) (.tmp 1) rfl w.heap.size ?_ (cs:=u32s start) ?_ hR HI.out HO.out H19.out ?_
 ·rfl
 ·rfl
 go_simp
 go_wp2_with fail
 exact bodyPost_ret (v:=.agg (u32s start)) (results_row rfl rfl hR2 Tryd.underlying48 rfl HI.out) rfl ⟨rfl,hB2⟩
def fold(l:List (List UInt8)):List Nat:=l.foldl block start
theorem fold_snoc(l:List (List UInt8))(b:List UInt8):fold (l++[b])=block (fold l) b:=by simp [fold]
theorem fold_len:∀ l:List (List UInt8),(fold l).length=8:=by
 have h:∀ (l:List (List UInt8)) (s:List Nat),s.length=8→(l.foldl block s).length=8:=by
  intro l
  induction l with
  | nil=>exact fun s h=>h
  | cons b l ih=>exact fun s h=>ih _ (by rw [block_len,h])
 exact fun l=>h l start rfl
theorem fold_words:∀ l:List (List UInt8),Words (fold l):=by
 have h:∀ (l:List (List UInt8)) (s:List Nat),Words s→Words (l.foldl block s):=by
  intro l
  induction l with
  | nil=>exact fun s h=>h
  | cons b l ih=>exact fun s h=>ih _ (block_words h b)
 exact fun l=>h l start start_words
theorem fold_tells(all:List UInt8):∀ n,fold (tells all n)=run all n
 | 0=>rfl
 | n+1=>by rw [tells_succ,fold_snoc,fold_tells all n];rfl
theorem sum_full(s:ByteArray):sum s.data.toList=bytes (fold (tells (full s) ((full s).length / 64))):=by rw [fold_tells];rfl
theorem Row.kept{W W':World}{g B:Nat}{t:TypeId}{cs:Array Value}{row:Option Nat}(h:Row W g t cs)(hg:W.grownBy W' row)(hr:∀ r,row=some r→B≤r∧∃ o:Obj,W.heap[r]? = some o∧o.isCells=false):Row W' g t cs:=by
 refine(hg.block g h.lt (fun e=>?_)).trans h
 obtain⟨_,_,ho,hc⟩:=hr g e.symm
 rw [show W.heap[g]? = _ from h] at ho
 cases ho
 cases hc
theorem keepsOthers_below{W W':World}(h:Below W.heap.size W W'):KeepsOthers W W' :=
 ⟨h.size,fun k _ hk _=>(h.block k (Array.getElem?_eq_some_iff.1 hk).1).trans hk⟩
theorem keepsOthers_setRow{W:World}{g:Nat}{t:TypeId}{old:Array Value}(h:Row W g t old)(cs:Array Value):KeepsOthers W (W.setRow g cs) :=
 ⟨by simp,fun k _ hk ho=>by
  have hne:k≠g:=fun e=>by
   subst e
   rw [show W.heap[k]? = _ from h] at hk
   cases hk
   cases ho
  rw [setRow_other _ _ _ _ hne];exact hk⟩
structure SumI (w W:World) (g3 g4:Nat) (pre:List Blk):Prop where
 st:Row W g3 50 (u32s (fold (vals pre)))
 kept:Boxed W g4 44 (.func (.func 22) #[.agg (u32s (fold (vals pre)))] #[])
 below:Below w.heap.size w W
 size:g4+2≤W.heap.size
theorem Sum_in(s:ByteArray)(hs:s.size≤1073741824)(w:World)(hG:Cubes w) :
  CallsIn Fence.wide 4 Tryd.prog 11 #[.string s] w fun e w'=>e=.returned (.string ⟨(sum s.data.toList).toArray⟩)∧Below w.heap.size w w':=by
 have hz:=zero29
 refine callsIn_of_wp_marks Tryd.func11 rfl trivial ?_ rfl
 simp only [Tryd.ntmps11,List.size_toArray,List.length_cons,List.length_nil,Nat.reduceAdd,Nat.reduceSub,Array.replicate_succ,Array.replicate_zero,List.push_toArray,List.append_toArray,List.nil_append,List.cons_append]
 refine(wpIn_wide (n:=4)).2 ?_
 have HI:Hid ((Tryd.prog.info? 50).map (·.size)=some (u32s start).size):=Lib.hid (by rw [size29,u32s_size,start_len])
 have HO:Hid ((u32s z8).size=(u32s start).size):=Lib.hid (by rw [u32s_size,u32s_size];rfl)
 have H1:Hid ((u32s start).all (·.oneCell')=true):=Lib.hid (u32s_one start)
 go_upto_region 2 with(first | ((with_reducible refine(Start_any _).mono ?_);rintro e w1 ⟨rfl,hb1⟩;have hR1:=Row.new w1 50 (u32s z8)) | ((with_reducible refine wpList_storeRow (op:=⟨none,.store 50 (.tmp 3) (.tmp 6),_,_,_,none⟩) rfl 50 (.tmp 3) (.tmp 6) rfl w1.heap.size ?_ (cs:=u32s start) ?_ hR1 HI.out HO.out H1.out ?_);(rfl;rfl)))
 have hR2:=hR1.put (u32s start)
 have hB2:Below w.heap.size w ((w1.alloc (.cells (u32s z8) 50)).setRow w1.heap.size (u32s start)):=below_setRow (hb1.alloc hb1.size _) hb1.size _
 have hS2:=Lib.hid (show((w1.alloc (.cells (u32s z8) 50)).setRow w1.heap.size (u32s start)).heap.size=w1.heap.size+1 by simp)
 have hn1:w.heap.size≤w1.heap.size:=hb1.size
 generalize (w1.alloc (.cells (u32s z8) 50)).setRow w1.heap.size (u32s start)=w2 at *
 generalize w1.heap.size=g3 at *
 clear hR1 hb1
 go_wp2_with (first | ((with_reducible refine wpList_loadRow (op:=⟨some 7,.load 50 (.tmp 3),_,_,_,none⟩) rfl 50 (.tmp 3) rfl g3 ?_ hR2 Tryd.underlying50 rfl HI.out ?_);rfl) | ((with_reducible refine(blocks_any s _).mono ?_);rintro e w3 ⟨rfl,rfl⟩))
 generalize hW0:(w2.alloc (Obj.cells #[Value.func (Fn.func 22) #[Value.agg (u32s start)] #[]] 44)).alloc (Obj.cells #[Value.string s] 9)=W0
 have h2:=hS2.out
 have hI0:SumI w W0 g3 w2.heap.size []:=by
  rw [← hW0]
  exact⟨(hR2.alloc _).alloc _,(Boxed.new _ _ _).alloc _,(hB2.alloc (by omega) _).alloc (by simp;omega) _,by simp⟩
 have hsz0:W0.heap.size=w2.heap.size+2:=by rw [← hW0];simp
 have hc0:W0.cell? ⟨w2.heap.size+1,0,none⟩=some (.string s):=by
  rw [← hW0]
  exact World.cell?_alloc_at _ _ _ _ (by simp)
 have hg34:g3<w2.heap.size:=hR2.lt
 generalize w2.heap.size=g4 at *
 clear hW0 hR2 hB2 hS2 h2
 have hnW:w.heap.size≤W0.heap.size:=by omega
 refine(wpIn_wide (n:=4)).1 ?_
 refine wpIn_rangeFunc_ownH (F:=Fence.wide) rfl (by omega) (gf:=35) (lb:=#[.pointer (some ⟨g4+1,0,none⟩)]) rfl trivial (enters_of Tryd.func35 (by kernel_rfl) rfl)
  (blocks_stops (g4+1) w.heap.size s hs W0 (by omega) hc0) belowK_t (belowK_b hnW) (Below.refl _ _) (fun _=>rfl)
  (fun(pre:List Blk) W=>SumI w W g3 g4 pre)
  (fun _ _ _=>False)
  (fun pre X Y row hI hg hr=>⟨hI.st.kept hg hr,hI.kept.kept hg (fun e=>by
    obtain⟨_,_,ho,hc⟩:=hr g4 e.symm
    rw [show X.heap[g4]? = _ from hI.kept] at ho
    cases ho;cases hc),hI.below.grown hg hI.below.size (fun k e=>by have:=(hr k e).1;omega),by have:=hg.size;have:=hI.size;omega⟩)
  (fun _ _ _ _ _ hs _ _=>hs)
  hI0
  (fun x a' W=>∃ B,g4+1<B∧Row W B 55 (u8s x.1)∧a'={ tmps:=#[.string s,undef,.string { data:=#[] },.pointer (some ⟨g3,0,none⟩),.pointer (some ⟨g4,0,none⟩),.pointer (some ⟨B,0,none⟩),.agg (u32s start),.agg (u32s start),.func (.func 22) #[.agg (u32s start)] #[],.string s,.func (.func 35) #[] #[.pointer (some ⟨g4+1,0,none⟩)],.agg (u8s x.1),undef,undef,undef,undef,undef,undef,undef],defers:=[] })
  (fun x a' _ X Y row ⟨B,h1,h2,h3⟩ hg hr=>⟨B,h1,h2.kept hg hr,h3⟩)
  ?assign ?body ?done ?stop
 case assign =>
  intro l pre x W K hI hK
  have hz2:=zero27
  have hRn:=Row.new W 55 (u8s b64)
  have hxI:Hid ((Tryd.prog.info? 55).map (·.size)=some (u8s x.1).size):=Lib.hid (by rw [size27,u8s_size,x.2])
  have hxO:Hid ((u8s b64).size=(u8s x.1).size):=Lib.hid (by rw [u8s_size,u8s_size,x.2,b64_len])
  have hx1:Hid ((u8s x.1).all (·.oneCell')=true):=Lib.hid (u8s_one _)
  have hl3:=hI.st.lt
  have hl4:g4<W.heap.size:=hI.kept.lt
  have hKK:=hK _ ((W.alloc (.cells (u8s b64) 55)).setRow W.heap.size (u8s x.1))
   (((KeepsOthers.alloc W _).trans (keepsOthers_setRow hRn (u8s x.1))).from _)
   (below_setRow ((Below.refl w.heap.size W).alloc hI.below.size _) hI.below.size _)
   ⟨(hI.st.alloc _).putApart (by omega) _,(show Row _ _ _ _ from hI.kept.alloc _).putApart (by omega) _,below_setRow (hI.below.alloc hI.below.size _) hI.below.size _,by have:=hI.size;simp;omega⟩
   ⟨W.heap.size,by have:=hI.size;omega,hRn.put _,rfl⟩
  have HK:=Lib.hid hKK
  clear hKK hK hl3 hl4
  gi_wp2_with ((with_reducible refine wpListIn_storeRow (op:=⟨none,.store 55 (.tmp 5) (.tmp 11),_,_,_,none⟩) rfl 55 (.tmp 5) (.tmp 11) rfl W.heap.size ?_ (cs:=u8s x.1) ?_ hRn hxI.out hxO.out hx1.out ?_);(rfl;rfl))
  exact HK.out
 case body =>
  rintro l pre x a' W hl ⟨r,hr⟩ hI ⟨B,hB1,hB2,rfl⟩ hlt
  have hfl:=fold_len (vals pre)
  have hfw:=fold_words (vals pre)
  have HF:Hid (fold (vals (pre++[x]))=block (fold (vals pre)) x.1):=Lib.hid (by rw [vals_snoc,fold_snoc])
  have hst:=hI.st
  have hkp:=hI.kept
  have hG9:=hG.below hI.below
  have hbs:=hI.below.size
  have hsz:=hI.size
  have hbI:=hI.below
  have hx9:=x.2
  clear hI hI0
  generalize fold (vals pre)=f at *
  obtain⟨xb,hxb⟩:∃ xb,xb=x.1:=⟨_,rfl⟩
  rw [← hxb] at HF hB2 hx9 ⊢
  clear hxb
  have hfI:Hid ((Tryd.prog.info? 50).map (·.size)=some (u32s f).size):=Lib.hid (by rw [size29,u32s_size,hfl])
  have hxI:Hid ((Tryd.prog.info? 55).map (·.size)=some (u8s xb).size):=Lib.hid (by rw [size27,u8s_size,hx9])
  have hbI9:Hid ((Tryd.prog.info? 50).map (·.size)=some (u32s (block f xb)).size):=Lib.hid (by rw [size29,u32s_size,block_len,hfl])
  have hbO:Hid ((u32s f).size=(u32s (block f xb)).size):=Lib.hid (by rw [u32s_size,u32s_size,block_len])
  have hb1:Hid ((u32s (block f xb)).all (·.oneCell')=true):=Lib.hid (u32s_one _)
  have hblk:=fun W' (hG':Cubes W')=>Block_any f xb hfl hfw hx9 W' hG'
  have HBL:=Lib.hid hblk
  have h3:=hst.lt
  have h4:g4<W.heap.size:=hkp.lt
  clear hblk hfl hfw hx9
  gi_wp2_with (first
   | ((with_reducible refine wpListIn_loadRow (op:=⟨some 12,.load 50 (.tmp 3),_,_,_,none⟩) rfl 50 (.tmp 3) rfl g3 ?_ hst Tryd.underlying50 rfl hfI.out ?_);rfl)
   | ((with_reducible refine wpListIn_loadRow (op:=⟨some 13,.load 55 (.tmp 5),_,_,_,none⟩) rfl 55 (.tmp 5) rfl B ?_ hB2 Tryd.underlying55 rfl hxI.out ?_);rfl))
  refine⟨trivial,?_⟩
  refine(CallsIn.inRound l ((callsIn_wide (n:=1)).2 (HBL.out _ hG9))).mono ?_
  rintro e w3 ⟨rfl,hb3⟩
  have hst3:=hst.below hb3 h3
  have hkp3:Boxed w3 g4 _ _:=(show Row _ _ _ _ from hkp).below hb3 h4
  have hst4:=hst3.put (u32s (block f xb))
  have hkp4:Boxed (w3.setRow g3 (u32s (block f xb))) g4 _ _:=(show Row _ _ _ _ from hkp3).putApart (by omega) _
  have hc4:=hkp4.cell
  have hf4:=hkp4.frozen
  gi_wp2_with (first
   | ((with_reducible refine wpListIn_storeRow (op:=⟨none,.store 50 (.tmp 3) (.tmp 14),_,_,_,none⟩) rfl 50 (.tmp 3) (.tmp 14) rfl g3 ?_ (cs:=u32s (block f xb)) ?_ hst3 hbI9.out hbO.out hb1.out ?_);(rfl;rfl))
   | ((with_reducible refine wpListIn_loadRow (op:=⟨some 15,.load 50 (.tmp 3),_,_,_,none⟩) rfl 50 (.tmp 3) rfl g3 ?_ hst4 Tryd.underlying50 rfl hbI9.out ?_);rfl))
  have hset:=hkp4.set (.func (.func 22) #[.agg (u32s (block f xb))] #[])
  have hstA:=hst4.apart (show g3≠g4 by omega) 0 (.func (.func 22) #[.agg (u32s (block f xb))] #[])
  have hbel:=(below_setRow (hb3.mono hbs) (g:=g3) (by omega) (u32s (block f xb))).setCell (p:=⟨g4,0,none⟩) (by simp;omega) (.func (.func 22) #[.agg (u32s (block f xb))] #[])
  refine⟨(((keepsOthers_below hb3).trans (keepsOthers_setRow hst3 _)).trans (KeepsOthers.setCell _ _ _)).from _,hbel,?_⟩
  refine⟨?_,?_,hbI.trans hbel,?_⟩
  ·rw [HF.out];exact hstA
  ·rw [HF.out];exact hset
  ·have:=hb3.size
   simp [World.setCell]
   omega
 case done =>
  rintro D ys W hD hys hI hK
  have hc:=hI.kept.cell
  have hfl:=fold_len (vals ys)
  have hfw:=fold_words (vals ys)
  have HS:=Lib.hid (sum_full s)
  rw [← hys] at HS
  have hDlt:D<W.heap.size:=(Array.getElem?_eq_some_iff.1 hK).1
  have hbI:=hI.below
  clear hI hI0 hys
  generalize fold (vals ys)=f at *
  have HBY:=Lib.hid (fun W'=>Bytes_any f hfl hfw W')
  clear hfl hfw
  go_wp2_with (go_at_call 22;refine(HBY.out _).mono ?_;rintro e w4 ⟨rfl,hb4⟩)
  have hK4:=(hb4.block D hDlt).trans hK
  refine⟨by simp,.inl ⟨_,_,rfl,run_takeDeferred hK4,?_⟩⟩
  exact⟨_,results_tmp (t:=2) rfl _ _ _,ret_str (by rw [HS.out]),(hbI.trans (hb4.mono hbI.size)).trans (belowK_b (w:=W0) hnW w4 D _ _ hD hK4 rfl rfl)⟩
 case stop =>
  rintro D c pre W _ _ h _
  exact h.elim
theorem Sum_any(s:ByteArray)(hs:s.size≤1073741824)(w:World)(hG:Cubes w) :
  Calls Tryd.prog 11 #[.string s] w fun e w'=>e=.returned (.string ⟨(sum s.data.toList).toArray⟩)∧Below w.heap.size w w' :=
 (callsIn_wide (n:=4)).1 (Sum_in s hs w hG)
end Go.Proofs.YtekogckmgkodfaaDoor.Sha
namespace Go.Proofs.YtekogckmgkodfaaDoor.Sha
open Go.RowKit
def part(b:List UInt8)(i:Nat):List UInt8:=b.take i++List.replicate (64-i) 0
theorem part_zero(b:List UInt8):part b 0=b64:=by simp [part,b64]
theorem part_all{b:List UInt8}(h:b.length=64):part b 64=b:=by simp [part];exact List.take_of_length_le (by omega)
theorem part_len{b:List UInt8}(h:b.length=64)(i:Nat)(hi:i≤64):(part b i).length=64:=by
 rw [part,List.length_append,List.length_take,List.length_replicate];omega
theorem part_succ{b:List UInt8}(h:b.length=64)(i:Nat)(hi:i<64):(part b i).set i (b.getD i 0)=part b (i+1):=by
 unfold part
 rw [List.set_append_right _ _ (by rw [List.length_take];omega),List.length_take,Nat.min_eq_left (by omega),Nat.sub_self,show 64-i=(64-(i+1))+1 by omega,List.replicate_succ,List.set_cons_zero,
  List.take_succ_eq_append_getElem (by omega),List.append_assoc,List.getD_eq_getElem?_getD,List.getElem?_eq_getElem (by omega)]
 rfl
theorem blk_at(all:List UInt8)(n i:Nat)(hi:i<64):(blk all n).getD i 0=all.getD (64*n+i) 0:=by
 simp only [List.getD_eq_getElem?_getD]
 rw [blk,List.getElem?_take_of_lt hi,List.getElem?_drop]
theorem ref_Sum_any(s:ByteArray)(hs:s.size≤1073741824)(w:World) :
  Calls Tryd.prog 20 #[.string s] w fun e w'=>e=.returned (.string ⟨(sum s.data.toList).toArray⟩)∧Below w.heap.size w w':=by
 have hz:=zero26
 have hz2:=zero27
 obtain⟨P,hP⟩:∃ A:ByteArray,A=⟨(pad s.size).toArray⟩:=⟨_,rfl⟩
 have hPs:P.size≤73:=by rw [hP,size_list,pad_len];omega
 have hpad:=fun W=>ref_Pad_any s.size (by omega) W
 rw [← hP] at hpad
 have HPAD:=Lib.hid hpad
 obtain⟨A,hA⟩:∃ A,A=s++P:=⟨_,rfl⟩
 have hcat:s++P=A:=hA.symm
 have hAd:A.data.toList=full s:=by rw [hA,hP,full,ByteArray.data_append,Array.toList_append]
 have hAl:A.size=(full s).length:=by rw [← hAd];rfl
 have hAs:A.size≤1073741900:=by rw [hA,ByteArray.size_append];omega
 have h64:=full_len s
 obtain⟨m,hm⟩:∃ m,m=(full s).length / 64:=⟨_,rfl⟩
 have HM:Hid (A.size=64*m):=Lib.hid (by omega)
 have HS:=Lib.hid (sum_full s)
 rw [← hm] at HS
 have HAD:=Lib.hid hAd
 clear hpad hP hA hAd hAl h64 hm
 have HI:Hid ((Tryd.prog.info? 48).map (·.size)=some (u32s start).size):=Lib.hid (by rw [size26,u32s_size,start_len])
 have HO:Hid ((u32s z8).size=(u32s start).size):=Lib.hid (by rw [u32s_size,u32s_size];rfl)
 have H1:Hid ((u32s start).all (·.oneCell')=true):=Lib.hid (u32s_one start)
 go_enter Tryd.func20,Tryd.ntmps20
 go_upto_region 2 with(first | ((with_reducible refine(ref_Start_any _).mono ?_);rintro e w1 ⟨rfl,hb1⟩;have hR1:=Row.new w1 48 (u32s z8)) | ((with_reducible refine wpList_storeRow (op:=⟨none,.store 48 (.tmp 3) (.tmp 7),_,_,_,none⟩) rfl 48 (.tmp 3) (.tmp 7) rfl w1.heap.size ?_ (cs:=u32s start) ?_ hR1 HI.out HO.out H1.out ?_);(rfl;rfl)))
 have hR2:=hR1.put (u32s start)
 have hB2:Below w.heap.size w ((w1.alloc (.cells (u32s z8) 48)).setRow w1.heap.size (u32s start)):=below_setRow (hb1.alloc hb1.size _) hb1.size _
 have hn1:w.heap.size≤w1.heap.size:=hb1.size
 generalize (w1.alloc (.cells (u32s z8) 48)).setRow w1.heap.size (u32s start)=w2 at *
 generalize w1.heap.size=g3 at *
 clear hR1 hb1
 go_wp2_with (go_at_call 31;refine(HPAD.out _).mono ?_;rintro e w3 ⟨rfl,hb3⟩)
 have hR3:=hR2.below hb3 hR2.lt
 have hB3:=hB2.trans (hb3.mono hB2.size)
 clear hR2 hB2 hb3
 go_loopw [4] (fun a wr=>∃ n:Nat,n≤m∧a=.int .i64 ((64*n:Nat):Int)∧Below w.heap.size w wr∧Row wr g3 48 (u32s (fold (tells (full s) n)))) (fun a _=>64*m-(intOf a).toNat)
 case atStart=>exact⟨0,by omega,rfl,hB3,hR3⟩
 case round =>
  clear hR3 hB3
  obtain⟨n,hn,rfl,hB3,hR3⟩:=hrel
  obtain⟨t,ht⟩:∃ t,t=64*n:=⟨_,rfl⟩
  have hms:=HM.out
  have hg3:=hR3.lt
  by_cases hlt:n<m
  ·have hd1:(t:Int)+64≤(A.size:Int):=by omega
   have hd2:t+64≤A.size:=by omega
   rw [← ht]
   have HT:=Lib.hid ht
   have hbl:(blk (full s) n).length=64:=blk_len (by rw [← HAD.out];show 64*n+64≤A.size;omega)
   clear ht hms
   go_wp2_with fail
   have hRn:=Row.new wr 55 (u8s b64)
   rw [← part_zero (blk (full s) n)] at hRn ⊢
   have hBn:=hB3.alloc hB3.size (.cells (u8s (part (blk (full s) n) 0)) 55)
   have hRa:=hR3.alloc (.cells (u8s (part (blk (full s) n) 0)) 55)
   have hnb:=hB3.size
   generalize wr.alloc (.cells (u8s (part (blk (full s) n) 0)) 55)=wx at *
   generalize wr.heap.size=g5 at *
   clear hB3 hR3
   go_loopw [6] (fun a wr=>∃ i:Nat,i≤64∧a=.int .i64 i∧Below w.heap.size w wr∧Row wr g3 48 (u32s (fold (tells (full s) n)))∧Row wr g5 55 (u8s (part (blk (full s) n) i))) (fun a _=>64-(intOf a).toNat)
   case atStart=>exact⟨0,by omega,rfl,hBn,hRa,hRn⟩
   case round =>
    clear hBn hRa hRn
    obtain⟨i,hi,rfl,hB,hR3,hR5⟩:=hrel
    by_cases hli:i<64
    ·have hd3:decide ((i:Int)<64)=true:=by simp;omega
     have hb64:(i:Int)<64:=by omega
     obtain⟨q,hq⟩:∃ q,q=t+i:=⟨_,rfl⟩
     have q1:(t:Int)+(i:Int)=(q:Int):=by omega
     have q2:IntKind.i64.wrap (q:Int)=(q:Int):=IntWalk.i64_in _ (by omega)
     have hqs:q<A.size:=by omega
     have hqi:(q:Int)<(A.size:Int):=by omega
     have hq0:(0:Int)≤(q:Int):=by omega
     have hv:A[q]=(blk (full s) n).getD i 0:=by
      rw [blk_at _ _ _ hli,← HAD.out,← HT.out,← hq,List.getD_eq_getElem?_getD,List.getElem?_eq_getElem (by simpa using hqs)];rfl
     have hp:=part_succ hbl i hli
     rw [← hv] at hp
     have HP:=Lib.hid hp
     have hc:=hR5.byte i (by rw [part_len hbl i hi];omega)
     have hf:=hR5.frozen i
     clear hv hp hq
     go_wp2_with fail
     go_roundw
     case rel=>exact⟨i+1,by omega,by go_num,hB.setCell (p:=⟨g5,i,none⟩) (by simpa using hnb) _,hR3.apart (by omega) _ _,by rw [← HP.out];exact hR5.set8 i A[q]⟩
     case measure=>simp [intOf];omega
    ·have hi9:i=64:=by omega
     subst hi9
     clear hi hli
     rw [part_all hbl] at hR5
     have hfl:=fold_len (tells (full s) n)
     have hfw:=fold_words (tells (full s) n)
     have HN:Hid (fold (tells (full s) (n+1))=block (fold (tells (full s) n)) (blk (full s) n)):=Lib.hid (by rw [tells_succ,fold_snoc])
     generalize fold (tells (full s) n)=f at *
     generalize blk (full s) n=xb at *
     have hfI:Hid ((Tryd.prog.info? 48).map (·.size)=some (u32s f).size):=Lib.hid (by rw [size26,u32s_size,hfl])
     have hxI:Hid ((Tryd.prog.info? 55).map (·.size)=some (u8s xb).size):=Lib.hid (by rw [size27,u8s_size,hbl])
     have hbI9:Hid ((Tryd.prog.info? 48).map (·.size)=some (u32s (block f xb)).size):=Lib.hid (by rw [size26,u32s_size,block_len,hfl])
     have hbO:Hid ((u32s f).size=(u32s (block f xb)).size):=Lib.hid (by rw [u32s_size,u32s_size,block_len])
     have hb1:Hid ((u32s (block f xb)).all (·.oneCell')=true):=Lib.hid (u32s_one _)
     have HBL:=Lib.hid (fun W'=>ref_Block_any f xb hfl hfw hbl W')
     have h3:=hR3.lt
     clear hfl hfw hbl
     go_wp2_with (first
      | ((with_reducible refine wpList_loadRow (op:=⟨some 31,.load 48 (.tmp 3),_,_,_,none⟩) rfl 48 (.tmp 3) rfl g3 ?_ hR3 Tryd.underlying48 rfl hfI.out ?_);rfl)
      | ((with_reducible refine wpList_loadRow (op:=⟨some 32,.load 55 (.tmp 5),_,_,_,none⟩) rfl 55 (.tmp 5) rfl g5 ?_ hR5 Tryd.underlying55 rfl hxI.out ?_);rfl))
     refine(HBL.out _).mono ?_
     rintro e w4 ⟨rfl,hb4⟩
     have hR4:=hR3.below hb4 h3
     have hR6:=hR4.put (u32s (block f xb))
     go_wp2_with (first
      | ((with_reducible refine wpList_storeRow (op:=⟨none,.store 48 (.tmp 3) (.tmp 33),_,_,_,none⟩) rfl 48 (.tmp 3) (.tmp 33) rfl g3 ?_ (cs:=u32s (block f xb)) ?_ hR4 hbI9.out hbO.out hb1.out ?_);(rfl;rfl)))
     go_roundw
     case rel=>exact⟨n+1,by omega,int_i64 (by have:=HT.out;omega),below_setRow (hB.trans (hb4.mono hB.size)) hn1 _,by rw [HN.out];exact hR6⟩
     case measure=>have:=HT.out;simp [intOf];omega
  ·have hn9:n=m:=by omega
   subst hn9
   have hd1:decide ((t:Int)+64≤(A.size:Int))=false:=by simp;omega
   have hd2:¬ t+64≤A.size:=by omega
   have hd3:A.size<t+64:=by omega
   have ht9:t≤1073741900:=by omega
   rw [← ht]
   have HT:=Lib.hid ht
   clear ht hms
   have hfl:=fold_len (tells (full s) n)
   have hfw:=fold_words (tells (full s) n)
   generalize fold (tells (full s) n)=f at *
   have hfI:Hid ((Tryd.prog.info? 48).map (·.size)=some (u32s f).size):=Lib.hid (by rw [size26,u32s_size,hfl])
   have HBY:=Lib.hid (fun W'=>ref_Bytes_any f hfl hfw W')
   clear hfl hfw
   go_wp2_with (first
    | ((with_reducible refine wpList_loadRow (op:=⟨some 34,.load 48 (.tmp 3),_,_,_,none⟩) rfl 48 (.tmp 3) rfl g3 ?_ hR3 Tryd.underlying48 rfl hfI.out ?_);rfl))
   refine(HBY.out _).mono ?_
   rintro e w4 ⟨rfl,hb4⟩
   go_wp2_with fail
   go_ret
   exact⟨ret_str (by rw [HS.out]),hB3.trans (hb4.mono hB3.size)⟩
end Go.Proofs.YtekogckmgkodfaaDoor.Sha
