/-
  Plain facts on numbers in groups of seven bits: what is written, how long it is, what is read back. No program is met here.
  The Go text of package leb, walked: the digits that a range over a function tells, Put, Size.
  The Go text of package leb, walked: Put and Size, by the digits' contract.
  The document's own Go text for layer 1, walked.
  The document's own Go text for layer 1, walked: bytes, value, Get.
  The document's own Go text for layer 1, walked: Get.
  The Go text of package leb, walked: Get.
-/
import Derived.Below
import Derived.Lib.Hide
import Derived.RangeFuncNested
import Derived.RangeFuncBound
import Derived.RangeFuncCalls
import Derived.RangeFuncLeaves
import Derived.Shelf.Abstract
import Derived.Shelf.RegionOpen
import Derived.WalkKit
import Derived.OwnWalkIn
import Derived.TacticsInMore
import Derived.LoopNIn
import Derived.LoopIn
import Derived.Maps.AppendAt
import Derived.Laws.BytesArg
import Derived.WalkSpells
import Derived.Outline
import Derived.Test.YtekogckmgkodfaaGreatDoorRows
import Derived.Deep.RegionWith
import Derived.Lib.Strings
import Derived.Deep.LoopGhost
set_option maxRecDepth 100000
set_option maxHeartbeats 2000000
namespace Go.Proofs.YtekogckmgkodfaaGreatDoor.Leb
def lput(n:Nat):List UInt8:=if n<128 then [UInt8.ofNat n] else UInt8.ofNat (128+n%128)::lput (n / 128)
termination_by n
decreasing_by omega
theorem lput_lo{n:Nat}(h:n<128):lput n=[UInt8.ofNat n]:=by rw [lput,if_pos h]
theorem lput_hi{n:Nat}(h:128≤n):lput n=UInt8.ofNat (128+n%128)::lput (n / 128):=by rw [lput,if_neg (by omega)]
def lval:List UInt8→Nat
 | []=>0
 | b::r=>b.toNat%128+128*lval r
def lbytes:Nat→List UInt8→Nat
 | 0,_=>0
 | _+1,[]=>0
 | f+1,b::r=>if b.toNat<128 then 1 else if lbytes f r=0 then 0 else lbytes f r+1
theorem ofNat_lo{n:Nat}(h:n<256):(UInt8.ofNat n).toNat=n:=by simp;omega
theorem lput_ne(n:Nat):lput n≠[]:=by
 by_cases h:n<128
 ·rw [lput_lo h];simp
 ·rw [lput_hi (by omega)];simp
theorem lput_pos(n:Nat):1≤(lput n).length:=by
 have:=lput_ne n
 cases h:lput n with
 | nil=>exact absurd h this
 | cons=>simp
theorem lval_lput(n:Nat):lval (lput n)=n:=by
 induction n using Nat.strongRecOn with
 | ind n ih =>
  by_cases h:n<128
  ·rw [lput_lo h];simp only [lval,ofNat_lo (show n<256 by omega)];omega
  ·rw [lput_hi (by omega)]
   simp only [lval,ofNat_lo (show 128+n%128<256 by omega),ih (n / 128) (by omega)]
   omega
theorem lput_inj{a b:Nat}(h:lput a=lput b):a=b:=by
 rw [← lval_lput a,h,lval_lput]
theorem lput_len_le:∀ (k n:Nat),n<128 ^ (k+1)→(lput n).length≤k+1
 | 0,n,h=>by rw [lput_lo (by simpa using h)];simp
 | k+1,n,h=>by
  by_cases hn:n<128
  ·rw [lput_lo hn];simp
  ·rw [lput_hi (by omega)]
   have:=lput_len_le k (n / 128) (by rw [Nat.pow_succ] at h;omega)
   simp;omega
theorem lput_len10{n:Nat}(h:n≤18446744073709551615):(lput n).length≤10:=lput_len_le 9 n (by omega)
theorem lput_len_mono(a:Nat):∀ b,a≤b→(lput a).length≤(lput b).length:=by
 induction a using Nat.strongRecOn with
 | ind a ih =>
  intro b hab
  by_cases ha:a<128
  ·rw [lput_lo ha];exact lput_pos b
  ·rw [lput_hi (show 128≤a by omega),lput_hi (show 128≤b by omega)]
   have:=ih (a / 128) (by omega) (b / 128) (by omega)
   simp;omega
theorem lbytes_le:∀ (f:Nat) (l:List UInt8),lbytes f l≤l.length∧lbytes f l≤f
 | 0,_=>by simp [lbytes]
 | f+1,[]=>by simp [lbytes]
 | f+1,b::r=>by
  have:=lbytes_le f r
  unfold lbytes
  split
  ·simp
  ·split
   ·simp
   ·simp;omega
theorem lbytes_lput(n:Nat):∀ (f:Nat) (t:List UInt8),(lput n).length≤f→lbytes f (lput n++t)=(lput n).length:=by
 induction n using Nat.strongRecOn with
 | ind n ih =>
  intro f t hf
  cases f with
  | zero=>have:=lput_pos n;omega
  | succ f =>
   by_cases h:n<128
   ·rw [lput_lo h]
    simp only [List.cons_append,List.nil_append,lbytes,ofNat_lo (show n<256 by omega),if_pos h]
    rfl
   ·rw [lput_hi (by omega)] at hf ⊢
    simp only [List.length_cons] at hf
    have:=ih (n / 128) (by omega) f t (by omega)
    have hp:=lput_pos (n / 128)
    simp only [List.cons_append,lbytes,ofNat_lo (show 128+n%128<256 by omega),this]
    rw [if_neg (by omega),if_neg (by omega)]
    simp
theorem lput_prefix_free{a b:Nat}(h:(lput b).take (lput a).length=lput a):a=b:=by
 have hb:=lbytes_lput b ((lput b).length+(lput a).length) [] (by omega)
 have ha:=lbytes_lput a ((lput b).length+(lput a).length) ((lput b).drop (lput a).length) (by omega)
 have e:lput a++(lput b).drop (lput a).length=lput b:=by
  have:=List.take_append_drop (lput a).length (lput b)
  rw [h] at this
  exact this
 rw [e] at ha
 rw [List.append_nil,ha] at hb
 rw [hb,List.take_length] at h
 exact lput_inj h.symm
theorem lput_prefix_take(a b:Nat):decide ((lput b).take (lput a).length=lput a)=decide (a=b):=by
 by_cases h:a=b
 ·subst h;simp
 ·rw [decide_eq_false h,decide_eq_false (fun e=>h (lput_prefix_free e))]
def lget(l:List UInt8)(at_:Int):Nat×Int×Int :=
 if at_<0∨(l.length:Int)<at_ then(0,at_,1)
 else if lbytes 10 (l.drop at_.toNat)=0 then(if l.length-at_.toNat<10 then(0,at_,2) else(0,at_,3))
 else if lput (lval ((l.drop at_.toNat).take (lbytes 10 (l.drop at_.toNat)))%18446744073709551616)=(l.drop at_.toNat).take (lbytes 10 (l.drop at_.toNat))
  then(lval ((l.drop at_.toNat).take (lbytes 10 (l.drop at_.toNat)))%18446744073709551616,at_+lbytes 10 (l.drop at_.toNat),0)
 else(0,at_,3)
theorem lget_back{n:Nat}(h:n≤18446744073709551615)(x y:List UInt8):lget (x++lput n++y) x.length=(n,(x.length:Int)+(lput n).length,0):=by
 have hl:=lput_len10 h
 have hp:=lput_pos n
 have hd:(x++lput n++y).drop x.length=lput n++y:=by simp [List.append_assoc]
 unfold lget
 rw [Int.toNat_natCast,hd,lbytes_lput n 10 y hl,List.take_left' rfl,lval_lput,Nat.mod_eq_of_lt (by omega)]
 rw [if_neg (by simp;omega),if_neg (by omega),if_pos rfl]
theorem lget_fst_le(l:List UInt8)(a:Int):(lget l a).1≤18446744073709551615:=by
 unfold lget
 split
 ·simp
 ·split
  ·split<;>simp
  ·split
   ·simp only;omega
   ·simp
theorem lget_only(l:List UInt8)(a:Int)(h:(lget l a).2.2=0) :
  0≤a∧a<(lget l a).2.1∧(lget l a).2.1≤l.length∧lput (lget l a).1=(l.drop a.toNat).take ((lget l a).2.1.toNat-a.toNat):=by
 unfold lget at h ⊢
 by_cases c1:a<0∨(l.length:Int)<a
 ·rw [if_pos c1] at h;simp at h
 ·rw [if_neg c1] at h ⊢
  by_cases c2:lbytes 10 (l.drop a.toNat)=0
  ·rw [if_pos c2] at h
   split at h<;>simp at h
  ·rw [if_neg c2] at h ⊢
   have hb:=(lbytes_le 10 (l.drop a.toNat)).1
   rw [List.length_drop] at hb
   split at h
   ·rename_i c3
    rw [if_pos c3]
    refine⟨by omega,by simp only;omega,by simp only;omega,?_⟩
    simp only
    rw [c3]
    congr 1
    omega
   ·simp at h
theorem lget_err(l:List UInt8)(a:Int)(h:(lget l a).2.2≠0):(lget l a).1=0∧(lget l a).2.1=a:=by
 unfold lget at h ⊢
 by_cases c1:a<0∨(l.length:Int)<a
 ·rw [if_pos c1];exact⟨rfl,rfl⟩
 ·rw [if_neg c1] at h ⊢
  by_cases c2:lbytes 10 (l.drop a.toNat)=0
  ·rw [if_pos c2];split<;>exact⟨rfl,rfl⟩
  ·rw [if_neg c2] at h ⊢
   split at h
   ·simp at h
   ·rename_i c3
    rw [if_neg c3];exact⟨rfl,rfl⟩
theorem lget_err_range(l:List UInt8)(a:Int):0≤(lget l a).2.2∧(lget l a).2.2≤3:=by
 unfold lget
 split
 ·simp
 ·split
  ·split<;>simp
  ·split<;>simp
theorem lbytes_snoc_hi:∀ (i:Nat) (f:Nat) (r:List UInt8),i≤r.length→(∀ j (h:j<r.length),j<i→128≤r[j].toNat)→lbytes (i+f) r=if lbytes f (r.drop i)=0 then 0 else lbytes f (r.drop i)+i
 | 0,f,r,_,_=>by simp
 | i+1,f,[],h,_=>by simp at h
 | i+1,f,b::r,hl,hh=>by
  have h0:=hh 0 (by simp) (by omega)
  simp only [List.getElem_cons_zero] at h0
  have ih:=lbytes_snoc_hi i f r (by simpa using hl) (fun j hj hji=>by have:=hh (j+1) (by simpa using hj) (by omega);simpa using this)
  have e:i+1+f=(i+f)+1:=by omega
  rw [e]
  simp only [lbytes,List.drop_succ_cons]
  rw [if_neg (by omega),ih]
  by_cases c:lbytes f (List.drop i r)=0
  ·simp [c]
  ·simp [c];omega
theorem lval_append(x y:List UInt8):lval (x++y)=lval x+128 ^ x.length*lval y:=by
 induction x with
 | nil=>simp [lval]
 | cons b r ih=>simp only [List.cons_append,lval,ih,List.length_cons,Nat.pow_succ,Nat.mul_add,Nat.add_assoc];congr 2;rw [← Nat.mul_assoc,Nat.mul_comm (128 ^ r.length) 128]
theorem lval_lt(x:List UInt8):lval x<128 ^ x.length:=by
 induction x with
 | nil=>simp [lval]
 | cons b r ih=>simp only [lval,List.length_cons,Nat.pow_succ];omega
def digs(n:Nat):List Int:=if n<128 then [(n:Int)] else((n:Int)%128+128)::digs (n / 128)
termination_by n
decreasing_by omega
theorem digs_lo{n:Nat}(h:n<128):digs n=[(n:Int)]:=by rw [digs,if_pos h]
theorem digs_hi{n:Nat}(h:128≤n):digs n=((n:Int)%128+128)::digs (n / 128):=by rw [digs,if_neg (by omega)]
theorem digs_bytes(n:Nat):(digs n).map (fun x=>UInt8.ofNat x.toNat)=lput n:=by
 induction n using Nat.strongRecOn with
 | ind n ih =>
  by_cases h:n<128
  ·rw [digs_lo h,lput_lo h];simp
  ·rw [digs_hi (by omega),lput_hi (by omega),List.map_cons,ih (n / 128) (by omega)]
   congr 2
   omega
theorem digs_len(n:Nat):(digs n).length=(lput n).length:=by rw [← digs_bytes,List.length_map]
theorem digs_range(n:Nat):∀ x∈digs n,0≤x∧x≤255:=by
 induction n using Nat.strongRecOn with
 | ind n ih =>
  intro x hx
  by_cases h:n<128
  ·rw [digs_lo h] at hx;simp at hx;omega
  ·rw [digs_hi (by omega)] at hx
   rcases List.mem_cons.1 hx with e | e
   ·omega
   ·exact ih (n / 128) (by omega) x e
end Go.Proofs.YtekogckmgkodfaaGreatDoor.Leb
namespace Go.Proofs.YtekogckmgkodfaaGreatDoor.Leb
open Go.RowKit Go.Shelf
attribute [local go_sem] Oper.semAt_some
theorem i64_nat(a b:Int)(h:a=b):Value.int .u8 a=Value.int .u8 b:=by rw [h]
theorem digits1_in(F:Fence)(n:Nat)(hF:F.fn 98)(hro:F.round=none)(hn:1≤n)(l Bn n₀:Nat)(x:Int)(hx0:0≤x)(hx1:x≤18446744073709551615)(J Jx:List Int→World→Prop)
  (hY:∀ pre x W,J pre W→pre.length<10→YieldAt F (n-1) Tryz.prog l #[.int .u8 x] W fun e W' =>
   (e=.returned (.bool true)∧J (pre++[x]) W'∧Below n₀ W W')∨(e=.returned (.bool false)∧Jx (pre++[x]) W'))
  (W:World) (hBn:W.cell? ⟨Bn,0,none⟩=some (.int .u64 x)) (h0:J [] W) :
  CallsIn F n Tryz.prog 98 #[.func (.yield l) #[] #[],.pointer (some ⟨Bn,0,none⟩)] W fun e W'=>(∃ v,e=.returned v) ∧
   ((∃ ys,ys=digs x.toNat∧J ys W')∨(∃ pre,pre <+: digs x.toNat∧Jx pre W')):=by
 have hlen10:=digs_len x.toNat
 have hlen:=lput_len10 (n:=x.toNat) (by omega)
 refine callsIn_of_wp Tryz.func98 rfl hF ?_ hro
 simp only [Tryz.ntmps98,List.size_toArray,List.length_cons,List.length_nil,Nat.reduceAdd,Nat.reduceSub,Array.replicate_succ,Array.replicate_zero,List.push_toArray,List.append_toArray,List.nil_append,List.cons_append]
 gi_wp2
 gi_loopw [3] (fun p wr=>∃ (pre:List Int) (m:Int),p=.int .u64 m∧0≤m∧m≤18446744073709551615∧digs x.toNat=pre++digs m.toNat∧J pre wr)
  (fun p wr=>(intOf p).toNat)
 case atStart =>
  exact⟨[],x,rfl,hx0,hx1,rfl,h0⟩
 case round =>
  obtain⟨pre,m,rfl,hm0,hm1,hxs,hJs⟩:=hrel
  have hp:=lput_pos m.toNat
  have hpl:pre.length+(digs m.toNat).length≤10:=by rw [← List.length_append,← hxs];omega
  rw [digs_len] at hpl
  have HX:=Lib.hid hxs
  clear hxs hlen10
  by_cases hm:128≤m
  ·obtain⟨fn,tmps,assign,body,hy,hR⟩:=hY pre (m%128+128) wr hJs (by omega)
   gi_wp2
   refine hR.mono ?_
   rintro e W3 (⟨rfl,hJ3,hk3⟩ | ⟨rfl,hJx3⟩)
   ·gi_wp2
    go_roundw
    case rel =>
     refine⟨pre++[m%128+128],m / 128,rfl,by omega,by omega,?_,hJ3⟩
     rw [HX.out,digs_hi (show 128≤m.toNat by omega),List.append_assoc]
     simp only [List.cons_append,List.nil_append]
     congr 3
     ·omega
     ·omega
    case measure=>simp [intOf];omega
   ·gi_wp2
    refine bodyPost_ret (results_none rfl _ _ _) rfl ?_
    refine⟨⟨_,rfl⟩,.inr ⟨_,⟨digs (m.toNat / 128),?_⟩,hJx3⟩⟩
    rw [HX.out,digs_hi (show 128≤m.toNat by omega),List.append_assoc]
    simp only [List.cons_append,List.nil_append]
    congr 2
    omega
  ·obtain⟨fn,tmps,assign,body,hy,hR⟩:=hY pre m wr hJs (by omega)
   have hlt:m<128:=by omega
   clear hm
   have hd:digs x.toNat=pre++[m]:=by
    rw [HX.out,digs_lo (show m.toNat<128 by omega)]
    congr 2
    omega
   have HD:=Lib.hid hd
   clear hd
   gi_wp2
   refine hR.mono ?_
   rintro e W3 (⟨rfl,hJ3,hk3⟩ | ⟨rfl,hJx3⟩)
   ·gi_wp2
    go_end0
    exact⟨⟨_,rfl⟩,.inl ⟨_,HD.out.symm,hJ3⟩⟩
   ·gi_wp2
    go_end0
    exact⟨⟨_,rfl⟩,.inr ⟨_,by rw [HD.out];exact List.prefix_refl _,hJx3⟩⟩
theorem digits_in(F:Fence)(n:Nat)(hF:F.fn 78)(hro:F.round=none)(x:Int)(w:World) :
  CallsIn F n Tryz.prog 78 #[.int .u64 x] w fun e w'=>e=.returned (.func (.func 98) #[] #[.pointer (some ⟨w.heap.size,0,none⟩)])∧w'=w.alloc (.cells #[.int .u64 x] 58):=by
 refine callsIn_of_wp Tryz.func78 rfl hF ?_ hro
 simp only [Tryz.ntmps78,List.size_toArray,List.length_cons,List.length_nil,Nat.reduceAdd,Nat.reduceSub,Array.replicate_succ,Array.replicate_zero,List.push_toArray,List.append_toArray,List.nil_append,List.cons_append]
 gi_wp2
 go_ret
 exact⟨rfl,rfl⟩
theorem digits_stops(F:Fence)(n:Nat)(hF:F.fn 98)(hro:F.round=none)(hn:1≤n)(Bn n₀:Nat)(x:Int)(hx0:0≤x)(hx1:x≤18446744073709551615)(w:World)(hBn:Bn<w.heap.size)
  (hc:w.cell? ⟨Bn,0,none⟩=some (.int .u64 x)) :
  SeqStopsK F n Tryz.prog 98 #[.pointer (some ⟨Bn,0,none⟩)] (fun x:Int=>#[Value.int .u8 x]) (Below n₀) (fun ys=>ys=digs x.toNat) (fun pre=>pre <+: digs x.toNat) 10 w:=fun l J Jx W hW _ _ hY h0 =>
 digits1_in F n hF hro hn l Bn n₀ x hx0 hx1 J Jx hY W ((hW.cell (p:=⟨Bn,0,none⟩) hBn).trans hc) h0
theorem info_u8:(Tryz.prog.info? 5).map (fun i=>(i.zero,i.size,i.bytes))=some (some (.int .u8 0),1,1):=by kernel_rfl
def z10:Array Value:=#[.int .u8 0,.int .u8 0,.int .u8 0,.int .u8 0,.int .u8 0,.int .u8 0,.int .u8 0,.int .u8 0,.int .u8 0,.int .u8 0]
theorem make10(w:World):(Instr.makeSlice 87 (.int .i64 0) (.int .i64 10)).run Tryz.prog w=.ok (.slice (some ⟨w.heap.size,0,none⟩) 0 10) (w.alloc (.cells z10 5)):=by kernel_rfl
theorem conv_row(W:World)(base g k cap:Nat)(xs:List Int)(hrow:W.ownsRow base 5 1 (.slice (some ⟨g,0,none⟩) k cap) k (xs.map (Value.int .u8))) :
  (convert 87 9 (.slice (some ⟨g,0,none⟩) k cap)).run Tryz.prog W=.ok (.string (strOfNums xs)) W:=by
 have hl:xs.length=k:=by have:=hrow.1;simpa using this
 refine run_convert_bytes_arg W _ _ Tryz.underlying87 Tryz.underlying5 g 0 k cap xs hl (fun i hi=>?_) _ Tryz.underlying9
 have hi':i<xs.length:=by omega
 have:=hrow.cells (g:=g) rfl i (.int .u8 (xs.getD i 0)) (by simp [List.getElem?_eq_getElem hi'])
 unfold Addr.add at this
 split at this
 ·rename_i h;subst h;simpa using this
 ·simpa using this
theorem str_lput(n:Nat):strOfNums (digs n)=⟨(lput n).toArray⟩:=by unfold strOfNums;rw [digs_bytes]
theorem Put_in(F:Fence)(n:Nat)(h3:F.fn 38)(h4:F.fn 78)(h5:F.fn 98)(hro:F.round=none)(hn:3≤n)(x:Int)(hx0:0≤x)(hx1:x≤18446744073709551615)(w:World) :
  CallsIn F n Tryz.prog 38 #[.int .u64 x] w fun e W'=>e=.returned (.string ⟨(lput x.toNat).toArray⟩)∧Below w.heap.size w W':=by
 have h1:1≤n:=by omega
 have hmk:=fun W=>make10 W
 obtain⟨i0,hi,hz0,hz1,hz2⟩:=info_parts info_u8
 refine callsIn_of_wp_marks Tryz.func38 rfl h3 ?_ hro
 simp only [Tryz.ntmps38,List.size_toArray,List.length_cons,List.length_nil,Nat.reduceAdd,Nat.reduceSub,Array.replicate_succ,Array.replicate_zero,List.push_toArray,List.append_toArray,List.nil_append,List.cons_append]
 gi_wp2_with (gi_at_call 78;refine(digits_in F (n-1) h4 hro _ _).mono ?_;rintro e w' ⟨rfl,rfl⟩)
 have bO:=Boxed.new (w.alloc (.cells z10 5)) 87 (.slice (some ⟨w.heap.size,0,none⟩) 0 10)
 rw [World.size_alloc] at bO
 have bN:=Boxed.new ((w.alloc (.cells z10 5)).alloc (.cells #[.slice (some ⟨w.heap.size,0,none⟩) 0 10] 87)) 58 (.int .u64 x)
 rw [World.size_alloc,World.size_alloc] at bN
 have hr0:(w.alloc (.cells z10 5)).ownsRow w.heap.size 5 1 (.slice (some ⟨w.heap.size,0,none⟩) 0 10) 0 []:=World.ownsRow_made w z10 10 (Nat.le_refl _) (by decide) rfl
 have hB0:Below w.heap.size w (((w.alloc (.cells z10 5)).alloc (.cells #[.slice (some ⟨w.heap.size,0,none⟩) 0 10] 87)).alloc (.cells #[.int .u64 x] 58)):=(((Below.refl _ w).alloc (Nat.le_refl _) _).alloc (by simp) _).alloc (by simp;omega) _
 refine wpIn_rangeFunc_ownG hro h1 (gf:=98) (lb:=#[.pointer (some ⟨w.heap.size+1+1,0,none⟩)]) rfl h5 (enters_of Tryz.func98 (by kernel_rfl) rfl)
  (digits_stops F (n-1) h5 hro (by omega) (w.heap.size+1+1) w.heap.size x hx0 hx1 _ (by simp) bN.cell) belowK_t (belowK_b (by simp;omega)) (Below.refl _ _) (fun _=>rfl)
  (fun(pre:List Int) W=>(∃ v,Boxed W (w.heap.size+1) 87 v∧W.ownsRow w.heap.size 5 1 v pre.length (pre.map (Value.int .u8))∧True)∧Below w.heap.size w W)
  (fun _ _ _=>False)
  (OwnFrom.and (Own.from (holdsRow_own w.heap.size (w.heap.size+1) 87 5 1 (fun pre:List Int=>pre.length) (fun pre:List Int=>pre.map (Value.int .u8)) (fun _ _=>True)) _) (ownFrom_below (Nat.le_refl _) (by simp;omega)))
  (fun _ _ _ _ _ hs _ _=>hs)
  ⟨⟨_,bO.alloc _,(hr0.alloc _).alloc _,trivial⟩,hB0⟩
  (fun d=>{ tmps:=#[.int .u64 x,undef,.string { data:=#[] },.pointer (some ⟨w.heap.size+1,0,none⟩),.int .u8 d,.slice (some ⟨w.heap.size,0,none⟩) 0 10,.int .u64 x,.func (.func 98) #[] #[.pointer (some ⟨w.heap.size+1+1,0,none⟩)],.int .u8 d,undef,undef,undef,undef,undef,undef],defers:=[] }) ?assign ?body ?done ?stop
 case assign =>
  intro l x W K hK
  gi_wp2
  exact hK
 case body =>
  rintro l pre d W ⟨⟨v,hv,hrow,-⟩,hB⟩ hlt
  have hc:=hv.cell
  gi_wp2_with (gi_at_builtin;refine wpListIn_append_own _ rfl _ _ 87 rfl w.heap.size 5 i0 (.int .u8 0) 1 1 Tryz.underlying87 hi hz0 hz1 hz2 rfl (by decide) _ _ _ rfl (hrow.alloc _) ⟨W.heap.size,0,none⟩ 1 1 [.int .u8 d] rfl rfl (cell_one_new _ _ _) (by simp [Value.oneCell']) (by simp only [maxLen];omega) (by omega) (by have:=hB.size;simp;omega) ?_;intro v' w1 hown' hgrow _;obtain⟨g',cap',rfl⟩:=ownsRow_succ hown';obtain⟨hv1,hv2,hr2,hk2,hb2⟩:=hv.appended (by decide) hrow hB.size (by omega) hown' hgrow;have hc1:=hv1.cell;have hf1:=hv1.frozen)
  exact⟨hk2.from _,hb2,⟨_,hv2,by simpa using hr2,trivial⟩,hB.trans hb2⟩
 case done =>
  rintro D ys W hD rfl ⟨⟨v,hv,hrow,-⟩,hB⟩ hK
  have hlen:=digs_len x.toNat
  have hp:=lput_pos x.toNat
  obtain⟨k,hk⟩:∃ k,(digs x.toNat).length=k+1:=⟨(digs x.toNat).length-1,by omega⟩
  rw [hk] at hrow
  obtain⟨g,cap,rfl⟩:=ownsRow_succ hrow
  have hcv:=conv_row W _ g (k+1) cap _ hrow
  rw [str_lput] at hcv
  have hc:=hv.cell
  have HK:=Lib.hid hk
  clear hk hlen
  gi_wp2
  refine⟨by simp,.inl ⟨_,_,rfl,run_takeDeferred hK,?_⟩⟩
  exact⟨_,results_tmp rfl _ _ _,rfl,hB.trans (belowK_b (w:=w) (Nat.le_refl _) W D _ _ (by simp at hD;omega) hK rfl rfl)⟩
 case stop =>
  rintro D c pre W _ _ h _
  exact h.elim
theorem Put_any(x:Int)(hx0:0≤x)(hx1:x≤18446744073709551615)(w:World) :
  Calls Tryz.prog 38 #[.int .u64 x] w fun e W'=>e=.returned (.string ⟨(lput x.toNat).toArray⟩)∧Below w.heap.size w W' :=
 (callsIn_wide (n:=3)).1 (Put_in Fence.wide 3 trivial trivial trivial rfl (by omega) x hx0 hx1 w)
end Go.Proofs.YtekogckmgkodfaaGreatDoor.Leb
namespace Go.Proofs.YtekogckmgkodfaaGreatDoor.Leb
open Go.RowKit
theorem bcell{W w1:World}(hb:Below W.heap.size W w1):(∀ b o,b<W.heap.size→w1.cell? ⟨b,o,none⟩=W.cell? ⟨b,o,none⟩)∧(∀ b o,b<W.heap.size→w1.frozen? ⟨b,o,none⟩=W.frozen? ⟨b,o,none⟩) :=
 ⟨fun b o h=>hb.cell (p:=⟨b,o,none⟩) h,fun b o h=>hb.frozen (p:=⟨b,o,none⟩) h⟩
theorem conv_one{P:Program}(src e:TypeId)(hs:P.underlying src=some (.slice e))(he:P.underlying e=some (.int .u8))(v:Int)(dst:TypeId)(hd:P.underlying dst=some .string)(W:World)(b:Nat)(hc:W.cell? ⟨b,0,none⟩=some (.int .u8 v)) :
    (convert src dst (.slice (some ⟨b,0,none⟩) 1 1)).run P W=.ok (.string ⟨#[UInt8.ofNat v.toNat]⟩) W:=by
  rw [run_convert_bytes_arg W src e hs he b 0 1 1 [v] rfl (fun i hi => by obtain rfl : i = 0 := by omega
                                                                          simpa using hc) dst hd]
  rfl
theorem ret_string{a b:ByteArray}(h:a=b):Ending.returned (.string a)=.returned (.string b):=by rw [h]
def Highs(r:List UInt8)(k:Nat):Prop:=∀ j (_:j<r.length),j<k→128≤r[j].toNat
theorem drop_at(s:ByteArray)(a k:Nat)(h:a+k<s.size):(s.data.toList.drop a).drop k=(s[a+k]'h)::(s.data.toList.drop a).drop (k+1):=by
 have hl:a+k<s.data.toList.length:=by rw [Array.length_toList];exact h
 rw [List.drop_drop,List.drop_drop,List.drop_eq_getElem_cons hl]
 rfl
theorem str_len(s:ByteArray):s.data.toList.length=s.size:=by rw [Array.length_toList];rfl
theorem drop_len(s:ByteArray)(a:Nat):(s.data.toList.drop a).length=s.size-a:=by rw [List.length_drop,str_len]
theorem drop_end(s:ByteArray)(a k:Nat)(h:s.size≤a+k):(s.data.toList.drop a).drop k=[]:=by
 rw [List.drop_drop];exact List.drop_eq_nil_of_le (by rw [str_len];exact h)
theorem Highs.zero(r:List UInt8):Highs r 0:=fun _ _ h=>by omega
theorem Highs.next{s:ByteArray}{a k:Nat}(h:Highs (s.data.toList.drop a) k)(hk:a+k<s.size)(hb:128≤((s[a+k]'hk).toNat:Int)):Highs (s.data.toList.drop a) (k+1):=fun j hj hjk=>by
 by_cases e:j=k
 ·subst e
  have h1:=List.drop_eq_getElem_cons hj
  rw [drop_at s a j hk] at h1
  have h2:=(List.cons.inj h1).1
  rw [← h2]
  omega
 ·exact h j hj (by omega)
theorem lbytes_at{r:List UInt8}{k f:Nat}(h:Highs r k)(hf:k+f=10)(hk:k≤r.length):lbytes 10 r=if lbytes f (r.drop k)=0 then 0 else lbytes f (r.drop k)+k:=by
 rw [← hf];exact lbytes_snoc_hi k f r hk h
theorem lbytes_hit{s:ByteArray}{a k:Nat}(h:Highs (s.data.toList.drop a) k)(hk:k<10)(hak:a+k<s.size)(hb:((s[a+k]'hak).toNat:Int)<128):lbytes 10 (s.data.toList.drop a)=k+1:=by
 have e:lbytes (9-k+1) ((s.data.toList.drop a).drop k)=1:=by
  rw [drop_at s a k hak]
  simp only [lbytes]
  rw [if_pos (by omega)]
 rw [lbytes_at h (f:=9-k+1) (by omega) (by rw [drop_len];omega)]
 simp only [e]
 rw [if_neg (by decide)]
 omega
theorem lbytes_ten{s:ByteArray}{a k:Nat}(h:Highs (s.data.toList.drop a) k)(hk:k=10)(hak:a+k≤s.size):lbytes 10 (s.data.toList.drop a)=0:=by
 rw [lbytes_at h (f:=0) (by omega) (by rw [drop_len];omega)]
 simp [lbytes]
theorem lbytes_short{s:ByteArray}{a k:Nat}(h:Highs (s.data.toList.drop a) k)(hk:k<10)(hak:a+k=s.size):lbytes 10 (s.data.toList.drop a)=0:=by
 rw [lbytes_at h (f:=9-k+1) (by omega) (by rw [drop_len];omega),drop_end s a k (by omega)]
 simp [lbytes]
theorem ret_int{k:IntKind}{a b:Int}(h:a=b):Ending.returned (.int k a)=.returned (.int k b):=by rw [h]
def mval(l:List UInt8):Nat:=lval l%18446744073709551616
theorem mval_le(l:List UInt8):(mval l:Int)≤18446744073709551615:=by unfold mval;omega
theorem mval_nil:mval []=0:=rfl
theorem mval_cons(b:UInt8)(l:List UInt8):((mval (b::l):Nat):Int)=((mval l:Int)*128+(b.toNat:Int)%128)%18446744073709551616:=by
 unfold mval
 simp only [lval]
 omega
theorem value_step(m b:Int)(hb:0≤b∧b≤255):IntKind.u64.wrap (IntKind.u64.wrap (m*128)+(IntKind.u64.wrap b).tmod 128)=(m*128+b%128)%18446744073709551616:=by
 rw [IntWalk.u64_in b (by omega),Int.tmod_eq_emod_of_nonneg hb.1,IntKind.wrap_u64,IntKind.wrap_u64]
 omega
theorem drop_zero(s:ByteArray)(j:Nat)(h:j<s.size):s.data.toList.drop j=(s[j]'h)::s.data.toList.drop (j+1):=by
 have hl:j<s.data.toList.length:=by rw [str_len];exact h
 rw [List.drop_eq_getElem_cons hl]
 rfl
theorem tuple3{n n' b b' c c':Int}(h1:n=n')(h2:b=b')(h3:c=c'):Ending.returned (.tuple #[.int .u64 n,.int .i64 b,.int .i64 c])=.returned (.tuple #[.int .u64 n',.int .i64 b',.int .i64 c']):=by rw [h1,h2,h3]
theorem lget_arg{l:List UInt8}{a:Int}(h:a<0∨(l.length:Int)<a):lget l a=(0,a,1):=by unfold lget;rw [if_pos h]
theorem lget_short{l:List UInt8}{a:Nat}(ha:a≤l.length)(h:lbytes 10 (l.drop a)=0)(h10:l.length-a<10):lget l a=(0,(a:Int),2):=by
 unfold lget;rw [if_neg (by omega),Int.toNat_natCast,if_pos h,if_pos h10]
theorem lget_long{l:List UInt8}{a:Nat}(ha:a≤l.length)(h:lbytes 10 (l.drop a)=0)(h10:¬ l.length-a<10):lget l a=(0,(a:Int),3):=by
 unfold lget;rw [if_neg (by omega),Int.toNat_natCast,if_pos h,if_neg h10]
theorem lget_no{l:List UInt8}{a k:Nat}(ha:a≤l.length)(h:lbytes 10 (l.drop a)=k)(h0:k≠0)(hp:lput (mval ((l.drop a).take k))≠(l.drop a).take k):lget l a=(0,(a:Int),3):=by
 unfold lget;unfold mval at hp;rw [if_neg (by omega),Int.toNat_natCast,if_neg (by omega),h,if_neg hp]
theorem lget_ok{l:List UInt8}{a k:Nat}(ha:a≤l.length)(h:lbytes 10 (l.drop a)=k)(h0:k≠0)(hp:lput (mval ((l.drop a).take k))=(l.drop a).take k):lget l a=(mval ((l.drop a).take k),(a:Int)+k,0):=by
 unfold lget;unfold mval at hp;rw [if_neg (by omega),Int.toNat_natCast,if_neg (by omega),h,if_pos hp];rfl
def GetEnds(s:ByteArray)(a:Int)(w:World)(e:Ending)(w':World):Prop :=
 e=.returned (.tuple #[.int .u64 (lget s.data.toList a).1,.int .i64 (lget s.data.toList a).2.1,.int .i64 (lget s.data.toList a).2.2])∧Below w.heap.size w w'
theorem GetEnds.mk{s:ByteArray}{a:Int}{w w':World}{n:Nat}{b c:Int}(h:lget s.data.toList a=(n,b,c))(hb:Below w.heap.size w w'):GetEnds s a w (.returned (.tuple #[.int .u64 n,.int .i64 b,.int .i64 c])) w' :=
 ⟨by rw [h],hb⟩
theorem extract_take(s:ByteArray)(a k:Nat):(s.extract a (a+k)).data.toList=(s.data.toList.drop a).take k:=by
 rw [Lib.extract_data];congr 1;omega
theorem take_next(s:ByteArray)(a k:Nat)(h:a+k<s.size):(s.data.toList.drop a).take (k+1)=(s.data.toList.drop a).take k++[(s[a+k]'h)]:=by
 have hk:k<(s.data.toList.drop a).length:=by rw [drop_len];omega
 have h1:=List.drop_eq_getElem_cons hk
 rw [drop_at s a k h] at h1
 have h2:=(List.cons.inj h1).1
 rw [List.take_succ_eq_append_getElem hk,← h2]
theorem pow128(k:Nat):128 ^ k=2 ^ (7*k):=by rw [Nat.pow_mul]
theorem or_step(x k:Nat)(b:UInt8)(hk:k≤9)(hx:x<128 ^ k) :
  bits .or .u64 (x:Int) (IntKind.u64.wrap ((b.toNat:Int)%128*2 ^ (7*k)))=(((x+128 ^ k*(b.toNat%128))%18446744073709551616:Nat):Int):=by
 obtain⟨d,hd⟩:∃ d,b.toNat%128=d:=⟨_,rfl⟩
 have hp:(0:Nat)<2 ^ (7*k):=Nat.pow_pos (by omega)
 have e0:(b.toNat:Int)%128*2 ^ (7*k)=((d*2 ^ (7*k):Nat):Int):=by rw [← hd];simp
 have hle:2 ^ (7*k)≤2 ^ 63:=Nat.pow_le_pow_right (by omega) (by omega)
 have e64:(18446744073709551616:Nat)=2 ^ (64-7*k)*2 ^ (7*k):=by rw [← Nat.pow_add];rw [show 64-7*k+7*k=64 by omega]
 rw [e0,hd,pow128] at *
 rw [IntKind.wrap_u64,show(18446744073709551616:Int)=((18446744073709551616:Nat):Int) from rfl,← Int.natCast_emod]
 have e1:d*2 ^ (7*k)%18446744073709551616=d%2 ^ (64-7*k)*2 ^ (7*k):=by
  rw [e64,Nat.mul_mod_mul_right]
 have hq:d%2 ^ (64-7*k)<2 ^ (64-7*k):=Nat.mod_lt _ (Nat.pow_pos (by omega))
 rw [u64_or_nat _ _ (by omega) (Nat.mod_lt _ (by omega)),Nat.or_comm,nat_join (7*k) _ _ (by rw [e1];exact Nat.mul_mod_left _ _) (by omega)]
 have e2:(x+2 ^ (7*k)*d)%18446744073709551616=(x+d*2 ^ (7*k)%18446744073709551616)%18446744073709551616:=by
  rw [Nat.mul_comm (2 ^ (7*k)) d,Nat.add_mod_mod]
 have hmul:(d%2 ^ (64-7*k)+1)*2 ^ (7*k)≤2 ^ (64-7*k)*2 ^ (7*k):=Nat.mul_le_mul_right _ hq
 rw [← e64,Nat.add_mul,Nat.one_mul] at hmul
 rw [e2,e1]
 clear e1 e2 e0 hq e64
 generalize d%2 ^ (64-7*k)*2 ^ (7*k)=z at *
 generalize 2 ^ (7*k)=p at *
 rw [Nat.mod_eq_of_lt (show x+z<18446744073709551616 by omega)]
 omega
theorem mval_small{r:List UInt8}{k:Nat}(hk:k≤9)(hl:r.length≤k):mval r=lval r∧lval r<128 ^ k:=by
 have h1:=lval_lt r
 have h2:128 ^ r.length≤128 ^ k:=Nat.pow_le_pow_right (by omega) hl
 have h3:128 ^ k≤128 ^ 9:=Nat.pow_le_pow_right (by omega) hk
 exact⟨Nat.mod_eq_of_lt (by omega),by omega⟩
theorem mval_next(s:ByteArray)(a k:Nat)(h:a+k<s.size)(hk:k≤9) :
  bits .or .u64 (mval ((s.data.toList.drop a).take k):Int) (IntKind.u64.wrap (((s[a+k]'h).toNat:Int)%128*2 ^ (7*k)))=(mval ((s.data.toList.drop a).take (k+1)):Int):=by
 have hl:((s.data.toList.drop a).take k).length=k:=by rw [List.length_take,drop_len];omega
 obtain⟨e1,e2⟩:=mval_small hk (Nat.le_of_eq hl)
 rw [e1,or_step _ k _ hk e2,take_next s a k h]
 unfold mval
 rw [lval_append,hl]
 simp [lval]
theorem GetEnds.to{s:ByteArray}{a:Int}{w w':World}{e:Ending}{n:Nat}{b c:Int}(h:GetEnds s a w e w')(hl:lget s.data.toList a=(n,b,c)):e=.returned (.tuple #[.int .u64 n,.int .i64 b,.int .i64 c])∧Below w.heap.size w w':=by
 obtain⟨h1,h2⟩:=h
 rw [hl] at h1
 exact⟨h1,h2⟩
end Go.Proofs.YtekogckmgkodfaaGreatDoor.Leb
