/-
  Package zigzag and its reference, walked: each number with a sign is told by one without.
  Package zigzag: Put and Get, walked; the reference's Put.
  Package wire: a place in bytes, walked.
  Package wire: the number, the text and the bytes at a place, walked.
  Package wire: the reader, walked.
  Package wire: what a reader reads, walked.
  Package wire: the writer, walked.
  A writer through several calls: what it holds, and that all but its own blocks is as it was since a world that is past.
-/
import Derived.Test.YtekogckmgkodfaaGreatDoorLebG
import Derived.BigQuiet
import Derived.Deep.RegionHeld3
import Derived.Lib.Zigzag
import Derived.Laws.EntriesVeiled
import Derived.Deep.DrawnRows
import Derived.Test.YtekogckmgkodfaaGreatDoorBaseG
import Derived.RegionTactic
import Derived.Outline
import Derived.Lib.Strings
import Derived.Lib.AppendStr
import Derived.Maps.AppendAt
set_option maxRecDepth 100000
namespace Go.Proofs.YtekogckmgkodfaaGreatDoor.Zig
open Go.RowKit Leb
def zig(n:Int):Int:=if 0≤n then 2*n else -2*n-1
def zag(u:Int):Int:=if u%2=0 then u / 2 else -(u / 2)-1
theorem zig_range{n:Int}(h0 : -9223372036854775808≤n)(h1:n≤9223372036854775807):0≤zig n∧zig n≤18446744073709551615:=by unfold zig;split<;>omega
theorem zag_range{u:Int}(h0:0≤u)(h1:u≤18446744073709551615) : -9223372036854775808≤zag u∧zag u≤9223372036854775807:=by unfold zag;split<;>omega
theorem zag_zig(n:Int):zag (zig n)=n:=by unfold zig zag;split<;>split<;>omega
theorem zig_zag(u:Int)(h0:0≤u):zig (zag u)=u:=by unfold zig zag;split<;>split<;>omega
theorem zig_sign(n:Int):zig n%2=1↔n<0:=by unfold zig;split<;>omega
theorem zig_nonneg{n:Int}(h:0≤n):zig n=2*n:=if_pos h
theorem zig_neg{n:Int}(h:¬ 0≤n):zig n = -2*n-1:=if_neg h
theorem zag_0:zag 0=0:=rfl
theorem ret_u64{a b:Int}(h:a=b):Ending.returned (.int .u64 a)=.returned (.int .u64 b):=by rw [h]
theorem ret_i64{a b:Int}(h:a=b):Ending.returned (.int .i64 a)=.returned (.int .i64 b):=by rw [h]
theorem xor_zero(x:Int)(h0:0≤x)(h1:x≤18446744073709551615):bits .xor .u64 x 0=x:=by
 obtain⟨n,rfl⟩:=Int.eq_ofNat_of_zero_le h0
 have:=u64_xor_nat n 0 (by omega) (by omega)
 simpa using this
theorem xor_full(x:Int)(h0:0≤x)(h1:x≤18446744073709551615):bits .xor .u64 x 18446744073709551615=18446744073709551615-x:=by
 obtain⟨n,rfl⟩:=Int.eq_ofNat_of_zero_le h0
 have:=u64_xor_nat n 18446744073709551615 (by omega) (by omega)
 have e:((18446744073709551615:Nat):Int)=18446744073709551615:=rfl
 rw [e] at this
 rw [this,Nat.xor_comm,show(18446744073709551615:Nat)=2 ^ 64-1 from rfl,Lib.xor_ones64 n (by omega)]
 omega
theorem zig_bits(n:Int)(h0 : -9223372036854775808≤n)(h1:n≤9223372036854775807) :
  bits .xor .u64 (IntKind.u64.wrap (IntKind.u64.wrap n*2)) (IntKind.u64.wrap (-(IntKind.u64.wrap n / 9223372036854775808)))=zig n:=by
 simp only [IntKind.wrap_u64]
 by_cases h:0≤n
 ·have e1:n%18446744073709551616=n:=by omega
  have e2 : -(n / 9223372036854775808)%18446744073709551616=0:=by omega
  have e3:n*2%18446744073709551616=2*n:=by omega
  rw [e1,e2,e3,xor_zero _ (by omega) (by omega),zig_nonneg h]
 ·have e1:n%18446744073709551616=n+18446744073709551616:=by omega
  rw [e1]
  have e2 : -((n+18446744073709551616) / 9223372036854775808)%18446744073709551616=18446744073709551615:=by omega
  have e3:(n+18446744073709551616)*2%18446744073709551616=2*n+18446744073709551616:=by omega
  rw [e2,e3,xor_full _ (by omega) (by omega),zig_neg h]
  omega
theorem zag_bits(u:Int)(h0:0≤u)(h1:u≤18446744073709551615) :
  IntKind.i64.wrap (bits .xor .u64 (u / 2) (IntKind.u64.wrap (-bits .and .u64 u 1)))=zag u:=by
 rw [Lib.u64_and1 u h0 (by omega)]
 simp only [IntKind.wrap_u64,IntKind.wrap_i64]
 by_cases h:u%2=0
 ·rw [h,show(-0:Int)%18446744073709551616=0 by omega,xor_zero _ (by omega) (by omega)]
  unfold zag
  rw [if_pos h]
  omega
 ·rw [show u%2=1 by omega,show(-1:Int)%18446744073709551616=18446744073709551615 by omega,xor_full _ (by omega) (by omega)]
  unfold zag
  rw [if_neg h]
  omega
theorem ways_any(w:World):Calls Tryz.prog 99 #[] w fun e w'=>e=.returned (.agg #[.func (.func 104) #[] #[],.func (.func 105) #[] #[]])∧Below w.heap.size w w':=by
 go_enter Tryz.func99,Tryz.ntmps99
 go_wp2
 exact bodyPost_ret (v:=.agg #[.func (.func 104) #[] #[],.func (.func 105) #[] #[]]) (by simp [results,Tryz.results99,go_sem]) rfl ⟨rfl,(Below.refl _ _).alloc (Nat.le_refl _) _⟩
theorem zig1_any(x:Int)(_h0:0≤x)(_h1:x≤18446744073709551615)(w:World) :
  Calls Tryz.prog 104 #[.int .u64 x] w fun e w'=>e=.returned (.int .u64 (bits .xor .u64 (IntKind.u64.wrap (x*2)) (IntKind.u64.wrap (-(x / 9223372036854775808)))))∧w=w':=by
 go_enter Tryz.func104,Tryz.ntmps104
 go_wp2
 go_ret
 exact⟨rfl,rfl⟩
theorem zag1_any(x:Int)(_h0:0≤x)(_h1:x≤18446744073709551615)(w:World) :
  Calls Tryz.prog 105 #[.int .u64 x] w fun e w'=>e=.returned (.int .u64 (bits .xor .u64 (x / 2) (IntKind.u64.wrap (-bits .and .u64 x 1))))∧w=w':=by
 go_enter Tryz.func105,Tryz.ntmps105
 go_wp2
 go_ret
 exact⟨rfl,rfl⟩
theorem index_zig(W:World):(Instr.index 169 (.agg #[.func (.func 104) #[] #[],.func (.func 105) #[] #[]]) (.int .i64 0)).run Tryz.prog W=.ok (.func (.func 104) #[] #[]) W:=by kernel_rfl
theorem index_zag(W:World):(Instr.index 169 (.agg #[.func (.func 104) #[] #[],.func (.func 105) #[] #[]]) (.int .i64 1)).run Tryz.prog W=.ok (.func (.func 105) #[] #[]) W:=by kernel_rfl
theorem Zig_any(n:Int)(h0 : -9223372036854775808≤n)(h1:n≤9223372036854775807)(w:World) :
  Calls Tryz.prog 79 #[.int .i64 n] w fun e w'=>e=.returned (.int .u64 (zig n))∧Below w.heap.size w w':=by
 have hw:0≤IntKind.u64.wrap n∧IntKind.u64.wrap n≤18446744073709551615:=by rw [IntKind.wrap_u64];omega
 have HB:=Lib.hid (zig_bits n h0 h1)
 obtain⟨b0,b1⟩:=hw
 have hix:=index_zig
 go_enter Tryz.func79,Tryz.ntmps79
 go_wp2_with (first | (go_at_call 99;refine(ways_any _).mono ?_;rintro e w1 ⟨rfl,hb1⟩) | (go_at_call 104;refine(zig1_any _ b0 b1 _).mono ?_;rintro e w2 ⟨rfl,rfl⟩))
 go_ret
 exact⟨ret_u64 HB.out,hb1⟩
end Go.Proofs.YtekogckmgkodfaaGreatDoor.Zig
namespace Go.Proofs.YtekogckmgkodfaaGreatDoor.Zig
open Go.RowKit Leb
attribute [local go_sem ↓] Go.wp_at_zero Go.wp_at_succ
theorem ret_bool{p q:Bool}(h:p=q):Ending.returned (.bool p)=.returned (.bool q):=by rw [h]
theorem size_mk(l:List UInt8):(ByteArray.mk l.toArray).size=l.length:=by simp [ByteArray.size]
theorem below2{w w1 w2:World}(h1:Below w.heap.size w w1)(h2:Below w1.heap.size w1 w2):Below w.heap.size w w2:=h1.trans (h2.mono h1.size)
theorem wf_u64_bounds{n:Int}(h:(Lit.int .u64 n).wf=true):0≤n∧n≤18446744073709551615:=by
 simp [Lit.wf,IntKind.min,IntKind.max,IntKind.signed,IntKind.bits] at h
 omega
theorem wf_i64_bounds{n:Int}(h:(Lit.int .i64 n).wf=true) : -9223372036854775808≤n∧n≤9223372036854775807:=by
 simp [Lit.wf,IntKind.min,IntKind.max,IntKind.signed,IntKind.bits] at h
 omega
def zput(n:Int):List UInt8:=lput (zig n).toNat
theorem Put_any(n:Int)(h0 : -9223372036854775808≤n)(h1:n≤9223372036854775807)(w:World) :
  Calls Tryz.prog 39 #[.int .i64 n] w fun e w'=>e=.returned (.string ⟨(zput n).toArray⟩)∧Below w.heap.size w w':=by
 obtain⟨z0,z1⟩:=zig_range h0 h1
 unfold zput
 go_enter Tryz.func39,Tryz.ntmps39
 go_wp2_with (first | (go_at_call 79;refine(Zig_any n h0 h1 _).mono ?_;rintro e w1 ⟨rfl,hb1⟩) | (go_at_call 38;refine(Leb.Put_any _ z0 z1 _).mono ?_;rintro e w2 ⟨rfl,hb2⟩))
 go_ret
 exact⟨rfl,below2 hb1 hb2⟩
def ZGetEnds(s:ByteArray)(a:Int)(w:World)(e:Ending)(w':World):Prop :=
 e=.returned (.tuple #[.int .i64 (zag ((lget s.data.toList a).1:Int)),.int .i64 (lget s.data.toList a).2.1,.int .i64 (lget s.data.toList a).2.2])∧Below w.heap.size w w'
theorem ZGetEnds.mk{s:ByteArray}{a:Int}{w w':World}{m:Int}{n:Nat}{b c:Int}(h:lget s.data.toList a=(n,b,c))(hm:m=zag (n:Int))(hb:Below w.heap.size w w'):ZGetEnds s a w (.returned (.tuple #[.int .i64 m,.int .i64 b,.int .i64 c])) w' :=
 ⟨by rw [h,hm],hb⟩
theorem ZGetEnds.to{s:ByteArray}{a:Int}{w w':World}{e:Ending}{n:Nat}{b c:Int}(h:ZGetEnds s a w e w')(hl:lget s.data.toList a=(n,b,c)):e=.returned (.tuple #[.int .i64 (zag (n:Int)),.int .i64 b,.int .i64 c])∧Below w.heap.size w w':=by
 obtain⟨h1,h2⟩:=h
 rw [hl] at h1
 exact⟨h1,h2⟩
end Go.Proofs.YtekogckmgkodfaaGreatDoor.Zig
namespace Go.Proofs.YtekogckmgkodfaaGreatDoor.Wire
open Go.RowKit Leb Mem
def plc(s:ByteArray)(a:Int):Value:=.agg #[.string s,.int .i64 a]
def strB(l:List UInt8):ByteArray:=⟨l.toArray⟩
theorem strB_size(l:List UInt8):(strB l).size=l.length:=by simp [strB,ByteArray.size]
theorem strB_list(l:List UInt8):(strB l).data.toList=l:=by simp [strB]
theorem strB_of(s:ByteArray):strB s.data.toList=s:=rfl
theorem extract_strB(s:ByteArray)(a b:Nat):s.extract a b=strB ((s.data.toList.drop a).take (b-a)):=by
 apply ByteArray.ext
 apply Array.ext'
 rw [Lib.extract_data]
 simp [strB,List.take_drop]
def lcount(l:List UInt8)(a m:Int):Nat×Int×Int:=if(lget l a).2.2≠0 then(0,a,(lget l a).2.2) else if m<0∨m<(lget l a).1 then(0,a,4) else lget l a
def lraw(l:List UInt8)(a n:Int):List UInt8×Int×Int:=if n<0 then([],a,1) else if(l.length:Int)-a<n then([],a,2) else((l.drop a.toNat).take n.toNat,a+n,0)
def ltext(l:List UInt8)(a m:Int):List UInt8×Int×Int:=if(lcount l a m).2.2≠0 then([],a,(lcount l a m).2.2) else lraw l (lcount l a m).2.1 (lcount l a m).1
def CountEnds(s:ByteArray)(a m:Int)(w:World)(e:Ending)(w':World):Prop :=
 e=.returned (.tuple #[.int .i64 (lcount s.data.toList a m).1,.int .i64 (lcount s.data.toList a m).2.1,.int .i64 (lcount s.data.toList a m).2.2])∧Below w.heap.size w w'
def TextEnds(r:List UInt8×Int×Int)(w:World)(e:Ending)(w':World):Prop :=
 e=.returned (.tuple #[.string (strB r.1),.int .i64 r.2.1,.int .i64 r.2.2])∧Below w.heap.size w w'
theorem CountEnds.mk{s:ByteArray}{a m:Int}{w w':World}{n b c:Int}{k:Nat}(h:lcount s.data.toList a m=(k,b,c))(hn:n=k)(hb:Below w.heap.size w w'):CountEnds s a m w (.returned (.tuple #[.int .i64 n,.int .i64 b,.int .i64 c])) w' :=
 ⟨by rw [h,hn],hb⟩
theorem CountEnds.to{s:ByteArray}{a m:Int}{w w':World}{e:Ending}{n:Nat}{b c:Int}(h:CountEnds s a m w e w')(hl:lcount s.data.toList a m=(n,b,c)):e=.returned (.tuple #[.int .i64 n,.int .i64 b,.int .i64 c])∧Below w.heap.size w w':=by
 obtain⟨h1,h2⟩:=h
 rw [hl] at h1
 exact⟨h1,h2⟩
theorem TextEnds.mk{r:List UInt8×Int×Int}{w w':World}{s:ByteArray}{l:List UInt8}{b c:Int}(h:r=(l,b,c))(hs:s=strB l)(hb:Below w.heap.size w w'):TextEnds r w (.returned (.tuple #[.string s,.int .i64 b,.int .i64 c])) w' :=
 ⟨by rw [h,hs],hb⟩
theorem TextEnds.to{r:List UInt8×Int×Int}{w w':World}{e:Ending}{l:List UInt8}{b c:Int}(h:TextEnds r w e w')(hl:r=(l,b,c)):e=.returned (.tuple #[.string (strB l),.int .i64 b,.int .i64 c])∧Below w.heap.size w w':=by
 obtain⟨h1,h2⟩:=h
 rw [hl] at h1
 exact⟨h1,h2⟩
theorem lcount_err{l:List UInt8}{a m:Int}(h:(lget l a).2.2≠0):lcount l a m=(0,a,(lget l a).2.2):=by unfold lcount;rw [if_pos h]
theorem lcount_large{l:List UInt8}{a m:Int}(h:(lget l a).2.2=0)(hm:m<0∨m<(lget l a).1):lcount l a m=(0,a,4):=by unfold lcount;rw [if_neg (by omega),if_pos hm]
theorem lcount_ok{l:List UInt8}{a m:Int}(h:(lget l a).2.2=0)(h0:0≤m)(h1:(lget l a).1≤m):lcount l a m=lget l a:=by unfold lcount;rw [if_neg (by omega),if_neg (by omega)]
theorem wrap_u64_of{n:Int}(h0:0≤n)(h1:n≤9223372036854775807):IntKind.u64.wrap n=n:=by rw [IntKind.wrap_u64];omega
theorem wrap_i64_of{n:Int}(h0:0≤n)(h1:n≤9223372036854775807):IntKind.i64.wrap n=n:=by rw [IntKind.wrap_i64];omega
theorem lcount_range(l:List UInt8)(a m:Int)(h:(lcount l a m).2.2=0):0≤a∧a<(lcount l a m).2.1∧(lcount l a m).2.1≤l.length∧(lcount l a m).1≤m∧lcount l a m=lget l a:=by
 unfold lcount at *
 by_cases c1:(lget l a).2.2≠0
 ·rw [if_pos c1] at h;exact absurd h c1
 ·rw [if_neg c1] at h ⊢
  split at h
  ·simp at h
  ·rename_i c2
   rw [if_neg c2]
   obtain⟨h1,h2,h3,-⟩:=lget_only l a h
   exact⟨h1,h2,h3,by omega,rfl⟩
def fst0(p q:Int):Int:=if p=0 then q else p
theorem fst0_0(q:Int):fst0 0 q=q:=if_pos rfl
theorem fst0_n{p:Int}(h:p≠0)(q:Int):fst0 p q=p:=if_neg h
def sel(p q:Int)(x z:Value):Value:=if fst0 p q=0 then x else z
theorem sel_go{p q:Int}(h:fst0 p q=0)(x z:Value):sel p q x z=x:=if_pos h
theorem sel_no{p q:Int}(h:fst0 p q≠0)(x z:Value):sel p q x z=z:=if_neg h
section
variable {a:Nat} {s:ByteArray} {p er0 to er:Int} {x z:Value} {w w':World} {e:Ending}
end
def endOf(s:ByteArray)(p er:Int):Int:=if er≠0 then er else if p<s.size then 5 else 0
theorem strCells_b(s:ByteArray):Lib.strCells s=Bytes.bcells s.data.toList:=by
 simp [Lib.strCells,Bytes.bcells,Bytes.nums]
theorem append_text_at{P:Program}(w:World)(t u ty e:TypeId)(i:TypeInfo)(ht:P.underlying t=some (.slice e))(hu:P.underlying u=some .string)(hi:P.info? e=some i)(hz:i.zero=some (.int .u8 0))
  (hsize:i.size=1) (hby:i.bytes=1) (v:Value) (n:Nat) (xs:List Value) (hown:w.ownsRow 0 e 1 v n xs) (s:ByteArray) (h63:n+s.size≤maxLen) (hb:n+s.size≤140737488355328) :
  ∃ v' w',(Builtin.append_ #[t,u] ty #[v,.string s]).run P w=.ok v' w'∧w'.ownsRow 0 e 1 v' (n+s.size) (xs++Lib.strCells s)∧w.grownBy w' v.ownBlock ∧
   (∀ k,v'.ownBlock=some k→v.ownBlock=some k∨w.heap.size≤k):=by
 obtain⟨v',w',hr,h2,h3,-⟩:=Lib.run_append_own_string (P:=P) w 0 t u ty e i ht hu hi hz hsize hby v n xs hown s h63 hb (Nat.zero_le _)
 refine⟨v',w',hr,h2,h3,?_⟩
 rcases hown.2 with⟨rfl,rfl⟩ | ⟨g,cap,cur,rfl,hbg,hg,hnc,hcm,hcs,htake⟩
 ·have hx:xs=[]:=List.eq_nil_of_length_eq_zero (by simpa using hown.1)
  subst hx
  obtain⟨v2,w2,hr2,h22,-⟩:=Lib.run_append_own_string (P:=P) w w.heap.size t u ty e i ht hu hi hz hsize hby _ 0 [] (World.ownsRow_nil w _ e 1) s h63 hb (Nat.le_refl _)
  rw [hr] at hr2
  cases hr2
  intro k hk
  exact .inr (h22.lt k hk).1
 ·have hcs':cur.size=cap:=by simpa using hcs
  have hxl:xs.length=n:=by simpa using hown.1
  by_cases hroom:n+s.size≤cap
  ·have hr2:=Lib.run_append_room_string (P:=P) w t u ty e i ht hu hi hsize g n cap cur hg s hroom (by omega)
   rw [hr] at hr2
   cases hr2
   intro k hk
   exact .inl hk
  ·have hr2:=Lib.run_append_grow_string (P:=P) w t u ty e i (.int .u8 0) ht hu hi hz ⟨g,0,none⟩ n cap xs (by rw [hsize];simpa using hxl) (hown.cells (g:=g) rfl) s (by omega) (by simp only [maxLen] at h63;omega) (by rw [hby];exact growslice_fits (by omega) (by omega))
   rw [hr] at hr2
   cases hr2
   intro k hk
   simp [Value.ownBlock] at hk
   exact .inr (by omega)
theorem wpList_append_text_at{P:Program}{w:World}{ops:Array Oper}{rest:List Oper}{o:Oper}{a:Act}{Q:Exit→Act→World→Prop}(hgd:o.guard=none)(sl x:Operand)(t u:TypeId)
  (ho:o.op=.call { callee:=.builtin .append,args:=#[sl,x],argTypes:=#[t,u] })
  (e:TypeId) (i:TypeInfo) (ht:P.underlying t=some (.slice e)) (hu:P.underlying u=some .string) (hi:P.info? e=some i) (hz:i.zero=some (.int .u8 0))
  (hsize:i.size=1) (hby:i.bytes=1)
  (v:Value) (n:Nat) (xs:List Value) (hs:a.eval sl=v) (hown:w.ownsRow 0 e 1 v n xs) (s:ByteArray) (hx:a.eval x=.string s)
  (h63:n+s.size≤maxLen) (hbytes:n+s.size≤140737488355328)
  (h:∀ v' w',w'.ownsRow 0 e 1 v' (n+s.size) (xs++Lib.strCells s)→w.grownBy w' v.ownBlock→(∀ k,v'.ownBlock=some k→v.ownBlock=some k∨w.heap.size≤k)→wpList P ops Q rest (a.put o.dst v') w'):wpList P ops Q (o::rest) a w:=by
 refine wpList_plain hgd fun K hK=>?_
 obtain⟨v',w',hr,h2,h3,h4⟩:=append_text_at (P:=P) w t u o.type e i ht hu hi hz hsize hby v n xs hown s h63 hbytes
 unfold Oper.wp execOp
 simp only [ho,resolve,invoke,builtin,Sem.run_bind,Sem.run_pure,Result.andThen_ok,List.map_toArray,List.map_cons,List.map_nil,hs,hx,hr]
 exact hK _ _ (h v' w' h2 h3 h4)
def Wr(w:World)(a:Nat)(R:Option Nat)(l:List UInt8):Prop :=
 ∃ v,Blk w a 89 #[v]∧w.ownsRow 0 5 1 v l.length (Bytes.bcells l)∧v.ownBlock=R
def Its(a:Nat)(R:Option Nat)(k:Nat):Prop:=k=a∨R=some k
def WrEnds(a:Nat)(R:Option Nat)(l:List UInt8)(w:World)(e:Ending)(w':World):Prop :=
 e=.returned (.pointer (some ⟨a,0,none⟩))∧Kept (Its a R) w w'∧∃ R',Wr w' a R' l∧∀ k,R'=some k→R=some k∨w.heap.size≤k
section
variable {w w':World} {a:Nat} {R:Option Nat} {l:List UInt8}
theorem Wr.lt(h:Wr w a R l):a<w.heap.size:=by obtain⟨v,h,-⟩:=h;exact h.lt
theorem Wr.row_lt(h:Wr w a R l):∀ k,R=some k→k<w.heap.size:=by
 obtain⟨v,-,h,rfl⟩:=h;exact fun k hk=>(h.lt k hk).2
theorem Wr.its_lt(h:Wr w a R l):∀ k,Its a R k→k<w.heap.size:=by
 rintro k (rfl | hk)
 ·exact h.lt
 ·exact h.row_lt k hk
theorem ownsRow_of_block{base:Nat}{e:TypeId}{size:Nat}{v:Value}{n:Nat}{xs:List Value}(h:w.ownsRow base e size v n xs)(hb:∀ k,v.ownBlock=some k→w'.heap[k]? = w.heap[k]?):w'.ownsRow base e size v n xs:=by
 refine⟨h.1,?_⟩
 rcases h.2 with hn | ⟨g,cap,cur,rfl,hbg,hgg,rest⟩
 ·exact .inl hn
 ·exact .inr ⟨g,cap,cur,rfl,hbg,(hb g rfl).trans hgg,rest⟩
theorem Wr.kept{S:Nat→Prop}(h:Wr w a R l)(k:Kept S w w')(ha:¬ S a)(hR:∀ i,R=some i→¬ S i):Wr w' a R l:=by
 obtain⟨v,hb,hr,rfl⟩:=h
 exact⟨v,hb.kept k ha,ownsRow_of_block hr (fun i hi=>k.block i (hr.lt i hi).2 (hR i hi)),rfl⟩
theorem Wr.below(h:Wr w a R l)(hb:Below w.heap.size w w'):Wr w' a R l:=by
 obtain⟨v,hbk,hr,rfl⟩:=h
 exact⟨v,hbk.below hb hbk.lt,ownsRow_of_block hr (fun i hi=>hb.block i (hr.lt i hi).2),rfl⟩
end
theorem New_any(w:World):Calls Tryz.prog 16 #[] w fun e w'=>e=.returned (.pointer (some ⟨w.heap.size,0,none⟩))∧Wr w' w.heap.size none []∧Below w.heap.size w w':=by
 go_enter Tryz.func16,Tryz.ntmps16
 go_wp2
 go_ret
 exact⟨rfl,⟨_,Blk.new _ _ _,World.ownsRow_nil _ _ _ _,rfl⟩,(Below.refl _ _).alloc (Nat.le_refl _) _⟩
theorem Bytes_any(a:Nat)(R:Option Nat)(l:List UInt8)(w:World)(h:Wr w a R l) :
  Calls Tryz.prog 20 #[.pointer (some ⟨a,0,none⟩)] w fun e w'=>e=.returned (.string ⟨l.toArray⟩)∧w=w':=by
 obtain⟨v,hb,hr,-⟩:=h
 have hc:=hb.cell 0
 have hcv:=Bytes.conv_owned w 0 v l hr
 rcases hr.2 with⟨rfl,hn⟩ | ⟨g,cap,cur,rfl,-⟩
 ·have HN:=Lib.hid hn
  clear hn
  go_enter Tryz.func20,Tryz.ntmps20
  go_wp2
  go_ret
  exact⟨rfl,rfl⟩
 ·go_enter Tryz.func20,Tryz.ntmps20
  go_wp2
  go_ret
  exact⟨rfl,rfl⟩
theorem bcells_add(l m:List UInt8):Bytes.bcells (l++m)=Bytes.bcells l++Bytes.bcells m:=by simp [Bytes.bcells,Bytes.nums]
theorem Wr.more{w w0 w1:World}{a:Nat}{v v':Value}{l m:List UInt8}(hb:Blk w a 89 #[v])(hr:w.ownsRow 0 5 1 v l.length (Bytes.bcells l))
  (h0:Below w.heap.size w w0) (hown:w1.ownsRow 0 5 1 v' (l.length+m.length) (Bytes.bcells l++Bytes.bcells m)) (hg:w0.grownBy w1 v.ownBlock) (hat:∀ k,v'.ownBlock=some k→v.ownBlock=some k∨w.heap.size≤k) :
  w1.cell? ⟨a,0,none⟩=some v∧w1.frozen? ⟨a,0,none⟩=false∧WrEnds a v.ownBlock (l++m) w (.returned (.pointer (some ⟨a,0,none⟩))) (w1.setCell ⟨a,0,none⟩ v'):=by
 have hne:some a≠v.ownBlock:=Boxed.not_row (t:=89) (e:=5) hb (by decide) hr
 have hb1:=(hb.below h0 hb.lt).grown hg hne
 have hne':some a≠v'.ownBlock:=Boxed.not_row (t:=89) (e:=5) hb1 (by decide) hown
 refine⟨hb1.cell 0,hb1.frozen 0,rfl,?_,v'.ownBlock,⟨v',hb1.set 0 v',?_,rfl⟩,hat⟩
 ·have k1:Kept (Its a v.ownBlock) w w1:=((Kept.of_below h0 (Nat.le_refl _)).grown hg (fun k hk=>.inl (.inr hk)))
  exact k1.setCell (p:=⟨a,0,none⟩) (.inl (.inl rfl)) v'
 ·rw [List.length_append,bcells_add]
  exact ownsRow_of_block hown (fun k hk=>Below.heap_setCell _ _ _ _ (fun e=>hne' (by rw [hk,e])))
theorem owns_form{w:World}{base:Nat}{e:TypeId}{size:Nat}{v:Value}{n:Nat}{xs:List Value}(h:w.ownsRow base e size v n xs):∃ A c,v=.slice A n c:=by
 rcases h.2 with⟨rfl,rfl⟩ | ⟨g,cap,_,rfl,_⟩
 ·exact⟨_,_,rfl⟩
 ·exact⟨_,_,rfl⟩
theorem Raw_any(a:Nat)(R:Option Nat)(l:List UInt8)(s:ByteArray)(w:World)(h:Wr w a R l)(hl:l.length+s.size≤1073741824) :
  Calls Tryz.prog 37 #[.pointer (some ⟨a,0,none⟩),.string s] w (WrEnds a R (l++s.data.toList) w):=by
 obtain⟨v,hb,hr,rfl⟩:=h
 obtain⟨i0,hi,hz0,hz1,hz2⟩:=info_parts Bytes.info_u8
 have hc:=hb.cell 0
 have hsl:s.data.toList.length=s.size:=by simp
 have HS:=Lib.hid hsl
 have HC:=Lib.hid (strCells_b s)
 clear hsl
 go_enter Tryz.func37,Tryz.ntmps37
 go_wp2_with (at_builtin;refine wpList_append_text_at rfl _ _ 87 9 rfl 5 i0 Tryz.underlying87 Tryz.underlying9 hi hz0 hz1 hz2 v l.length _ rfl hr s rfl (by simp only [maxLen];omega) (by omega) ?_;intro v' w1 hown hg hat;rw [HC.out] at hown;obtain⟨A1,c1,rfl⟩:=owns_form hown;obtain⟨hc1,hf1,hE⟩:=Wr.more (m:=s.data.toList) hb hr (Below.refl _ _) (by rw [HS.out];exact hown) hg hat)
 go_ret
 exact hE
theorem WrEnds.to{a:Nat}{R:Option Nat}{l:List UInt8}{w w':World}{e:Ending}(h:WrEnds a R l w e w'):e=.returned (.pointer (some ⟨a,0,none⟩))∧Kept (Its a R) w w'∧∃ R',Wr w' a R' l∧∀ k,R'=some k→R=some k∨w.heap.size≤k:=h
theorem WrEnds.pre{a:Nat}{R:Option Nat}{l:List UInt8}{w w1 w':World}{e:Ending}(hb:Below w.heap.size w w1)(h:WrEnds a R l w1 e w'):WrEnds a R l w e w':=by
 obtain⟨h1,h2,R',h3,h4⟩:=h
 exact⟨h1,(Kept.of_below hb (Nat.le_refl _)).trans h2,R',h3,fun k hk=>(h4 k hk).imp id (fun q=>Nat.le_trans hb.size q)⟩
theorem WrEnds.then{a:Nat}{R R1:Option Nat}{m:List UInt8}{w w1 w':World}{e:Ending}(hk:Kept (Its a R) w w1)(hr:∀ k,R1=some k→R=some k∨w.heap.size≤k)(h:WrEnds a R1 m w1 e w'):WrEnds a R m w e w':=by
 obtain⟨h1,h2,R',h3,h4⟩:=h
 refine⟨h1,hk.then h2 ?_,R',h3,fun k hk'=>?_⟩
 ·rintro i (rfl | hi)
  ·exact .inl (.inl rfl)
  ·exact(hr i hi).imp .inr id
 ·rcases h4 k hk' with q | q
  ·exact hr k q
  ·exact .inr (Nat.le_trans hk.size q)
theorem WNum_any(a:Nat)(R:Option Nat)(l:List UInt8)(n:Int)(h0:0≤n)(h1:n≤18446744073709551615)(w:World)(h:Wr w a R l)(hl:l.length+10≤1073741824) :
  Calls Tryz.prog 17 #[.pointer (some ⟨a,0,none⟩),.int .u64 n] w (WrEnds a R (l++lput n.toNat) w):=by
 have hp:=lput_len10 (n:=n.toNat) (by omega)
 have HR:=Lib.hid (fun W hW=>Raw_any a R l ⟨(lput n.toNat).toArray⟩ W hW (by rw [Zig.size_mk];omega))
 go_enter Tryz.func17,Tryz.ntmps17
 go_wp2_with (first | (go_at_call 38;refine(Put_any n h0 h1 _).mono ?_;rintro e w1 ⟨rfl,hb1⟩) | (go_at_call 37;refine(HR.out _ (h.below hb1)).mono ?_;intro e w2 hq;have hE:=hq.pre hb1;clear hq;have he:=hE.1;subst he))
 go_ret
 exact hE
theorem WInt_any(a:Nat)(R:Option Nat)(l:List UInt8)(n:Int)(h0 : -9223372036854775808≤n)(h1:n≤9223372036854775807)(w:World)(h:Wr w a R l)(hl:l.length+10≤1073741824) :
  Calls Tryz.prog 18 #[.pointer (some ⟨a,0,none⟩),.int .i64 n] w (WrEnds a R (l++Zig.zput n) w):=by
 have hz:=Zig.zig_range h0 h1
 have hp:(Zig.zput n).length≤10:=lput_len10 (n:=(Zig.zig n).toNat) (by omega)
 have HR:=Lib.hid (fun W hW=>Raw_any a R l ⟨(Zig.zput n).toArray⟩ W hW (by rw [Zig.size_mk];omega))
 go_enter Tryz.func18,Tryz.ntmps18
 go_wp2_with (first | (go_at_call 39;refine(Zig.Put_any n h0 h1 _).mono ?_;rintro e w1 ⟨rfl,hb1⟩) | (go_at_call 37;refine(HR.out _ (h.below hb1)).mono ?_;intro e w2 hq;have hE:=hq.pre hb1;clear hq;have he:=hE.1;subst he))
 go_ret
 exact hE
def tput(s:List UInt8):List UInt8:=lput s.length++s
theorem u64_len{n:Nat}(h:n≤1073741824):IntKind.u64.wrap (n:Int)=(n:Int):=by rw [IntKind.wrap_u64];omega
def Wb(g:Nat)(R0:Option Nat)(W:World)(l:List UInt8)(w:World):Prop :=
 ∃ R,Wr w g R l∧Kept (Its g R0) W w∧∀ k,R=some k→R0=some k∨W.heap.size≤k
section
variable {g:Nat} {R0:Option Nat} {W w w':World} {l m:List UInt8}
theorem Wb.start(h:Wr w g R0 l):Wb g R0 w l w:=⟨R0,h,Kept.refl _ _,fun _ hk=>.inl hk⟩
theorem Wb.below(h:Wb g R0 W l w)(hb:Below w.heap.size w w'):Wb g R0 W l w':=by
 obtain⟨R,h1,h2,h3⟩:=h
 exact⟨R,h1.below hb,h2.below hb,h3⟩
theorem Wb.drew(h:Wb g R0 W l w):Wb g R0 W l w.drew:=h.below ((Below.refl _ _).drew)
theorem Wb.size(h:Wb g R0 W l w):W.heap.size≤w.heap.size:=by obtain⟨R,-,h2,-⟩:=h;exact h2.size
theorem Wb.cell(h:Wb g R0 W l w){p:Addr}(hp:p.block<W.heap.size)(hn:¬ Its g R0 p.block):w.cell? p=W.cell? p:=by
 obtain⟨R,-,h2,-⟩:=h
 exact h2.cell hp hn
theorem Wb.blk(h:Wb g R0 W l w){k:Nat}{t:TypeId}{cs:Array Value}(hb:Blk W k t cs)(hn:¬ Its g R0 k):Blk w k t cs:=by
 obtain⟨R,-,h2,-⟩:=h
 exact hb.kept h2 hn
theorem Wb.to_below{B:Nat}(h:Wb g R0 W l w)(hB:B≤W.heap.size)(hg:B≤g)(hR:∀ k,R0=some k→B≤k):Below B W w:=by
 obtain⟨R,-,h2,-⟩:=h
 exact h2.to_below hB (fun k hk=>hk.elim (fun e=>e▸hg) (hR k))
theorem Wb.ends{P:Program}{f:FuncId}{args:Array Value}(h:Wb g R0 W l w)(he:∀ R,Wr w g R l→Calls P f args w (WrEnds g R m w)) :
  Calls P f args w fun e w'=>e=.returned (.pointer (some ⟨g,0,none⟩))∧Wb g R0 W m w':=by
 obtain⟨R,h1,h2,h3⟩:=h
 refine(he R h1).mono ?_
 rintro e w' ⟨rfl,h4,R',h5,h6⟩
 have h0:∀ i,Its g R i→Its g R0 i∨W.heap.size≤i:=by
  rintro i (rfl | hi)
  ·exact .inl (.inl rfl)
  ·exact(h3 i hi).imp .inr id
 exact⟨rfl,R',h5,h2.then h4 h0,fun k hk=>(h6 k hk).elim (h3 k) (fun q=>.inr (Nat.le_trans h2.size q))⟩
end
section
variable {g:Nat} {R0:Option Nat} {W w:World} {l:List UInt8}
theorem Wb.raw(h:Wb g R0 W l w)(s:ByteArray)(hl:l.length+s.size≤1073741824) :
  Calls Tryz.prog 37 #[.pointer (some ⟨g,0,none⟩),.string s] w fun e w'=>e=.returned (.pointer (some ⟨g,0,none⟩))∧Wb g R0 W (l++s.data.toList) w' :=
 h.ends fun R hR=>Raw_any g R l s w hR hl
theorem Wb.num(h:Wb g R0 W l w)(n:Int)(h0:0≤n)(h1:n≤18446744073709551615)(hl:l.length+10≤1073741824) :
  Calls Tryz.prog 17 #[.pointer (some ⟨g,0,none⟩),.int .u64 n] w fun e w'=>e=.returned (.pointer (some ⟨g,0,none⟩))∧Wb g R0 W (l++lput n.toNat) w' :=
 h.ends fun R hR=>WNum_any g R l n h0 h1 w hR hl
theorem Wb.int(h:Wb g R0 W l w)(n:Int)(h0 : -9223372036854775808≤n)(h1:n≤9223372036854775807)(hl:l.length+10≤1073741824) :
  Calls Tryz.prog 18 #[.pointer (some ⟨g,0,none⟩),.int .i64 n] w fun e w'=>e=.returned (.pointer (some ⟨g,0,none⟩))∧Wb g R0 W (l++Zig.zput n) w' :=
 h.ends fun R hR=>WInt_any g R l n h0 h1 w hR hl
theorem Wb.bytes(h:Wb g R0 W l w):Calls Tryz.prog 20 #[.pointer (some ⟨g,0,none⟩)] w fun e w'=>e=.returned (.string ⟨l.toArray⟩)∧w=w':=by
 obtain⟨R,h1,-,-⟩:=h
 exact Bytes_any g R l w h1
end
def PW(Q:World)(l:List UInt8)(w:World):Prop:=∃ w2,Below Q.heap.size Q w2∧Wb Q.heap.size none w2 l w
section
variable {Q w w':World} {l:List UInt8}
theorem PW.to(h:PW Q l w):Below Q.heap.size Q w:=by
 obtain⟨w2,h1,q⟩:=h
 exact h1.trans (q.to_below h1.size (Nat.le_refl _) (fun _ e=>by cases e))
theorem PW.drew(h:PW Q l w):PW Q l w.drew:=by
 obtain⟨w2,h1,q⟩:=h
 exact⟨w2,h1,q.drew⟩
theorem PW.new(Q:World):Calls Tryz.prog 16 #[] Q.drew fun e w'=>e=.returned (.pointer (some ⟨Q.heap.size,0,none⟩))∧PW Q [] w' :=
 (New_any Q.drew).mono (fun _ w' h=>⟨h.1,w',(Below.refl _ _).drew.trans h.2.2,Wb.start h.2.1⟩)
theorem PW.num(h:PW Q l w)(n:Int)(h0:0≤n)(h1:n≤18446744073709551615)(hl:l.length+10≤1073741824) :
  Calls Tryz.prog 17 #[.pointer (some ⟨Q.heap.size,0,none⟩),.int .u64 n] w fun e w'=>e=.returned (.pointer (some ⟨Q.heap.size,0,none⟩))∧PW Q (l++lput n.toNat) w':=by
 obtain⟨w2,h2,q⟩:=h
 exact(q.num n h0 h1 hl).mono (fun _ _ k=>⟨k.1,w2,h2,k.2⟩)
theorem PW.int(h:PW Q l w)(n:Int)(h0 : -9223372036854775808≤n)(h1:n≤9223372036854775807)(hl:l.length+10≤1073741824) :
  Calls Tryz.prog 18 #[.pointer (some ⟨Q.heap.size,0,none⟩),.int .i64 n] w fun e w'=>e=.returned (.pointer (some ⟨Q.heap.size,0,none⟩))∧PW Q (l++Zig.zput n) w':=by
 obtain⟨w2,h2,q⟩:=h
 exact(q.int n h0 h1 hl).mono (fun _ _ k=>⟨k.1,w2,h2,k.2⟩)
theorem PW.bytes(h:PW Q l w):Calls Tryz.prog 20 #[.pointer (some ⟨Q.heap.size,0,none⟩)] w fun e w'=>e=.returned (.string ⟨l.toArray⟩)∧PW Q l w':=by
 obtain⟨w2,h2,q⟩:=h
 exact q.bytes.mono (fun _ _ k=>⟨k.1,w2,h2,k.2▸q⟩)
end
end Go.Proofs.YtekogckmgkodfaaGreatDoor.Wire
