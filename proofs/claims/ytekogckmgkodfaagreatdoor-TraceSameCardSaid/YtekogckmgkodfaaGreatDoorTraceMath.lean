/-
  A run's bytes: how many events there are, their numbers, and how the run ended; unlike ones have unlike bytes (plain).
-/
import Derived.Test.YtekogckmgkodfaaGreatDoorWireG
namespace Go.Proofs.YtekogckmgkodfaaGreatDoor.Trc
open Leb Zig
theorem lput_one{a b:Nat}{y y':List UInt8}(h:lput a++y=lput b++y'):a=b∧y=y':=by
 have h1:=lbytes_lput a ((lput a).length+(lput b).length) y (by omega)
 have h2:=lbytes_lput b ((lput a).length+(lput b).length) y' (by omega)
 rw [h,h2] at h1
 obtain⟨h3,h4⟩:=List.append_inj h h1.symm
 exact⟨lput_inj h3,h4⟩
theorem zig_pos(n:Int):0≤zig n:=by unfold zig;split<;>omega
theorem zput_one{a b:Int}{y y':List UInt8}(h:zput a++y=zput b++y'):a=b∧y=y':=by
 obtain⟨h1,h2⟩:=lput_one h
 have:=zig_pos a
 have:=zig_pos b
 exact⟨by rw [← zag_zig a,← zag_zig b,show zig a=zig b by omega],h2⟩
theorem zputs_one:∀ (l l':List Int) {y y':List UInt8},l.length=l'.length→l.flatMap zput++y=l'.flatMap zput++y'→l=l'∧y=y'
 | [],[],_,_,_,h=>⟨rfl,h⟩
 | a::l,b::l',y,y',hl,h=>by
  rw [List.flatMap_cons,List.flatMap_cons,List.append_assoc,List.append_assoc] at h
  obtain⟨rfl,h2⟩:=zput_one h
  obtain⟨rfl,h3⟩:=zputs_one l l' (by simpa using hl) h2
  exact⟨rfl,h3⟩
 | [],b::l',_,_,hl,_=>by simp at hl
 | a::l,[],_,_,hl,_=>by simp at hl
def enum(e:Int×Int×Int):List Int:=[e.1,e.2.1,e.2.2]
def nums(l:List (Int×Int×Int))(k v:Int):List Int:=l.flatMap enum++[k,v]
def bytes(l:List (Int×Int×Int))(k v:Int):List UInt8:=lput l.length++(nums l k v).flatMap zput
theorem enums_len(l:List (Int×Int×Int)):(l.flatMap enum).length=3*l.length:=by
 induction l with
 | nil=>rfl
 | cons x l ih=>rw [List.flatMap_cons,List.length_append,ih,List.length_cons];show 3+_=_;omega
theorem nums_len(l:List (Int×Int×Int))(k v:Int):(nums l k v).length=3*l.length+2:=by unfold nums;rw [List.length_append,enums_len];rfl
theorem enums_inj:∀ (l l':List (Int×Int×Int)),l.flatMap enum=l'.flatMap enum→l=l'
 | [],[],_=>rfl
 | a::l,b::l',h=>by
  obtain⟨a1,a2,a3⟩:=a
  obtain⟨b1,b2,b3⟩:=b
  rw [List.flatMap_cons,List.flatMap_cons] at h
  simp only [enum,List.cons_append,List.nil_append,List.cons.injEq] at h
  obtain⟨rfl,rfl,rfl,h⟩:=h
  rw [enums_inj l l' h]
 | [],b::l',h=>by rw [List.flatMap_cons] at h;cases h
 | a::l,[],h=>by rw [List.flatMap_cons] at h;cases h
theorem bytes_iff{l l':List (Int×Int×Int)}{k k' v v':Int}:bytes l k v=bytes l' k' v'↔l=l'∧k=k'∧v=v':=by
 refine⟨fun h=>?_,fun⟨h1,h2,h3⟩=>by rw [h1,h2,h3]⟩
 unfold bytes at h
 obtain⟨h1,h2⟩:=lput_one h
 have h3:=(zputs_one (nums l k v) (nums l' k' v') (y:=[]) (y':=[]) (by rw [nums_len,nums_len,h1]) (by rw [List.append_nil,List.append_nil,h2])).1
 unfold nums at h3
 obtain⟨h4,h5⟩:=List.append_inj h3 (by rw [enums_len,enums_len,h1])
 simp only [List.cons.injEq,and_true] at h5
 exact⟨enums_inj _ _ h4,h5⟩
theorem zput_len{n:Int}(h0 : -9223372036854775808≤n)(h1:n≤9223372036854775807):(zput n).length≤10:=by
 have:=zig_range h0 h1
 exact lput_len10 (n:=(zig n).toNat) (by omega)
theorem zputs_len:∀ l:List Int,(∀ n∈l,-9223372036854775808≤n∧n≤9223372036854775807)→(l.flatMap zput).length≤10*l.length
 | [],_=>Nat.le_refl _
 | n::l,h=>by
  have:=zput_len (h n (List.mem_cons_self ..)).1 (h n (List.mem_cons_self ..)).2
  have:=zputs_len l (fun q hq=>h q (List.mem_cons_of_mem _ hq))
  rw [List.flatMap_cons,List.length_append,List.length_cons]
  omega
structure R64 (l:List (Int×Int×Int)) (k v:Int):Prop where
 ev:∀ e∈l,∀ n∈enum e,-9223372036854775808≤n∧n≤9223372036854775807
 kind : -9223372036854775808≤k∧k≤9223372036854775807
 value : -9223372036854775808≤v∧v≤9223372036854775807
theorem R64.nums{l:List (Int×Int×Int)}{k v:Int}(h:R64 l k v):∀ n∈nums l k v,-9223372036854775808≤n∧n≤9223372036854775807:=fun n hn=>by
 rcases List.mem_append.1 hn with hn | hn
 ·obtain⟨e,he,hn⟩:=List.mem_flatMap.1 hn
  exact h.ev e he n hn
 ·rcases List.mem_cons.1 hn with rfl | hn
  ·exact h.kind
  ·rw [List.mem_singleton] at hn
   subst hn
   exact h.value
theorem bytes_len{l:List (Int×Int×Int)}{k v:Int}(h:R64 l k v)(hl:l.length≤1000000):(bytes l k v).length≤30*l.length+30:=by
 have h1:=zputs_len _ h.nums
 rw [nums_len] at h1
 have h2:=lput_len10 (n:=l.length) (by omega)
 unfold bytes
 rw [List.length_append]
 omega
end Go.Proofs.YtekogckmgkodfaaGreatDoor.Trc
