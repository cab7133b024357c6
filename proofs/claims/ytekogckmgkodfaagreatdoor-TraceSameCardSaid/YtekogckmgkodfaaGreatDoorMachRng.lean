/-
  What a program stores, and what it returns, are numbers of 64 bits, if its nodes' numbers and what it is given are (plain).
-/
import Derived.Test.YtekogckmgkodfaaGreatDoorMachG
set_option linter.unusedVariables false
namespace Go.Proofs.YtekogckmgkodfaaGreatDoor.Mach
open Arena Kinds
abbrev I64 (n:Int):Prop := -9223372036854775808≤n∧n≤9223372036854775807
theorem i64_wrap(n:Int):I64 (IntKind.i64.wrap n):=by rw [IntKind.wrap_i64];constructor<;>omega
structure Rng (s:St):Prop where
 vals:∀ n∈s.vals,I64 n
 arrs:∀ l∈s.arrs,∀ n∈l,I64 n
 ev:∀ e∈s.ev,I64 e.1∧I64 e.2.1∧I64 e.2.2
 value:I64 s.value
def Keeps(m:Sem):Prop:=∀ s,Rng s→Rng (m s).1∧I64 (m s).2
theorem i64_0:I64 0:=by decide
theorem i64_b01(p:Bool):I64 (b01 p):=by unfold b01;split<;>decide
theorem Rng.stop{s:St}(h:Rng s)(k:Int){v:Int}(hv:I64 v):Rng (s.stop k v):=by
 unfold St.stop
 split
 ·exact h
 ·exact⟨h.vals,h.arrs,h.ev,hv⟩
theorem rng_pure{v:Int}(h:I64 v):Keeps (pureM v):=fun s hs=>⟨hs,h⟩
theorem rng_stop(k:Int){v:Int}(h:I64 v):Keeps (stopM k v):=fun s hs=>⟨hs.stop k h,i64_0⟩
theorem rng_bind{m:Sem}{k:Int→Sem}(hm:Keeps m)(hk:∀ a,I64 a→Keeps (k a)):Keeps (bindM m k):=fun s hs=>by
 obtain⟨h1,h2⟩:=hm s hs
 unfold bindM
 split
 ·exact⟨h1,i64_0⟩
 ·exact hk _ h2 _ h1
theorem rng_enter{b:Sem}(hb:Keeps b):Keeps (enterM b):=fun s hs=>by
 unfold enterM
 split
 ·exact⟨hs,i64_0⟩
 ·split
  ·exact⟨hs.stop 4 i64_0,i64_0⟩
  ·exact hb _ ⟨hs.vals,hs.arrs,hs.ev,hs.value⟩
theorem getD_rng{l:List Int}(h:∀ n∈l,I64 n)(i:Nat):I64 (l.getD i 0):=by
 rw [List.getD_eq_getElem?_getD]
 cases q:l[i]? with
 | none=>exact i64_0
 | some n=>exact h n (List.mem_of_getElem? q)
theorem arr_rng{s:St}(h:Rng s)(i:Int):∀ n∈arr s i,I64 n:=by
 unfold arr
 rw [List.getD_eq_getElem?_getD]
 cases q:s.arrs[i.toNat]? with
 | none=>intro n hn;cases hn
 | some l=>exact h.arrs l (List.mem_of_getElem? q)
theorem rng_getV(i:Int):Keeps (getV i):=fun s hs=>⟨hs,getD_rng hs.vals _⟩
theorem mem_set'{α:Type}{l:List α}{i:Nat}{v n:α}(h:n∈l.set i v):n∈l∨n=v:=by
 rcases List.mem_or_eq_of_mem_set h with h | h
 ·exact .inl h
 ·exact .inr h
theorem rng_setV{i v:Int}(hi:I64 i)(hv:I64 v):Keeps (setV i v):=fun s hs=>by
 refine⟨⟨fun n hn=>?_,hs.arrs,fun e he=>?_,hs.value⟩,i64_0⟩
 ·rcases mem_set' hn with h | rfl
  ·exact hs.vals n h
  ·exact hv
 ·rcases List.mem_append.1 he with h | h
  ·exact hs.ev e h
  ·rw [List.mem_singleton] at h
   subst h
   exact⟨hi,(by show I64 (-1);decide),hv⟩
theorem rng_getA(i a:Int):Keeps (getA i a):=fun s hs=>by
 unfold getA
 split
 ·exact⟨hs.stop 2 i64_0,i64_0⟩
 ·exact⟨hs,getD_rng (arr_rng hs i) _⟩
theorem rng_setA{i a b:Int}(hi:I64 i)(ha:I64 a)(hb:I64 b):Keeps (setA i a b):=fun s hs=>by
 unfold setA
 split
 ·exact⟨hs.stop 2 i64_0,i64_0⟩
 ·refine⟨⟨hs.vals,fun l hl n hn=>?_,fun e he=>?_,hs.value⟩,i64_0⟩
  ·rcases mem_set' hl with h | rfl
   ·exact hs.arrs l h n hn
   ·rcases mem_set' hn with h | rfl
    ·exact arr_rng hs i n h
    ·exact hb
  ·rcases List.mem_append.1 he with h | h
   ·exact hs.ev e h
   ·rw [List.mem_singleton] at h
    subst h
    exact⟨hi,ha,hb⟩
theorem rng_seq:∀ l:List Sem,(∀ m∈l,Keeps m)→Keeps (seqM l)
 | [],_=>rng_pure i64_0
 | m::l,h=>rng_bind (h m (List.mem_cons_self ..)) fun _ _=>rng_seq l fun q hq=>h q (List.mem_cons_of_mem _ hq)
theorem rng_loop{c b:Sem}(hc:Keeps c)(hb:Keeps b):∀ n,Keeps (loopM c b n)
 | 0=>rng_pure i64_0
 | n+1=>rng_enter (rng_bind hc fun a _=>by
  by_cases h:a=1
  ·rw [if_pos h];exact rng_bind hb fun _ _=>rng_loop hc hb n
  ·rw [if_neg h];exact rng_pure i64_0)
theorem rng_while{c b:Sem}(hc:Keeps c)(hb:Keeps b):Keeps (whileM c b):=fun s hs=>by
 unfold whileM
 split
 ·exact⟨hs,i64_0⟩
 ·exact rng_loop hc hb _ s hs
theorem tmod_rng{a b:Int}(h:I64 a):I64 (a.tmod b):=by
 have h1:(a.tmod b).natAbs≤a.natAbs:=by
  rw [Int.natAbs_tmod]
  exact Nat.mod_le _ _
 have h2:0≤a→0≤a.tmod b:=fun h=>Int.tmod_nonneg b h
 have h3:a<0→a.tmod b≤0:=fun h=>by
  have:=Int.tmod_nonneg (a := -a) b (by omega)
  rw [Int.neg_tmod] at this
  omega
 constructor<;>omega
theorem rng_bin{t a b:Int}(ha:I64 a):Keeps (bin t a b):=by
 unfold bin
 repeat' split
 all_goals first
  | exact rng_stop _ i64_0
  | exact rng_pure (i64_wrap _)
  | exact rng_pure (tmod_rng ha)
  | exact rng_pure (i64_b01 _)
theorem rng_kid{ks:List Sem}(h:∀ m∈ks,Keeps m)(i:Nat):Keeps (kid ks i):=by
 unfold kid
 rw [List.getD_eq_getElem?_getD]
 cases q:ks[i]? with
 | none=>exact rng_pure i64_0
 | some m=>exact h m (List.mem_of_getElem? q)
theorem rng_behind{ks:List Sem}(h:∀ m∈ks,Keeps m){x:Nd}(hx:I64 x.2){a:Int}(ha:I64 a):Keeps (behindM x ks a):=by
 unfold behindM
 repeat' split
 all_goals first
  | exact rng_pure (i64_wrap _)
  | exact rng_pure i64_0
  | exact rng_pure (by decide)
  | exact rng_getA _ _
  | exact rng_setV hx ha
  | exact rng_kid h _
  | exact rng_stop _ ha
  | exact rng_bind (rng_kid h 1) fun b hb=>rng_setA hx ha hb
  | exact rng_bind (rng_kid h 1) fun b hb=>rng_bin ha
theorem rng_inner{ks:List Sem}(h:∀ m∈ks,Keeps m){x:Nd}(hx:I64 x.2):Keeps (innerM x ks):=by
 unfold innerM
 repeat' split
 ·exact rng_pure hx
 ·exact rng_getV _
 ·exact rng_pure i64_0
 ·exact rng_seq ks h
 ·exact rng_bind (rng_kid h 0) fun a ha=>rng_behind h hx ha
theorem rng_node{ks:List Sem}(h:∀ m∈ks,Keeps m){x:Nd}(hx:I64 x.2):Keeps (nodeM x ks):=by
 unfold nodeM
 split
 ·exact rng_while (rng_kid h 0) (rng_kid h 1)
 ·exact rng_enter (rng_inner h hx)
theorem rng_fold:∀ (X:List Nd),(∀ x∈X,I64 x.2)→∀ m∈fold nodeM X,Keeps m
 | [],_,m,h=>by cases h
 | x::X,hX,m,h=>by
  have ih:=rng_fold X fun q hq=>hX q (List.mem_cons_of_mem _ hq)
  rw [fold_cons] at h
  rcases List.mem_cons.1 h with h | h
  ·rw [h];exact rng_node (fun q hq=>ih q (List.mem_of_mem_take hq)) (hX x (List.mem_cons_self ..))
  ·exact ih m (List.mem_of_mem_drop h)
theorem apart_mem{l:List Nd}{k:Int}{x:Nd}(h:x∈apart l k):x∈l:=by
 unfold apart at h
 split at h
 ·cases h
 ·exact List.mem_of_mem_drop (List.mem_of_mem_take h)
theorem rng_mean{l:List Nd}(hl:∀ x∈l,I64 x.2)(k:Int):Keeps (mean l k):=by
 unfold mean val
 cases q:fold nodeM (apart l k) with
 | nil=>exact rng_pure i64_0
 | cons m r=>exact rng_fold (apart l k) (fun x hx=>hl x (apart_mem hx)) m (by rw [q];exact List.mem_cons_self ..)
theorem rng_begin{vs args:List Int}(ha:∀ n∈args,I64 n)(f:Nat):Rng (begin_ vs args f):=by
 refine⟨fun n hn=>?_,fun l hl n hn=>?_,(fun e he=>by cases he),i64_0⟩
 ·obtain⟨i,-,rfl⟩:=List.mem_map.1 hn
  exact getD_rng ha i
 ·obtain⟨t,-,rfl⟩:=List.mem_map.1 hl
  rw [(List.mem_replicate.1 hn).2]
  exact i64_0
theorem rng_run{vs args:List Int}{xs:List Nd}(hx:∀ x∈xs,I64 x.2)(ha:∀ n∈args,I64 n)(f:Nat):Rng (mrun vs xs args f):=by
 unfold mrun
 exact((rng_mean hx 0) _ (rng_begin ha f)).1.stop 3 i64_0
end Go.Proofs.YtekogckmgkodfaaGreatDoor.Mach
