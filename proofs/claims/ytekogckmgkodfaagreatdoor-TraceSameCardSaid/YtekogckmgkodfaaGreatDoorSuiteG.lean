/-
  Plain facts on tests as bytes: which may be, which may be put; what is put is read back, whatever stands behind it; tests have one form. No program is met here.
  Tests, in memory: a row of rows of numbers; and as a row that a call owns.
-/
import Derived.Test.YtekogckmgkodfaaGreatDoorDeltaG
import Derived.Test.YtekogckmgkodfaaGreatDoorArenaH
import Derived.Test.YtekogckmgkodfaaGreatDoorCatG
set_option linter.unusedVariables false
namespace Go.Proofs.YtekogckmgkodfaaGreatDoor.Suite
open Go.RowKit Leb Mem Wire Zig Arena Kinds _root_.Go.Proofs.YtekogckmgkodfaaGreatDoor.Code Delta
def wid(ts:List (List Int)):Nat:=(ts.headD []).length
def evenB(n:Int)(ts:List (List Int)):Bool:=ts.all fun t=>decide ((t.length:Int)=n)
def scheck(n:Int)(ts:List (List Int))(f:Int):Int:=if ts.length<1∨20<ts.length then 18 else if evenB n ts=false then 18 else if f<1∨10000<f then 19 else 0
def serr(ts:List (List Int))(f:Int):Int:=if ts.length=0∨12<wid ts then 18 else scheck (wid ts) ts f
structure SRight (ts:List (List Int)) (f:Int):Prop where
 n0:1≤ts.length
 n1:ts.length≤20
 w:wid ts≤12
 same:∀ t∈ts,t.length=wid ts
 f0:1≤f
 f1:f≤10000
theorem even_iff{n:Int}{ts:List (List Int)}:evenB n ts=true↔∀ t∈ts,(t.length:Int)=n:=by
 unfold evenB
 rw [List.all_eq_true]
 simp only [decide_eq_true_eq]
theorem serr_zero{ts:List (List Int)}{f:Int}:serr ts f=0↔SRight ts f:=by
 unfold serr scheck
 constructor
 ·intro h
  by_cases h1:ts.length=0∨12<wid ts
  ·rw [if_pos h1] at h;exact absurd h (by decide)
  rw [if_neg h1] at h
  by_cases h2:ts.length<1∨20<ts.length
  ·rw [if_pos h2] at h;exact absurd h (by decide)
  rw [if_neg h2] at h
  by_cases h3:evenB (wid ts) ts=false
  ·rw [if_pos h3] at h;exact absurd h (by decide)
  rw [if_neg h3] at h
  by_cases h4:f<1∨10000<f
  ·rw [if_pos h4] at h;exact absurd h (by decide)
  refine⟨by omega,by omega,by omega,fun t ht=>?_,by omega,by omega⟩
  have:=even_iff.1 (by simpa using h3) t ht
  omega
 ·rintro⟨h1,h2,h3,h4,h5,h6⟩
  rw [if_neg (by omega),if_neg (by omega),if_neg,if_neg (by omega)]
  rw [even_iff.2 (fun t ht=>by have:=h4 t ht;omega)]
  decide
theorem serr_or(ts:List (List Int))(f:Int):serr ts f=0∨serr ts f=18∨serr ts f=19:=by
 unfold serr scheck
 repeat' split
 all_goals simp
def T64(ts:List (List Int)):Prop:=∀ t∈ts,∀ x∈t,N64 x
def intb(t:List Int):List UInt8:=t.flatMap fun x=>lput (zig x).toNat
def rowb(ts:List (List Int)):List UInt8:=ts.flatMap intb
def sput(ts:List (List Int))(f:Int):List UInt8:=lput f.toNat++(lput ts.length++(lput (wid ts)++rowb ts))
def AsksI(S:ByteArray)(g:Int×Int→(Int×Int)×Int):Prop:=∀ (x y:List UInt8) (n:Int),N64 n→S.data.toList=x++(lput (zig n).toNat++y)→g ((x.length:Int),0)=(((x.length:Int)+(lput (zig n).toNat).length,0),n)
theorem asksI_ask(S:ByteArray):AsksI S fun s=>Code.ask S s 3:=fun _ _ _ hn hS=>ask_int hn.1 hn.2 hS
theorem asksI_askP(S:ByteArray)(N:Int):AsksI S fun s=>askP S s 3 N:=fun _ _ _ hn hS=>askP_int hn.1 hn.2 hS
theorem split_at'{α:Type}{p:List α}{i:Nat}{t:α}(ht:p[i]? = some t):p=p.take i++(t::p.drop (i+1)):=by
 have hi:i<p.length:=(List.getElem?_eq_some_iff.1 ht).1
 have:p.drop i=t::p.drop (i+1):=by
  rw [List.drop_eq_getElem_cons hi]
  rw [List.getElem?_eq_getElem hi] at ht
  rw [Option.some.inj ht]
 rw [← this,List.take_append_drop]
theorem take_one{α:Type}{p:List α}{i:Nat}{t:α}(ht:p[i]? = some t):p.take (i+1)=p.take i++[t]:=by rw [List.take_add_one,ht];rfl
theorem ri_put{S:ByteArray}{g:Int×Int→(Int×Int)×Int}(hg:AsksI S g){x y:List UInt8}{p:List Int}(hp:∀ k∈p,N64 k)(hS:S.data.toList=x++(intb p++y)):∀ i,i≤p.length→rp g ((x.length:Int),0) i=(p.take i,((x.length:Int)+(intb (p.take i)).length,0))
 | 0,_=>by simp [rp,intb]
 | i+1,h=>by
  have ih:=ri_put hg hp hS i (by omega)
  obtain⟨t,ht⟩:∃ t,p[i]? = some t:=⟨_,List.getElem?_eq_getElem (by omega)⟩
  have hr:=hp t (List.mem_of_getElem? ht)
  have hS2:S.data.toList=(x++intb (p.take i))++(lput (zig t).toNat++(intb (p.drop (i+1))++y)):=by
   rw [hS]
   conv=>lhs;rw [split_at' ht]
   simp [intb]
  have ha:=hg _ _ t hr hS2
  rw [List.length_append,Int.natCast_add] at ha
  rw [rp,ih]
  simp only
  rw [ha,take_one ht]
  simp [intb]
  omega
def rrows(g:Int×Int→(Int×Int)×Int)(m:Nat)(s:Int×Int):Nat→List (List Int)×(Int×Int)
 | 0=>([],s)
 | i+1=>((rrows g m s i).1++[(rp g (rrows g m s i).2 m).1],(rp g (rrows g m s i).2 m).2)
theorem rrows_len(g:Int×Int→(Int×Int)×Int)(m:Nat)(s:Int×Int):∀ i,(rrows g m s i).1.length=i
 | 0=>rfl
 | i+1=>by rw [rrows,List.length_append,rrows_len g m s i];rfl
theorem rrows_wid(g:Int×Int→(Int×Int)×Int)(m:Nat)(s:Int×Int):∀ i,∀ t∈(rrows g m s i).1,t.length=m
 | 0,t,h=>by simp [rrows] at h
 | i+1,t,h=>by
  rw [rrows,List.mem_append] at h
  rcases h with h | h
  ·exact rrows_wid g m s i t h
  ·rw [List.mem_singleton] at h
   rw [h,rp_len]
theorem rrows_put{S:ByteArray}{g:Int×Int→(Int×Int)×Int}(hg:AsksI S g){x y:List UInt8}{m:Nat}{ts:List (List Int)}(hm:∀ t∈ts,t.length=m)(hp:T64 ts)(hS:S.data.toList=x++(rowb ts++y)):∀ i,i≤ts.length→rrows g m ((x.length:Int),0) i=(ts.take i,((x.length:Int)+(rowb (ts.take i)).length,0))
 | 0,_=>by simp [rrows,rowb]
 | i+1,h=>by
  have ih:=rrows_put hg hm hp hS i (by omega)
  obtain⟨t,ht⟩:∃ t,ts[i]? = some t:=⟨_,List.getElem?_eq_getElem (by omega)⟩
  have hmem:=List.mem_of_getElem? ht
  have hS2:S.data.toList=(x++rowb (ts.take i))++(intb t++(rowb (ts.drop (i+1))++y)):=by
   rw [hS]
   conv=>lhs;rw [split_at' ht]
   simp [rowb]
  have ha:=ri_put hg (hp t hmem) hS2 m (by rw [hm t hmem];exact Nat.le_refl _)
  rw [List.length_append,Int.natCast_add,show t.take m=t from List.take_of_length_le (by rw [hm t hmem];exact Nat.le_refl _)] at ha
  rw [rrows,ih]
  simp only
  rw [ha,take_one ht]
  simp [rowb]
  omega
def t1(S:ByteArray):(Int×Int)×Int:=Code.ask S (0,0) 2
def t2(S:ByteArray):(Int×Int)×Int:=Code.ask S (t1 S).1 2
def t3(S:ByteArray):(Int×Int)×Int:=Code.ask S (t2 S).1 2
def t4(S:ByteArray):List (List Int)×(Int×Int):=rrows (fun s=>Code.ask S s 3) (min (t3 S).2.toNat 13) (t3 S).1 (min (t2 S).2.toNat 21)
theorem s_put{ts:List (List Int)}{f:Int}(g:SRight ts f)(hn:T64 ts){S:ByteArray}{y:List UInt8}(hS:S.data.toList=sput ts f++y) :
  (t4 S).1=ts∧(t1 S).2=f∧(t4 S).2=(((sput ts f).length:Int),0):=by
 have hf:((f.toNat:Nat):Int)=f:=Int.toNat_of_nonneg (by have:=g.f0;omega)
 have l1:S.data.toList=[]++(lput f.toNat++((lput ts.length++(lput (wid ts)++rowb ts))++y)):=by rw [hS];unfold sput;simp
 have a1:=ask_num (n:=f.toNat) (by have:=g.f1;omega) l1
 have l2:S.data.toList=lput f.toNat++(lput ts.length++((lput (wid ts)++rowb ts)++y)):=by rw [hS];unfold sput;simp
 have a2:=ask_num (n:=ts.length) (by have:=g.n1;omega) l2
 have l3:S.data.toList=(lput f.toNat++lput ts.length)++(lput (wid ts)++(rowb ts++y)):=by rw [hS];unfold sput;simp
 have a3:=ask_num (n:=wid ts) (by have:=g.w;omega) l3
 have l4:S.data.toList=(lput f.toNat++lput ts.length++lput (wid ts))++(rowb ts++y):=by rw [hS];unfold sput;simp
 have a4:=rrows_put (asksI_ask S) g.same hn l4 ts.length (Nat.le_refl _)
 have g1:=g.n1
 have g2:=g.w
 simp only [List.length_append,List.length_nil,Int.natCast_add,Int.natCast_zero,Int.zero_add,List.take_length] at a1 a2 a3 a4
 have e1:t1 S=((((lput f.toNat).length:Int),0),f):=by unfold t1;rw [← hf];exact a1
 have e2:t2 S=((((lput f.toNat).length:Int)+(lput ts.length).length,0),(ts.length:Int)):=by unfold t2;rw [e1];exact a2
 have e3:t3 S=((((lput f.toNat).length:Int)+(lput ts.length).length+(lput (wid ts)).length,0),(wid ts:Int)):=by unfold t3;rw [e2];exact a3
 have e4:t4 S=(ts,((lput f.toNat).length:Int)+(lput ts.length).length+(lput (wid ts)).length+(rowb ts).length,0):=by
  unfold t4
  rw [e2,e3]
  simp only [Int.toNat_natCast]
  rw [Nat.min_eq_left (by omega),Nat.min_eq_left (by omega)]
  exact a4
 refine⟨by rw [e4],by rw [e1],?_⟩
 rw [e4]
 unfold sput
 simp only [List.length_append,Int.natCast_add,Prod.mk.injEq,and_true]
 omega
theorem sput_one{ts ts':List (List Int)}{f f':Int}(g:SRight ts f)(g':SRight ts' f')(hn:T64 ts)(hn':T64 ts'){y y':List UInt8}(h:sput ts f++y=sput ts' f'++y'):(ts=ts'∧f=f')∧y=y':=by
 obtain⟨a1,a2,-⟩:=s_put g hn (S:=strB (sput ts f++y)) (y:=y) (strB_list _)
 obtain⟨b1,b2,-⟩:=s_put g' hn' (S:=strB (sput ts f++y)) (y:=y') (by rw [strB_list,h])
 obtain rfl:ts=ts':=a1.symm.trans b1
 obtain rfl:f=f':=a2.symm.trans b2
 exact⟨⟨rfl,rfl⟩,List.append_cancel_left h⟩
theorem sput_inj{ts ts':List (List Int)}{f f':Int}(g:SRight ts f)(g':SRight ts' f')(hn:T64 ts)(hn':T64 ts')(h:sput ts f=sput ts' f'):ts=ts'∧f=f' :=
 (sput_one g g' hn hn' (y:=[]) (y':=[]) (by rw [h])).1
def sfits(S:ByteArray):Prop:=SRight (t4 S).1 (t1 S).2∧sput (t4 S).1 (t1 S).2=S.data.toList
theorem rp_64(S:ByteArray)(s:Int×Int):∀ i,∀ x∈(rp (fun s=>Code.ask S s 3) s i).1,N64 x
 | 0,x,h=>by simp [rp] at h
 | i+1,x,h=>by
  rw [rp,List.mem_append] at h
  rcases h with h | h
  ·exact rp_64 S s i x h
  ·rw [List.mem_singleton] at h
   rw [h]
   exact ask_rng S _ 3 (.inr rfl)
theorem rrows_64(S:ByteArray)(m:Nat)(s:Int×Int):∀ i,T64 (rrows (fun s=>Code.ask S s 3) m s i).1
 | 0,t,h=>by simp [rrows] at h
 | i+1,t,h=>by
  rw [rrows,List.mem_append] at h
  rcases h with h | h
  ·exact rrows_64 S m s i t h
  ·rw [List.mem_singleton] at h
   rw [h]
   exact rp_64 S _ _
theorem t4_64(S:ByteArray):T64 (t4 S).1:=rrows_64 S _ _ _
theorem t1_64(S:ByteArray):N64 (t1 S).2:=ask_rng S _ 2 (.inl rfl)
theorem sfits_put{ts:List (List Int)}{f:Int}(g:SRight ts f)(hn:T64 ts){S:ByteArray}(hS:S.data.toList=sput ts f):sfits S∧(t4 S).1=ts∧(t1 S).2=f:=by
 obtain⟨a1,a2,-⟩:=s_put g hn (S:=S) (y:=[]) (by rw [hS,List.append_nil])
 refine⟨?_,a1,a2⟩
 unfold sfits
 rw [a1,a2]
 exact⟨g,hS.symm⟩
theorem intb_len{t:List Int}(h:∀ x∈t,N64 x):(intb t).length≤10*t.length:=by
 induction t with
 | nil=>simp [intb]
 | cons x p ih =>
  have h1:=ih (fun k hk=>h k (List.mem_cons_of_mem _ hk))
  have hz:=zig_range (h x (List.mem_cons_self ..)).1 (h x (List.mem_cons_self ..)).2
  have:=lput_len10 (n:=(zig x).toNat) (by omega)
  unfold intb at *
  rw [List.flatMap_cons,List.length_append,List.length_cons]
  omega
theorem rowb_len{m:Nat}{ts:List (List Int)}(hm:∀ t∈ts,t.length≤m)(h:T64 ts):(rowb ts).length≤10*m*ts.length:=by
 induction ts with
 | nil=>simp [rowb]
 | cons x p ih =>
  have h1:=ih (fun k hk=>hm k (List.mem_cons_of_mem _ hk)) (fun k hk=>h k (List.mem_cons_of_mem _ hk))
  have h2:=intb_len (h x (List.mem_cons_self ..))
  have h3:=hm x (List.mem_cons_self ..)
  have h4:10*x.length≤10*m:=by omega
  unfold rowb at *
  rw [List.flatMap_cons,List.length_append,List.length_cons,Nat.mul_add,Nat.mul_one]
  omega
end Go.Proofs.YtekogckmgkodfaaGreatDoor.Suite
namespace Go.Proofs.YtekogckmgkodfaaGreatDoor.Suite
open Go.RowKit Mem Arena Delta Path Cat
structure TOk (w:World) (P:Option Addr) (c:Nat) (t:List Int):Prop where
 row:IRow w w.heap.size P t
 cap:t.length≤c
 none:P=none→c=0
theorem TOk.at{w w':World}{P:Option Addr}{c:Nat}{t:List Int}(h:TOk w P c t)(hb:Below w.heap.size w w'):TOk w' P c t:=⟨h.row.at hb,h.cap,h.none⟩
def TRow(w:World)(A:Option Addr)(ts:List (List Int)):Prop :=
 ∀ (i:Nat) (t:List Int),ts[i]? = some t→∃ ad P c,A=some ad∧ad.block<w.heap.size∧TOk w P c t∧w.cell? (ad.add i)=some (.slice P t.length c)
theorem TRow.nil(w:World)(A:Option Addr):TRow w A []:=fun i t h=>by simp at h
theorem TRow.at{w w':World}{A:Option Addr}{ts:List (List Int)}(h:TRow w A ts)(hb:Below w.heap.size w w'):TRow w' A ts:=by
 intro i t hi
 obtain⟨ad,P,c,e,h1,h2,h3⟩:=h i t hi
 refine⟨ad,P,c,e,Nat.lt_of_lt_of_le h1 hb.size,h2.at hb,?_⟩
 rw [← h3]
 exact World.cell?_of_block (by rw [add_blockN];exact hb.block _ h1)
theorem TRow.get{w:World}{A:Option Addr}{ts:List (List Int)}(h:TRow w A ts){i:Nat}{t:List Int}(hi:ts[i]? = some t) :
  ∃ ad P c,A=some ad∧∀ W,Below w.heap.size w W→TOk W P c t∧W.cell? (ad.add i)=some (.slice P t.length c):=by
 obtain⟨ad,P,c,e,h1,h2,h3⟩:=h i t hi
 refine⟨ad,P,c,e,fun W hb=>⟨h2.at hb,?_⟩⟩
 rw [← h3]
 exact World.cell?_of_block (by rw [add_blockN];exact hb.block _ h1)
def tcells(Y:List ((Option Addr×Nat)×List Int)):List Value:=Y.map fun y=>.slice y.1.1 y.2.length y.1.2
theorem tcells_len(Y:List ((Option Addr×Nat)×List Int)):(tcells Y).length=Y.length:=List.length_map ..
theorem tcells_snoc(Y:List ((Option Addr×Nat)×List Int))(y:(Option Addr×Nat)×List Int):tcells (Y++[y])=tcells Y++[.slice y.1.1 y.2.length y.1.2]:=by simp [tcells]
def TOwn(w:World)(base:Nat)(v:Value)(ts:List (List Int)):Prop :=
 ∃ Y:List ((Option Addr×Nat)×List Int),Y.map (·.2)=ts∧w.ownsRow base 22 1 v ts.length (tcells Y)∧∀ y∈Y,TOk w y.1.1 y.1.2 y.2∧(y.2≠[]→∀ ad,y.1.1=some ad→base≤ad.block∧v.ownBlock≠some ad.block)
theorem TOwn.nil(w:World)(base:Nat):TOwn w base (.slice none 0 0) []:=⟨[],rfl,World.ownsRow_nil _ _ _ _,fun y h=>by cases h⟩
theorem TOwn.lt{w:World}{base:Nat}{v:Value}{ts:List (List Int)}(h:TOwn w base v ts):∀ k,v.ownBlock=some k→base≤k∧k<w.heap.size:=by
 obtain⟨Y,-,h2,-⟩:=h
 exact fun k e=>h2.lt k e
theorem TOwn.below{w w':World}{base:Nat}{v:Value}{ts:List (List Int)}(h:TOwn w base v ts)(hb:Below w.heap.size w w'):TOwn w' base v ts:=by
 obtain⟨Y,h1,h2,h3⟩:=h
 exact⟨Y,h1,own_kept h2 hb,fun y hy=>⟨(h3 y hy).1.at hb,(h3 y hy).2⟩⟩
theorem irow_grown'{w w':World}{A:Option Addr}{p:List Int}{row:Option Nat}(h:IRow w w.heap.size A p)(hg:w.grownBy w' row)(hn:p≠[]→∀ ad,A=some ad→row≠some ad.block):IRow w' w'.heap.size A p:=by
 intro i x hx
 obtain⟨ad,e,h1,h3⟩:=h i x hx
 have hp:p≠[]:=fun e=>by rw [e] at hx;simp at hx
 refine⟨ad,e,Nat.lt_of_lt_of_le h1 hg.size,?_⟩
 have hb:(ad.add i).block=ad.block:=add_blockN _ _
 rw [← h3]
 exact World.cell?_of_block (by rw [hb];exact hg.block _ h1 (fun z=>hn hp ad e z.symm))
theorem TOwn.trow{w:World}{base:Nat}{v:Value}{ts:List (List Int)}(h:TOwn w base v ts):∃ A c,v=.slice A ts.length c∧ts.length≤c∧(A=none→c=0)∧TRow w A ts:=by
 obtain⟨Y,hY,h,hok⟩:=h
 have hc:=fun g hg=>h.cells (g:=g) hg
 have hlen:ts.length=Y.length:=by rw [← hY,List.length_map]
 rcases h.2 with⟨rfl,h0⟩ | ⟨g,cap,cur,rfl,-,hg,hn,-⟩
 ·obtain rfl:=List.length_eq_zero_iff.1 h0
  exact⟨none,0,rfl,Nat.le_refl _,fun _=>rfl,TRow.nil _ _⟩
 ·refine⟨_,_,rfl,hn,fun e=>(by cases e),fun i t hm=>?_⟩
  have hi:i<Y.length:=by have:=(List.getElem?_eq_some_iff.1 hm).1;omega
  obtain⟨y,hy⟩:∃ y,Y[i]? = some y:=⟨_,List.getElem?_eq_getElem hi⟩
  have hym:y.2=t:=by
   rw [← hY,List.getElem?_map,hy] at hm
   exact Option.some.inj hm
  subst hym
  exact⟨_,y.1.1,y.1.2,rfl,(Array.getElem?_eq_some_iff.1 hg).1,(hok y (List.mem_of_getElem? hy)).1,hc g rfl _ _ (by unfold tcells;rw [List.getElem?_map,hy];rfl)⟩
theorem cons_of{α:Type}{l:List α}(h:l≠[]):∃ x r,l=x::r:=by
 cases l with
 | nil=>exact absurd rfl h
 | cons x r=>exact⟨x,r,rfl⟩
theorem TOwn.kept{S:Nat→Prop}{w w':World}{base:Nat}{v:Value}{ts:List (List Int)}(h:TOwn w base v ts)(k:Kept S w w')(hS:∀ i,i<w.heap.size→base≤i→¬ S i):TOwn w' base v ts:=by
 obtain⟨Y,h1,h2,h3⟩:=h
 refine⟨Y,h1,own_of_block h2 (fun i hi=>k.block i (h2.lt i hi).2 (hS i (h2.lt i hi).2 (h2.lt i hi).1)),fun y hy=>⟨?_,(h3 y hy).2⟩⟩
 obtain⟨k1,k2⟩:=h3 y hy
 refine⟨fun i x hx=>?_,k1.cap,k1.none⟩
 obtain⟨ad,e,hb,hc⟩:=k1.row i x hx
 have hne:y.2≠[]:=fun e=>by rw [e] at hx;simp at hx
 refine⟨ad,e,Nat.lt_of_lt_of_le hb k.size,?_⟩
 rw [← hc]
 exact World.cell?_of_block (by rw [add_blockN];exact k.block _ hb (hS _ hb (k2 hne ad e).1))
theorem info_ints:(Tryz.prog.info? 22).map (fun i=>(i.zero,i.size,i.bytes))=some (some (.slice none 0 0),1,24):=by kernel_rfl
theorem run_append_test(w:World)(ty:TypeId)(base:Nat)(hbase:base≤w.heap.size)(v:Value)(ts:List (List Int))(hown:TOwn w base v ts)
  (g:Nat) (P:Option Addr) (c:Nat) (t:List Int) (hb:Blk w g 22 #[.slice P t.length c]) (hlen:ts.length+1≤100000000)
  (hok:TOk w P c t) (hne:t≠[]→∀ ad,P=some ad→base≤ad.block∧v.ownBlock≠some ad.block) :
  ∃ v' w',(Builtin.append_ #[43,43] ty #[v,.slice (some ⟨g,0,none⟩) 1 1]).run Tryz.prog w=.ok v' w'∧TOwn w' base v' (ts++[t])∧w.grownBy w' v.ownBlock∧(v'.ownBlock=v.ownBlock∨v'.ownBlock=some w.heap.size):=by
 obtain⟨Y,hY,hO,hYok⟩:=hown
 obtain⟨ig,hig,hz0,hz1,hz2⟩:=info_parts info_ints
 obtain⟨v',w',hr,hown',hg,-,hat⟩:=run_append_own_at (P:=Tryz.prog) w base 43 ty 22 ig _ 1 24 Tryz.underlying43 hig hz0 hz1 hz2 rfl (by decide) v ts.length (tcells Y) hO ⟨g,0,none⟩ 1 1 [.slice P t.length c] rfl (by
  intro j u hu
  have:=hb.cell j
  rw [show(⟨g,0,none⟩:Addr).add j=⟨g,j,none⟩ by unfold Addr.add;split<;>simp_all]
  rw [this]
  simpa using hu) (by
  intro u hu
  simp only [List.mem_cons,List.not_mem_nil,or_false] at hu
  subst hu;rfl) (by simp only [maxLen];omega) (by omega) hbase
 refine⟨v',w',hr,⟨Y++[((P,c),t)],by rw [List.map_append,hY];rfl,by rw [tcells_snoc,List.length_append];exact hown',fun y hy=>?_⟩,hg,hat⟩
 have key:TOk w y.1.1 y.1.2 y.2∧(y.2≠[]→∀ ad,y.1.1=some ad→base≤ad.block∧v.ownBlock≠some ad.block):=by
  rcases List.mem_append.1 hy with hy | hy
  ·exact hYok y hy
  ·rw [List.mem_singleton] at hy;subst hy;exact⟨hok,hne⟩
 obtain⟨k1,k2⟩:=key
 refine⟨⟨irow_grown' k1.row hg (fun q ad e=>(k2 q ad e).2),k1.cap,k1.none⟩,fun hp ad e=>⟨(k2 hp ad e).1,?_⟩⟩
 rcases hat with q | q
 ·rw [q];exact(k2 hp ad e).2
 ·rw [q]
  intro zz
  have z':w.heap.size=ad.block:=Option.some.inj zz
  obtain⟨x0,r,hxr⟩:=cons_of hp
  obtain⟨ad',e',hb',-⟩:=k1.row 0 x0 (by rw [hxr];rfl)
  have e2:some ad=some ad':=e.symm.trans e'
  cases e2
  omega
theorem append_test{w:World}{ops:Array Oper}{rest:List Oper}{o:Oper}{a:Act}{Q:Exit→Act→World→Prop}(hgd:o.guard=none)(s x:Operand)
  (ho:o.op=.call { callee:=.builtin .append,args:=#[s,x],argTypes:=#[43,43] })
  (base:Nat) (hbase:base≤w.heap.size) (v:Value) (ts:List (List Int)) (hs:a.eval s=v) (hown:TOwn w base v ts)
  (g:Nat) (P:Option Addr) (c:Nat) (t:List Int) (hx:a.eval x=.slice (some ⟨g,0,none⟩) 1 1) (hb:Blk w g 22 #[.slice P t.length c]) (hlen:ts.length+1≤100000000)
  (hok:TOk w P c t) (hne:t≠[]→∀ ad,P=some ad→base≤ad.block∧v.ownBlock≠some ad.block)
  (h:∀ v' w',TOwn w' base v' (ts++[t])→w.grownBy w' v.ownBlock→(v'.ownBlock=v.ownBlock∨v'.ownBlock=some w.heap.size)→wpList Tryz.prog ops Q rest (a.put o.dst v') w') :
  wpList Tryz.prog ops Q (o::rest) a w:=by
 obtain⟨v',w',hr,h1,h2,h3⟩:=run_append_test w o.type base hbase v ts hown g P c t hb hlen hok hne
 refine wpList_plain hgd fun K hK=>?_
 unfold Oper.wp execOp
 simp only [ho,resolve,invoke,builtin,Sem.run_bind,Sem.run_pure,Result.andThen_ok,List.map_toArray,List.map_cons,List.map_nil,hs,hx,hr]
 exact hK _ _ (h v' w' h1 h2 h3)
end Go.Proofs.YtekogckmgkodfaaGreatDoor.Suite
