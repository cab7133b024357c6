/-
  Package delta, walked: its small functions; how two deltas stand.
  The library's Clone at nodes and at numbers, and its Insert at nodes, walked.
  Package delta, walked: how two deltas stand.
-/
import Derived.Test.YtodejloonfkkmaaGreatDeltaG
import Derived.Test.YtodejloonfkkmaaGreatPathH
import Derived.Deep.RegionHeld3
import Derived.Deep.DrawnRows
import Derived.Test.YtodejloonfkkmaaGreatPathG
import Derived.Test.YtodejloonfkkmaaGreatArenaH
import Derived.Deep.AppendLies
import Derived.Lib.SliceRun
import Derived.Lib.AppendZeros
import Derived.Lib.AppendZerosOnto
import Derived.Lib.Overlaps
import Derived.Laws.IdiomCopy
import Derived.Laws.OwnMore
set_option maxRecDepth 100000
set_option linter.unusedVariables false
set_option maxHeartbeats 4000000
namespace Go.Proofs.YtodejloonfkkmaaGreat.Delta
open Go.RowKit Mem Arena Kinds Path
attribute [local go_sem ↓] Go.wp_at_zero Go.wp_at_succ
def inrow(n a b:Int):Bool:=decide (a≤n∧n≤b)
theorem within_any(n a b:Int)(w:World):Calls Tryz.prog 98 #[.int .i64 n,.int .i64 a,.int .i64 b] w fun e w'=>e=.returned (.bool (inrow n a b))∧w'=w:=by
 by_cases h1:a≤n
 ·by_cases h2:n≤b
  ·have HE:=Lib.hid (show inrow n a b=true from decide_eq_true ⟨h1,h2⟩)
   go_enter Tryz.func98,Tryz.ntmps98
   go_wp2
   go_ret
   exact⟨by rw [HE.out];rfl,rfl⟩
  ·have HE:=Lib.hid (show inrow n a b=false from decide_eq_false (fun h=>h2 h.2))
   go_enter Tryz.func98,Tryz.ntmps98
   go_wp2
   go_ret
   exact⟨by rw [HE.out];rfl,rfl⟩
 ·have HE:=Lib.hid (show inrow n a b=false from decide_eq_false (fun h=>h1 h.1))
  go_enter Tryz.func98,Tryz.ntmps98
  go_wp2
  go_ret
  exact⟨by rw [HE.out];rfl,rfl⟩
theorem isOperator_any(n:Int)(w:World):Calls Tryz.prog 48 #[.int .i64 n] w fun e w'=>e=.returned (.bool (inrow n 1 7))∧w'=w:=by
 have HW:=Lib.hid (fun W=>within_any n 1 7 W)
 generalize inrow n 1 7=y at *
 go_enter Tryz.func48,Tryz.ntmps48
 go_wp2_with (go_at_call 98;refine(HW.out _).mono ?_;rintro e w1 ⟨rfl,rfl⟩)
 go_ret
 exact⟨rfl,rfl⟩
end Go.Proofs.YtodejloonfkkmaaGreat.Delta
namespace Go.Proofs.YtodejloonfkkmaaGreat.Delta
open Go.RowKit Mem Arena Path
attribute [local go_sem ↓] Go.wp_at_zero Go.wp_at_succ
theorem cloneNodes_any(ad:Addr)(cap:Nat)(xs:List Nd)(w:World)(hx:Nodes w w.heap.size (some ad) xs)(hn:0<xs.length)(hl:xs.length≤1000000) :
  Calls Tryz.prog 135 #[.slice (some ad) xs.length cap] w fun e w'=>∃ g c,e=.returned (.slice (some ⟨g,0,none⟩) xs.length c)∧w'.ownsRow w.heap.size 47 2 (.slice (some ⟨g,0,none⟩) xs.length c) xs.length (ncells xs)∧Below w.heap.size w w':=by
 have q22:∀ (w:World) (a:Option Addr) (n c n' c':Nat),(binOp .eql 23 (.slice a n c) (.slice none n' c')).run Tryz.prog w=.ok (.bool a.isNone) w:=fun w a n c n' c'=>Lib.run_eql_slice_nil w _ _ a n c n' c' Tryz.underlying23
 have HX:=Lib.hid hx
 have H0:(w.alloc (.cells #[] 47)).ownsRow w.heap.size 47 2 (.slice (some ⟨w.heap.size,0,none⟩) 0 0) ([]:List Nd).length (ncells []):=World.ownsRow_made w #[] 0 (Nat.le_refl _) (Nat.zero_le _) (by simp)
 have hb1:Below w.heap.size w (w.alloc (.cells #[] 47)):=(Below.refl _ _).alloc (Nat.le_refl _) _
 clear hx
 go_enter Tryz.func135,Tryz.ntmps135
 go_wp2_with (at_builtin;refine append_nodes rfl _ _ rfl w.heap.size hb1.size _ [] rfl H0 w.heap.size (some ad) cap xs _ rfl rfl (by intro e;cases e) (HX.out.below hb1) (by simp only [List.length_nil];omega) ?_;intro v1 w2 hown1 hg1 _;rw [List.nil_append] at hown1;have hB1:=hb1.grown hg1 hb1.size (fun i e=>by cases e;exact Nat.le_refl _);obtain⟨g,c,rfl,-,-⟩:=hown1.form hn)
 go_ret
 exact⟨g,c,rfl,hown1,hB1⟩
theorem cloneInts_any(A:Option Addr)(cap:Nat)(ks:List Int)(w:World)(hx:IRow w w.heap.size A ks)(hA:A=none→cap=0)(hl:ks.length≤1000000) :
  Calls Tryz.prog 50 #[.slice A ks.length cap] w fun e w'=>Below w.heap.size w w'∧∃ A c,e=.returned (.slice A ks.length c)∧ks.length≤c∧(A=none→c=0)∧IRow w' w'.heap.size A ks∧∀ ad,A=some ad→w.heap.size≤ad.block:=by
 have q22:∀ (w:World) (a:Option Addr) (n c n' c':Nat),(binOp .eql 22 (.slice a n c) (.slice none n' c')).run Tryz.prog w=.ok (.bool a.isNone) w:=fun w a n c n' c'=>Lib.run_eql_slice_nil w _ _ a n c n' c' Tryz.underlying22
 have HX:=Lib.hid hx
 cases A with
 | none =>
  obtain rfl:=irow_empty hx
  clear hx
  go_enter Tryz.func50,Tryz.ntmps50
  go_wp2
  go_ret
  first | exact⟨Below.refl _ _,none,0,rfl,fun _=>rfl,HX.out,fun ad e=>by cases e⟩ | exact⟨Below.refl _ _,none,0,rfl,Nat.le_refl _,fun _=>rfl,HX.out,fun ad e=>by cases e⟩
 | some ad =>
  have H0:(w.alloc (.cells #[] 3)).ownsRow w.heap.size 3 1 (.slice (some ⟨w.heap.size,0,none⟩) 0 0) ([]:List Int).length (icells []):=World.ownsRow_made w #[] 0 (Nat.le_refl _) (Nat.zero_le _) (by simp)
  have hb1:Below w.heap.size w (w.alloc (.cells #[] 3)):=(Below.refl _ _).alloc (Nat.le_refl _) _
  clear hx
  go_enter Tryz.func50,Tryz.ntmps50
  go_wp2_with (at_builtin;refine append_ints rfl _ _ rfl w.heap.size hb1.size _ [] rfl H0 w.heap.size (some ad) cap ks _ rfl rfl (by intro e;cases e) (HX.out.below hb1) (by simp only [List.length_nil];omega) ?_;intro v1 w2 hown1 hg1 _;rw [List.nil_append] at hown1;have hB1:=hb1.grown hg1 hb1.size (fun i e=>by cases e;exact Nat.le_refl _))
  have hk:∃ A c,v1=.slice A ks.length c∧ks.length≤c∧(A=none→c=0)∧IRow w2 w2.heap.size A ks∧∀ ad,A=some ad→w.heap.size≤ad.block:=by
   have hc:=fun g hg=>hown1.cells (g:=g) hg
   rcases hown1.2 with⟨rfl,h0⟩ | ⟨g,cp,cur,rfl,hbg,hg,hn,-⟩
   ·obtain rfl:=List.length_eq_zero_iff.1 h0
    exact⟨none,0,rfl,Nat.le_refl _,fun _=>rfl,(fun i x h=>by simp at h),fun ad e=>by cases e⟩
   ·refine⟨_,_,rfl,hn,(fun e=>by cases e),fun i x hx=>⟨_,rfl,(Array.getElem?_eq_some_iff.1 hg).1,?_⟩,fun ad e=>by cases e;exact hbg⟩
    exact hc g rfl _ _ (by unfold icells;rw [List.getElem?_map,hx];rfl)
  obtain⟨A2,c2,rfl,hk⟩:=hk
  go_wp2
  go_ret
  exact⟨hB1,A2,c2,rfl,hk⟩
theorem run_copy_cells_k{P:Program}(w:World)(dT sT ty elem:TypeId)(b o dLen dCap:Nat)(a:Addr)(sLen sCap k m:Nat)(cs:List Value)
  (hu:P.underlying dT=some (.slice elem)) (hs:(P.info? elem).map (·.size)=some k) (hm:Nat.min sLen dLen=m) (hn:cs.length=m*k)
  (hsrc:∀ j v,cs[j]? = some v→w.cell? (a.add j)=some v) (hc:∀ j,j<cs.length→(w.cell? ⟨b,o+j,none⟩).isSome=true) (hf:∀ j,j<cs.length→w.frozen? ⟨b,o+j,none⟩=false) (h1:∀ v∈cs,v.oneCell'=true) :
  (Builtin.copy_ #[dT,sT] ty #[.slice (some ⟨b,o,none⟩) dLen dCap,.slice (some a) sLen sCap]).run P w=.ok (goInt m) (w.setCells b o cs):=by
 have hl:=run_loadCells_list (P:=P) w a cs hsrc
 rw [hn] at hl
 have hst:=run_storeCells_cells (P:=P) b o cs 0 w (by simpa using hc) (by simpa using hf) h1
 cases hq:P.info? elem with
 | none=>simp [hq] at hs
 | some i =>
  have hi:i.size=k:=by simpa [hq] using hs
  simp [Builtin.copy_,run_underlying hu,Builtin.lenOf,Builtin.firstCells,sizeOf,typeInfo,hq,hi,hm,hl,hst]
theorem wp_copy_runN{P:Program}(w:World){o:Oper}{a:Act}{K:Act→World→Prop}{Q:Exit→Act→World→Prop}(d s:Operand)(t t':TypeId)
  (ho:o.op=.call { callee:=.builtin .copy,args:=#[d,s],argTypes:=#[t,t'] }) (v u:Value) (hd:a.eval d=v) (hs:a.eval s=u) {v':Value} {w':World}
  (hr:(Builtin.copy_ #[t,t'] o.type #[v,u]).run P w=.ok v' w') (h:K (a.put o.dst v') w'):o.wp P a w K Q:=by
 unfold Oper.wp execOp
 simp only [ho,resolve,invoke,builtin,Sem.run_bind,Sem.run_pure,Result.andThen_ok,List.map_toArray,List.map_cons,List.map_nil,hd,hs,hr]
 exact h
theorem wpList_copy_runN{P:Program}(w:World){ops:Array Oper}{rest:List Oper}{o:Oper}{a:Act}{Q:Exit→Act→World→Prop}(hgd:o.guard=none)(d s:Operand)(t t':TypeId)
  (ho:o.op=.call { callee:=.builtin .copy,args:=#[d,s],argTypes:=#[t,t'] }) (v u:Value) (hd:a.eval d=v) (hs:a.eval s=u) {v':Value} {w':World}
  (hr:(Builtin.copy_ #[t,t'] o.type #[v,u]).run P w=.ok v' w') (h:wpList P ops Q rest (a.put o.dst v') w'):wpList P ops Q (o::rest) a w :=
 wpList_plain hgd fun _ hK=>wp_copy_runN w d s t t' ho v u hd hs hr (hK _ _ h)
theorem isSome_setCellsN(b:Nat)(vs:List Value)(o:Nat)(w:World)(h:∀ j,j<vs.length→(w.cell? ⟨b,o+j,none⟩).isSome=true)(k:Nat)(hk:(w.cell? ⟨b,k,none⟩).isSome=true):((w.setCells b o vs).cell? ⟨b,k,none⟩).isSome=true:=by
 by_cases hin:o≤k∧k<o+vs.length
 ·have:=World.cell?_setCells_in b vs o w h (k-o) (by omega)
  rw [show o+(k-o)=k by omega] at this
  rw [this];rfl
 ·rw [World.cell?_setCells_out b vs o w ⟨b,k,none⟩ (fun _ _=>by show k<o∨o+vs.length≤k;omega)]
  exact hk
theorem size_setCells(b:Nat):∀ (vs:List Value) (o:Nat) (w:World),(w.setCells b o vs).heap.size=w.heap.size
 | [],_,_=>rfl
 | v::r,o,w=>by rw [World.setCells,size_setCells b r];simp
theorem below_setCells{B:Nat}{a:World}(b:Nat)(hb:B≤b):∀ (vs:List Value) (o:Nat) (w:World),Below B a w→Below B a (w.setCells b o vs)
 | [],_,_,h=>h
 | v::r,o,w,h=>by rw [World.setCells];exact below_setCells b hb r _ _ (h.setCell (p:=⟨b,o,none⟩) hb v)
theorem Nodes.of_cells{w:World}{g:Nat}{ys:List Nd}(hg:g<w.heap.size)(h:∀ j u,(ncells ys)[j]? = some u→w.cell? ⟨g,j,none⟩=some u):Nodes w w.heap.size (some ⟨g,0,none⟩) ys:=by
 intro i x hx
 obtain⟨h1,h2⟩:=ncells_get ys i x hx
 refine⟨_,rfl,hg,?_,?_⟩
 ·rw [Addr.add_lit,Nat.zero_add];exact h _ _ h1
 ·rw [Addr.add_lit,Nat.zero_add];exact h _ _ h2
theorem ncells_drop(xs:List Nd)(i:Nat):ncells (xs.drop i)=(ncells xs).drop (i*2):=by
 by_cases hi:i≤xs.length
 ·have e:xs=xs.take i++xs.drop i:=(List.take_append_drop i xs).symm
  have l:(ncells (xs.take i)).length=i*2:=by rw [ncells_len,List.length_take];omega
  conv=>rhs;rw [e,ncells_append,← l,List.drop_left]
 ·rw [List.drop_eq_nil_of_le (by omega),List.drop_eq_nil_of_le (by rw [ncells_len];omega)];rfl
theorem ncells_take(xs:List Nd)(i:Nat):ncells (xs.take i)=(ncells xs).take (i*2):=by
 by_cases hi:i≤xs.length
 ·have e:xs=xs.take i++xs.drop i:=(List.take_append_drop i xs).symm
  have l:(ncells (xs.take i)).length=i*2:=by rw [ncells_len,List.length_take];omega
  conv=>rhs;rw [e,ncells_append,← l,List.take_left]
 ·rw [List.take_of_length_le (by omega),List.take_of_length_le (by rw [ncells_len];omega)]
theorem ncells_one{xs:List Nd}{v:Value}(h:v∈ncells xs):v.oneCell'=true:=by
 obtain⟨j,hj⟩:=List.getElem?_of_mem h
 obtain⟨x,-,rfl⟩:=ncells_at xs j v hj
 rfl
theorem put_in{w':World}{g i:Nat}{xs:List Nd}{x:Nd}(hg:g<w'.heap.size)(hi:i<xs.length)
  (h1:∀ j u,j<i*2→(ncells xs)[j]? = some u→w'.cell? ⟨g,j,none⟩=some u) (h2:w'.cell? ⟨g,i*2,none⟩=some (.int .i64 x.1)) (h3:w'.cell? ⟨g,i*2+1,none⟩=some (.int .i64 x.2))
  (h4:∀ j u,i*2≤j→(ncells xs)[j]? = some u→w'.cell? ⟨g,j+2,none⟩=some u):Nodes w' w'.heap.size (some ⟨g,0,none⟩) (xs.take i++x::xs.drop i):=by
 refine Nodes.of_cells hg (fun j u hj=>?_)
 have l:(ncells (xs.take i)).length=i*2:=by rw [ncells_len,List.length_take];omega
 rw [ncells_append] at hj
 by_cases c:j<i*2
 ·rw [List.getElem?_append_left (by omega),ncells_take,List.getElem?_take,if_pos c] at hj
  exact h1 j u c hj
 ·rw [List.getElem?_append_right (by omega),l] at hj
  have e:ncells (x::xs.drop i)=.int .i64 x.1::.int .i64 x.2::(ncells xs).drop (i*2):=by rw [← ncells_drop];rfl
  rw [e] at hj
  obtain⟨k,hk⟩:∃ k,j-i*2=k:=⟨_,rfl⟩
  rw [hk] at hj
  match k,hk,hj with
  | 0,hk,hj=>cases hj;rw [show j=i*2 by omega];exact h2
  | 1,hk,hj=>cases hj;rw [show j=i*2+1 by omega];exact h3
  | k+2,hk,hj =>
   rw [List.getElem?_cons_succ,List.getElem?_cons_succ,List.getElem?_drop] at hj
   rw [show j=i*2+k+2 by omega]
   exact h4 _ u (by omega) hj
theorem shape_of_blk{w:World}{g:Nat}{t:TypeId}{cs:Array Value}{fr:Nat×Nat}(h:w.heap[g]? = some (.cells cs t fr)):w.shape? g=some (t,cs.size):=by
 unfold World.shape?
 rw [h]
theorem frozen_of_blk{w:World}{g:Nat}{t:TypeId}{cs:Array Value}(h:w.heap[g]? = some (.cells cs t (0,0)))(i:Nat):w.frozen? ⟨g,i,none⟩=false:=frozen_of_row w g i cs t h
def InEnds(base:Nat)(xs:List Nd)(i:Nat)(x:Nd)(w:World)(e:Ending)(w':World):Prop :=
 Below base w w'∧∃ g c,e=.returned (.slice (some ⟨g,0,none⟩) (xs.length+1) c)∧xs.length+1≤c∧Nodes w' w'.heap.size (some ⟨g,0,none⟩) (xs.take i++x::xs.drop i)
theorem insert_shift(g c:Nat)(xs:List Nd)(n:Nat)(hn:xs.length=n)(base i:Nat)(x:Nd)(vb:Nat)(w:World)(cur:Array Value)(hbase:base≤g)(hg:w.heap[g]? = some (.cells cur 47 (0,0)))(hcs:cur.size=c*2)(htk:cur.toList.take (n*2)=ncells xs)
  (hv:Blk w vb 47 #[.int .i64 x.1,.int .i64 x.2]) (hne:vb≠g) (hi:i<n) (hl:n≤1000000) (hroom:n+1≤c) (hc63:c≤9223372036854775807) :
  Calls Tryz.prog 134 #[.slice (some ⟨g,0,none⟩) n c,.int .i64 i,.slice (some ⟨vb,0,none⟩) 1 1] w (InEnds base xs i x w):=by
 have hglt:g<w.heap.size:=(Array.getElem?_eq_some_iff.1 hg).1
 obtain⟨i0,hi0,hz0,hzs,hzb⟩:=info_parts info_node
 have hsz:(Tryz.prog.info? 47).map (·.size)=some 2:=by rw [hi0];simp [hzs]
 have hcell:∀ j,w.cell? ⟨g,j,none⟩=cur[j]? := fun j=>cell_of_row w g j cur _ _ hg
 have hcs0:∀ j u,(ncells xs)[j]? = some u→w.cell? ⟨g,j,none⟩=some u:=fun j u hj=>by
  rw [hcell,← Array.getElem?_toList]
  rw [← htk,List.getElem?_take] at hj
  split at hj
  ·exact hj
  ·cases hj
 have hsp:∀ j,j<(n+1)*2→(w.cell? ⟨g,j,none⟩).isSome=true:=fun j hj=>by
  rw [hcell,Array.getElem?_eq_getElem (by omega)];rfl
 have hfz:∀ j,w.frozen? ⟨g,j,none⟩=false:=fun j=>frozen_of_blk hg j
 have hz2:¬ ((i:Int)=(n:Int)):=by omega
 have hov:∀ lb cb,(callFunc 149 #[.slice (some ⟨vb,0,none⟩) 1 1,.slice (some ⟨g,(i+1)*2,none⟩) lb cb]).run Tryz.prog w=.ok (.value (.bool false)) w:=fun lb cb=>by
  rw [run_callFunc_extern Tryz.func149 (by kernel_rfl) (by kernel_rfl) (by kernel_rfl) (e:=Extern.SlicesOverlaps.overlaps #[23,23] #[4]) (by kernel_rfl),
   Lib.run_overlaps_apart w 23 4 47 Tryz.underlying23 2 (fun w=>by simp [sizeOf,typeInfo,hi0,hzs]) ⟨vb,0,none⟩ ⟨g,(i+1)*2,none⟩ 1 1 lb cb hne _ _ _ _ (shape_of_blk hv) (shape_of_blk hg) (by omega) (frozen_of_blk hv _) (frozen_of_blk hv _)]
  rfl
 have hnl:(ncells xs).length=n*2:=by rw [ncells_len,hn]
 have hdl:((ncells xs).drop (i*2)).length=(n-i)*2:=by rw [List.length_drop,hnl];omega
 have hw1:IntKind.i64.wrap ((i:Int)+1)=(i:Int)+1:=by rw [IntKind.wrap_i64];omega
 have hw2:IntKind.i64.wrap ((n:Int)+1)=(n:Int)+1:=by rw [IntKind.wrap_i64];omega
 have hb1:(0:Int)≤(i:Int)+1:=by omega
 have hin:i≤n:=by omega
 have htn:((i:Int)+1).toNat=i+1:=by omega
 have htm:((n:Int)+1).toNat=n+1:=by omega
 have hb2:¬ (c=i+1):=by omega
 have hb3:(i:Int)≤(n:Int)+1:=by omega
 have hb4:¬ (c=i):=by omega
 have hcp1:∀ ty dc sc,(Builtin.copy_ #[23,23] ty #[.slice (some ⟨g,(i+1)*2,none⟩) (n-i) dc,.slice (some ⟨g,i*2,none⟩) (n+1-i) sc]).run Tryz.prog w.drew=.ok (goInt (n-i:Nat)) (w.drew.setCells g ((i+1)*2) ((ncells xs).drop (i*2))):=fun ty dc sc =>
  run_copy_cells_k w.drew _ _ ty 47 g ((i+1)*2) (n-i) dc ⟨g,i*2,none⟩ (n+1-i) sc 2 (n-i) ((ncells xs).drop (i*2)) Tryz.underlying23 hsz (by simp only [Nat.min_def];split<;>omega) hdl
   (fun j v hj=>by rw [Addr.add_lit];exact hcs0 _ v (by rwa [List.getElem?_drop] at hj))
   (fun j hj=>hsp _ (by omega)) (fun j hj=>hfz _) (fun v hv=>ncells_one (List.mem_of_mem_drop hv))
 obtain⟨W1,hW1⟩:∃ W1,W1=w.drew.setCells g ((i+1)*2) ((ncells xs).drop (i*2)):=⟨_,rfl⟩
 have hsp1:∀ k,k<(n+1)*2→(W1.cell? ⟨g,k,none⟩).isSome=true:=fun k hk=>by
  rw [hW1]
  exact isSome_setCellsN g ((ncells xs).drop (i*2)) ((i+1)*2) w.drew (fun j hj=>hsp _ (by rw [hdl] at hj;omega)) k (hsp k hk)
 have hv0:∀ j u,([.int .i64 x.1,.int .i64 x.2]:List Value)[j]? = some u→W1.cell? ⟨vb,j,none⟩=some u:=fun j u hj=>by
  rw [hW1,World.cell?_setCells_out g _ _ _ _ (fun h _=>absurd h hne)]
  have:=hv.cell j
  exact this.trans (by simpa using hj)
 have hcp2:∀ (W:World),(∀ x,W.cell? x=W1.cell? x)→(∀ x,W.frozen? x=W1.frozen? x)→∀ ty dc,(Builtin.copy_ #[23,23] ty #[.slice (some ⟨g,i*2,none⟩) (n+1-i) dc,.slice (some ⟨vb,0,none⟩) 1 1]).run Tryz.prog W=.ok (goInt 1) (W.setCells g (i*2) [.int .i64 x.1,.int .i64 x.2]):=fun W hWc hWf ty dc =>
  run_copy_cells_k W _ _ ty 47 g (i*2) (n+1-i) dc ⟨vb,0,none⟩ 1 1 2 1 _ Tryz.underlying23 hsz (by simp only [Nat.min_def];split<;>omega) rfl
   (fun j v hj=>by rw [Addr.add_lit,hWc,Nat.zero_add];exact hv0 j v hj)
   (fun j hj=>by rw [hWc];exact hsp1 _ (by simp at hj;omega)) (fun j hj=>by rw [hWf,hW1,World.frozen?_setCells];exact hfz _) (by intro v hv;simp at hv;rcases hv with rfl | rfl<;>rfl)
 have HEND:InEnds base xs i x w (.returned (.slice (some ⟨g,0,none⟩) (n+1) c)) (W1.setCells g (i*2) [.int .i64 x.1,.int .i64 x.2]):=by
  refine⟨below_setCells g hbase _ _ _ (by rw [hW1];exact below_setCells g hbase _ _ _ (Below.refl _ _).drew),g,c,by rw [hn],by omega,?_⟩
  have hin:∀ j (hj:j<2),(W1.setCells g (i*2) [.int .i64 x.1,.int .i64 x.2]).cell? ⟨g,i*2+j,none⟩=some ([.int .i64 x.1,.int .i64 x.2]:List Value)[j]:=fun j hj=>World.cell?_setCells_in g [.int .i64 x.1,.int .i64 x.2] (i*2) W1 (fun j hj=>hsp1 _ (by simp at hj;omega)) j hj
  refine put_in (by rw [size_setCells,hW1,size_setCells];exact hglt) (by omega) (fun j u hj hju=>?_) (hin 0 (by omega)) (hin 1 (by omega)) (fun j u hj hju=>?_)
  ·rw [World.cell?_setCells_out g _ _ _ _ (fun _ _=>.inl hj),hW1,World.cell?_setCells_out g _ _ _ _ (fun _ _=>.inl (by simp;omega))]
   exact hcs0 j u hju
  ·have hjl:j<n*2:=by have:=(List.getElem?_eq_some_iff.1 hju).1;omega
   rw [World.cell?_setCells_out g _ _ _ _ (fun _ _=>.inr (by simp;omega)),hW1]
   have:=World.cell?_setCells_in g ((ncells xs).drop (i*2)) ((i+1)*2) w.drew (fun j hj=>hsp _ (by omega)) (j-i*2) (by omega)
   rw [show(i+1)*2+(j-i*2)=j+2 by omega] at this
   rw [this,← List.getElem?_eq_getElem,List.getElem?_drop,show i*2+(j-i*2)=j by omega]
   exact hju
 rw [← hW1] at hcp1
 have HE:=Lib.hid HEND
 clear HEND hcs0 hcs hcell hsp hfz hsp1 hv0 hW1 hg hglt hv hnl hdl htk
 go_enter Tryz.func134,Tryz.ntmps134
 go_wp2_with (simp only [hov])
 go_region_held3 (fun _=>True) (trivial) (fail)
 go_wp2_with (at_builtin;refine wpList_copy_runN _ rfl _ _ 23 23 rfl _ _ rfl rfl (hcp2 _ (fun _=>rfl) (fun _=>rfl) _ _) ?_)
 go_ret
 exact HE.out
theorem insert_grow(g c:Nat)(xs:List Nd)(n:Nat)(hn:xs.length=n)(base i:Nat)(x:Nd)(vb:Nat)(w:World)(hbase:base≤w.heap.size)(hx:Nodes w w.heap.size (some ⟨g,0,none⟩) xs)
  (hv:Blk w vb 47 #[.int .i64 x.1,.int .i64 x.2]) (hi:i<n) (hl:n≤1000000) (hnc:n≤c) (hroom:c<n+1) :
  Calls Tryz.prog 134 #[.slice (some ⟨g,0,none⟩) n c,.int .i64 i,.slice (some ⟨vb,0,none⟩) 1 1] w (InEnds base xs i x w):=by
 obtain rfl:c=n:=by omega
 obtain⟨i0,hi0,hz0,hzs,hzb⟩:=info_parts info_node
 have hsz:(Tryz.prog.info? 47).map (·.size)=some 2:=by rw [hi0];simp [hzs]
 have hcs0:∀ j u,(ncells xs)[j]? = some u→w.cell? ⟨g,j,none⟩=some u:=fun j u hj=>by
  have:=hx.cells j u hj
  rwa [Addr.add_lit,Nat.zero_add] at this
 have hnl:(ncells xs).length=c*2:=by rw [ncells_len,hn]
 have hdl:((ncells xs).drop (i*2)).length=(c-i)*2:=by rw [List.length_drop,hnl];omega
 have hz2:¬ ((i:Int)=(c:Int)):=by omega
 have hglt:g<w.heap.size:=by
  obtain⟨y,hy⟩:∃ y,xs[0]? = some y:=⟨_,List.getElem?_eq_getElem (by omega)⟩
  obtain⟨ad,e,hlt,-⟩:=hx 0 y hy
  cases e
  exact hlt
 have hw1:IntKind.i64.wrap ((i:Int)+1)=(i:Int)+1:=by rw [IntKind.wrap_i64];omega
 have hw2:IntKind.i64.wrap ((c:Int)+1)=(c:Int)+1:=by rw [IntKind.wrap_i64];omega
 have hw3:IntKind.i64.wrap ((c:Int)+1-(i:Int))=(c:Int)+1-(i:Int):=by rw [IntKind.wrap_i64];omega
 have hb1:(0:Int)≤(i:Int)+1:=by omega
 have hin:i≤c:=by omega
 have htn:((i:Int)+1).toNat=i+1:=by omega
 have hci:¬ (c=i):=by omega
 have hkk:(c:Int)+1-(i:Int)=((c+1-i:Nat):Int):=by omega
 have hold:(Builtin.firstCells i0.size i (.slice (some ⟨g,0,none⟩) i c)).run Tryz.prog w.drew=.ok ((ncells xs).take (i*2)).toArray w.drew:=by
  rw [hzs]
  exact run_firstCells_some w.drew 2 i ⟨g,0,none⟩ i c ((ncells xs).take (i*2)) (by rw [List.length_take];omega) (fun j v hj=>by
   rw [Addr.add_lit,Nat.zero_add]
   rw [List.getElem?_take] at hj
   split at hj
   ·exact hcs0 j v hj
   ·cases hj)
 have hik:i+(c+1-i)=c+1:=by omega
 have hrz:∀ ty,(Builtin.append_ #[23,3] ty #[.slice (some ⟨g,0,none⟩) i c,.int .i64 ((c:Int)+1-(i:Int))]).run Tryz.prog w =
   .ok (.slice (some ⟨w.heap.size,0,none⟩) (c+1) (grownCap w (c+1) c 47)) (w.drew.alloc (.cells (((ncells xs).take (i*2)).toArray++Builtin.zeroCells (Value.agg #[.int .i64 0,.int .i64 0]).cells (c+1-i)++Builtin.zeroCells (Value.agg #[.int .i64 0,.int .i64 0]).cells (grownCap w (c+1) c 47-(c+1))) 47)):=fun ty=>by
  have h:=Lib.run_append_grow_zeros w 23 3 ty 47 i0 _ .i64 .i64 Tryz.underlying23 Tryz.underlying3 hi0 hz0 (some ⟨g,0,none⟩) i c _ hold (c+1-i) (by omega) (by omega) (by omega) (by omega) (by rw [hzb];omega) (by rw [hzb,hik];exact growslice_fits hroom (by omega))
  rw [hik] at h
  rw [hkk]
  exact h
 obtain⟨G,hG⟩:∃ G,G=grownCap w (c+1) c 47:=⟨_,rfl⟩
 have hGn:c+1≤G:=by rw [hG];exact grownCap_ge w _ _ _
 have hGi:¬ (G=i):=by omega
 have hGim:¬ (G=i+1):=by omega
 obtain⟨ROW,hROW⟩:∃ ROW:Array Value,ROW=((ncells xs).take (i*2)).toArray++Builtin.zeroCells (Value.agg #[.int .i64 0,.int .i64 0]).cells (c+1-i)++Builtin.zeroCells (Value.agg #[.int .i64 0,.int .i64 0]).cells (G-(c+1)):=⟨_,rfl⟩
 rw [← hG] at hrz
 rw [← hROW] at hrz
 have htl:((ncells xs).take (i*2)).length=i*2:=by rw [List.length_take];omega
 have hRl:(c+1)*2≤ROW.size:=by
  rw [hROW]
  simp [Builtin.zeroCells,Value.cells]
  omega
 have hRt:∀ j,j<i*2→ROW[j]? = (ncells xs)[j]? := fun j hj=>by
  rw [hROW,Array.append_assoc,Array.getElem?_append_left (by simp;omega)]
  simp [hj]
 obtain⟨W1,hW1⟩:∃ W1,W1=w.drew.alloc (.cells ROW 47):=⟨_,rfl⟩
 rw [← hW1] at hrz
 have hNc:∀ j,W1.cell? ⟨w.heap.size,j,none⟩=ROW[j]? := fun j=>by
  rw [hW1,World.cell?_alloc_at (w:=w.drew) ROW _ w.heap.size j rfl]
 have hN:∀ j,j<(c+1)*2→(W1.cell? ⟨w.heap.size,j,none⟩).isSome=true:=fun j hj=>by
  rw [hNc,Array.getElem?_eq_getElem (by omega)];rfl
 have hNf:∀ j,W1.frozen? ⟨w.heap.size,j,none⟩=false:=fun j=>by rw [hW1];exact World.frozen?_alloc_at (w:=w.drew) ROW _ w.heap.size j rfl
 have hOb:∀ j v,w.cell? ⟨g,j,none⟩=some v→W1.cell? ⟨g,j,none⟩=some v:=fun j v h=>by rw [hW1,World.cell?_alloc_past (w:=w.drew) _ g j hglt];exact h
 have hv0:∀ j u,([.int .i64 x.1,.int .i64 x.2]:List Value)[j]? = some u→W1.cell? ⟨vb,j,none⟩=some u:=fun j u hj=>by
  rw [hW1,World.cell?_alloc_past (w:=w.drew) _ vb j hv.lt]
  exact(hv.cell j).trans (by simpa using hj)
 have hcpA:∀ (W:World),(∀ x,W.cell? x=W1.cell? x)→(∀ x,W.frozen? x=W1.frozen? x)→∀ ty dc,(Builtin.copy_ #[23,23] ty #[.slice (some ⟨w.heap.size,i*2,none⟩) (c+1-i) dc,.slice (some ⟨vb,0,none⟩) 1 1]).run Tryz.prog W=.ok (goInt 1) (W.setCells w.heap.size (i*2) [.int .i64 x.1,.int .i64 x.2]):=fun W hWc hWf ty dc =>
  run_copy_cells_k W _ _ ty 47 w.heap.size (i*2) (c+1-i) dc ⟨vb,0,none⟩ 1 1 2 1 _ Tryz.underlying23 hsz (by simp only [Nat.min_def];split<;>omega) rfl
   (fun j v hj=>by rw [Addr.add_lit,hWc,Nat.zero_add];exact hv0 j v hj)
   (fun j hj=>by rw [hWc];exact hN _ (by simp at hj;omega)) (fun j hj=>by rw [hWf];exact hNf _) (by intro v hv;simp at hv;rcases hv with rfl | rfl<;>rfl)
 obtain⟨W2,hW2⟩:∃ W2,W2=W1.setCells w.heap.size (i*2) [.int .i64 x.1,.int .i64 x.2]:=⟨_,rfl⟩
 have hN2:∀ j,j<(c+1)*2→(W2.cell? ⟨w.heap.size,j,none⟩).isSome=true:=fun j hj=>by
  rw [hW2]
  exact isSome_setCellsN _ [.int .i64 x.1,.int .i64 x.2] (i*2) W1 (fun j hj=>hN _ (by simp at hj;omega)) j (hN j hj)
 have hgN:g≠w.heap.size:=by omega
 have hcpB:∀ (W:World),(∀ x,W.cell? x=W2.cell? x)→(∀ x,W.frozen? x=W2.frozen? x)→∀ ty dc sc,(Builtin.copy_ #[23,23] ty #[.slice (some ⟨w.heap.size,(i+1)*2,none⟩) (c-i) dc,.slice (some ⟨g,i*2,none⟩) (c-i) sc]).run Tryz.prog W=.ok (goInt (c-i:Nat)) (W.setCells w.heap.size ((i+1)*2) ((ncells xs).drop (i*2))):=fun W hWc hWf ty dc sc =>
  run_copy_cells_k W _ _ ty 47 w.heap.size ((i+1)*2) (c-i) dc ⟨g,i*2,none⟩ (c-i) sc 2 (c-i) ((ncells xs).drop (i*2)) Tryz.underlying23 hsz (by simp only [Nat.min_def];split<;>omega) hdl
   (fun j v hj=>by rw [Addr.add_lit,hWc,hW2,World.cell?_setCells_out _ _ _ _ _ (fun h _=>absurd h hgN)];exact hOb _ v (hcs0 _ v (by rwa [List.getElem?_drop] at hj)))
   (fun j hj=>by rw [hWc];exact hN2 _ (by rw [hdl] at hj;omega)) (fun j hj=>by rw [hWf,hW2,World.frozen?_setCells];exact hNf _) (fun v hv=>ncells_one (List.mem_of_mem_drop hv))
 have hBe:Below base w W1:=by rw [hW1];exact((Below.refl _ _).drew).alloc hbase _
 have hszW:W1.heap.size=w.heap.size+1:=by rw [hW1];simp
 have HEND:∀ W,(∀ x,W.cell? x=W2.cell? x)→Below base w W→W.heap.size=W2.heap.size→InEnds base xs i x w (.returned (.slice (some ⟨w.heap.size,0,none⟩) (c+1) G)) (W.setCells w.heap.size ((i+1)*2) ((ncells xs).drop (i*2))):=fun W hWc hWB hWs=>by
  refine⟨below_setCells _ hbase _ _ _ hWB,w.heap.size,G,by rw [hn],by omega,?_⟩
  have hin:∀ j (hj:j<2),W2.cell? ⟨w.heap.size,i*2+j,none⟩=some ([.int .i64 x.1,.int .i64 x.2]:List Value)[j]:=fun j hj=>by
   rw [hW2]
   exact World.cell?_setCells_in _ [.int .i64 x.1,.int .i64 x.2] (i*2) W1 (fun j hj=>hN _ (by simp at hj;omega)) j hj
  have hlo:∀ j,j<(i+1)*2→(W.setCells w.heap.size ((i+1)*2) ((ncells xs).drop (i*2))).cell? ⟨w.heap.size,j,none⟩=W2.cell? ⟨w.heap.size,j,none⟩:=fun j hj=>by
   rw [World.cell?_setCells_out _ _ _ _ _ (fun _ _=>.inl (by simp;omega)),hWc]
  refine put_in (by rw [size_setCells,hWs,hW2,size_setCells,hszW];omega) (by omega) (fun j u hj hju=>?_) ((hlo _ (by omega)).trans (hin 0 (by omega))) ((hlo _ (by omega)).trans (hin 1 (by omega))) (fun j u hj hju=>?_)
  ·rw [hlo _ (by omega),hW2,World.cell?_setCells_out _ _ _ _ _ (fun _ _=>.inl hj),hNc,hRt j hj]
   exact hju
  ·have hjl:j<c*2:=by have:=(List.getElem?_eq_some_iff.1 hju).1;omega
   have:=World.cell?_setCells_in w.heap.size ((ncells xs).drop (i*2)) ((i+1)*2) W (fun j hj=>by rw [hWc];exact hN2 _ (by rw [hdl] at hj;omega)) (j-i*2) (by omega)
   rw [show(i+1)*2+(j-i*2)=j+2 by omega] at this
   rw [this,← List.getElem?_eq_getElem,List.getElem?_drop,show i*2+(j-i*2)=j by omega]
   exact hju
 have hBe2:Below base w W2:=by rw [hW2];exact below_setCells _ hbase _ _ _ hBe
 have hG63:G≤9223372036854775807:=by
  have:=grownCap_le_maxLen w (c+1) c 47 (by unfold maxLen;omega)
  rw [← hG] at this
  unfold maxLen at this
  omega
 have HE:=Lib.hid HEND
 have HB2:=Lib.hid hBe2
 clear HEND hcs0 hold hROW hG hRl hRt hNc hN hNf hOb hv0 hN2 hglt hv hnl hdl htl hx hkk hik hBe hBe2
 subst hW2
 subst hW1
 have hE1:∀ x,((w.alloc (.cells ROW 47)).drew).cell? x=(w.drew.alloc (.cells ROW 47)).cell? x:=fun x=>rfl
 have hE2:∀ x,((w.alloc (.cells ROW 47)).drew).frozen? x=(w.drew.alloc (.cells ROW 47)).frozen? x:=fun x=>rfl
 have hcp:=fun ty dc sc=>hcpB (((w.alloc (.cells ROW 47)).drew.setCells w.heap.size (i*2) [.int .i64 x.1,.int .i64 x.2]).drew) (fun _=>rfl) (fun _=>rfl) ty dc sc
 go_enter Tryz.func134,Tryz.ntmps134
 go_wp2_with (first
  | (at_builtin;refine Lib.wpList_append_run _ rfl _ _ _ _ rfl _ _ rfl rfl _ _ (hrz _) ?_)
  | (at_builtin;refine wpList_copy_runN _ rfl _ _ 23 23 rfl _ _ rfl rfl (hcpA _ hE1 hE2 _ _) ?_))
 go_region_held3 (fun _=>True) (trivial) (fail)
 go_wp2
 go_ret
 exact HE.out _ (fun _=>rfl) (below_setCells _ hbase _ _ _ (((Below.refl _ _).alloc hbase _).drew)).drew rfl
theorem Insert_any(g c:Nat)(xs:List Nd)(n:Nat)(hn:xs.length=n)(base i:Nat)(x:Nd)(vb:Nat)(w:World)(ho:w.ownsRow base 47 2 (.slice (some ⟨g,0,none⟩) n c) n (ncells xs))
  (hv:Blk w vb 47 #[.int .i64 x.1,.int .i64 x.2]) (hne:vb≠g) (hi:i<n) (hl:n≤1000000) :
  Calls Tryz.prog 134 #[.slice (some ⟨g,0,none⟩) n c,.int .i64 i,.slice (some ⟨vb,0,none⟩) 1 1] w (InEnds base xs i x w):=by
 have hlt:=ho.lt g rfl
 rcases ho.2 with⟨h',_⟩ | ⟨g',c',cur,h',hb,hg,hnc,hcm,hcs,htake⟩
 ·simp at h'
 ·simp only [Value.slice.injEq,Option.some.injEq,Addr.mk.injEq,and_true,true_and] at h'
  obtain⟨rfl,rfl⟩:=h'
  by_cases hroom:n+1≤c
  ·exact insert_shift g c xs n hn base i x vb w cur hb hg hcs htake hv hne hi hl hroom (by simp only [maxLen] at hcm;omega)
  ·subst hn
   obtain⟨A,c',e,-,-,hN⟩:=own_nodes ho
   cases e
   exact insert_grow g c xs _ rfl base i x vb w (by omega) hN hv hi hl hnc (by omega)
end Go.Proofs.YtodejloonfkkmaaGreat.Delta
namespace Go.Proofs.YtodejloonfkkmaaGreat.Delta
open Go.RowKit Mem Arena Kinds Path
attribute [local go_sem ↓] Go.wp_at_zero Go.wp_at_succ
end Go.Proofs.YtodejloonfkkmaaGreat.Delta
