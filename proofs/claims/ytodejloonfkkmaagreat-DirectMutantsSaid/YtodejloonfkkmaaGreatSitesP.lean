/-
  Package sites, walked: a node's path, found once (sync.Once, one goroutine), each time in a list of its own.
  Package sites, walked: the mutants of a body, told to a loop's body.
  Package sites, walked: all mutants of a program, by a range over the iterator.
  Package sites, walked: where a delta stands, by halving; a program that is changed by one of all.
-/
import Derived.Test.YtodejloonfkkmaaGreatSyncOnce
import Derived.Test.YtodejloonfkkmaaGreatSitesG
import Derived.Test.YtodejloonfkkmaaGreatPathH
import Derived.Test.YtodejloonfkkmaaGreatDeltaP
import Derived.Test.YtodejloonfkkmaaGreatCatN
import Derived.Test.YtodejloonfkkmaaGreatKindsP
import Derived.Maps.OwnIn
import Derived.Deep.RegionHeld3
import Derived.Deep.DrawnRows
set_option maxRecDepth 100000
set_option maxHeartbeats 4000000
set_option linter.unusedVariables false
namespace Go.Proofs.YtodejloonfkkmaaGreat.Sites
open Go.RowKit Mem Arena Delta Path Cat OnceP
def scells(A:Option Addr)(n c:Nat)(a d l:Int)(kept:Value):Array Value:=#[.slice A n c,.int .i64 a,.int .u32 d,.int .i32 l,.int .u32 0,kept]
def NewRow(w:World)(B:Nat)(A:Option Addr)(c:Nat)(p:List Int):Prop:=p.length≤c∧(A=none→c=0)∧IRow w w.heap.size A p∧∀ ad,A=some ad→B≤ad.block
theorem NewRow.kept{S:Nat→Prop}{w w':World}{B:Nat}{A:Option Addr}{c:Nat}{p:List Int}(h:NewRow w B A c p)(k:Kept S w w')(hs:∀ i,B≤i→¬ S i):NewRow w' B A c p :=
 ⟨h.1,h.2.1,IRow.kept h.2.2.1 k (fun ad e=>hs _ (h.2.2.2 ad e)),h.2.2.2⟩
theorem find_any(g:Nat)(A:Option Addr)(c:Nat)(xs:List Nd)(a:Nat)(d l:Int)(w:World)(hw:Whole xs)(ha:a<xs.length)(hl:xs.length≤1000000)
  (hb:Blk w g 106 (scells A xs.length c a d l (.slice none 0 0))) (hx:Nodes w g A xs) :
  Calls Tryz.prog 91 #[.pointer (some ⟨g,0,none⟩)] w fun e w'=>e=.returned (.tuple #[])∧Kept (· = g) w w'∧∃ KA kc,Blk w' g 106 (scells A xs.length c a d l (.slice KA (ppath xs a).length kc))∧NewRow w' w.heap.size KA kc (ppath xs a):=by
 have hlt:=hb.lt
 have c0:=hb.cell 0
 have c1:=hb.cell 1
 have hx':Nodes w w.heap.size A xs:=fun i x h=>by obtain⟨ad,e,h1,h2⟩:=hx i x h;exact⟨ad,e,by omega,h2⟩
 have HO:=Lib.hid (fun W (h:Below w.heap.size w W)=>(Path.Of_anyF A c xs a W (hx'.at h) hl).mono fun e w' q=>q.ok (leads_ppath hw ha))
 have HB:=Lib.hid hb
 have HS:=Lib.hid (fun W (h:Below w.heap.size w W)=>show W.cell? ⟨g,5,none⟩=some (.slice none 0 0)∧W.frozen? ⟨g,5,none⟩=false from⟨(hb.below h hlt).cell 5,(hb.below h hlt).frozen 5⟩)
 generalize ppath xs a=p at *
 simp only [scells] at c0 c1
 have hwd:Below w.heap.size w w.drew:=(Below.refl _ _).drew
 have hS:=And.intro c0 c1
 clear hb hx hx' hw c0 c1
 go_enter Tryz.func91,Tryz.ntmps91
 go_wp2_with fail
 go_region_held3 (fun w'=>w'.cell? ⟨g,0,none⟩=some (.slice A xs.length c)∧w'.cell? ⟨g,1,none⟩=some (.int .i64 (a:Int))) (first | exact hS | exact hS2 | exact hS3 _) (first
  | (go_at_call 123;refine(HO.out _ hwd).mono ?_;rintro e w1 ⟨hb1,KA,kc,rfl,hkc,hKA,hkr,hkf⟩;have hb1:=hwd.trans hb1;obtain⟨s5,f5⟩:=HS.out _ hb1;have hS2:w1.cell? ⟨g,0,none⟩=some (.slice A xs.length c)∧w1.cell? ⟨g,1,none⟩=some (.int .i64 (a:Int)):=⟨(HB.out.below hb1 hlt).cell 0,(HB.out.below hb1 hlt).cell 1⟩;have hS3:∀ v,(w1.setCell ⟨g,5,none⟩ v).cell? ⟨g,0,none⟩=some (.slice A xs.length c)∧(w1.setCell ⟨g,5,none⟩ v).cell? ⟨g,1,none⟩=some (.int .i64 (a:Int)):=fun v=>⟨((HB.out.below hb1 hlt).set 5 v).cell 0,((HB.out.below hb1 hlt).set 5 v).cell 1⟩))
 go_end0
 have hB1:=HB.out.below hb1 hlt
 refine⟨rfl,((Kept.refl (· = g) _).below hb1).setCell (p:=⟨g,5,none⟩) (.inl rfl) _,KA,kc,hB1.set 5 _,?_⟩
 exact NewRow.kept (S:=(· = g)) ⟨hkc,hKA,hkr,hkf⟩ ((Kept.refl (· = g) _).setCell (p:=⟨g,5,none⟩) (.inl rfl) _) (fun i hi e=>by omega)
def SlowEnds(g:Nat)(A:Option Addr)(c:Nat)(xs:List Nd)(a:Nat)(w:World)(e:Ending)(w':World):Prop :=
 e=.returned (.tuple #[])∧Kept (· = g) w w'∧∃ KA kc,Blk w' g 106 (scells A xs.length c a 1 0 (.slice KA (ppath xs a).length kc))∧NewRow w' w.heap.size KA kc (ppath xs a)
theorem slow_any(g:Nat)(A:Option Addr)(c:Nat)(xs:List Nd)(a:Nat)(w:World)(hw:Whole xs)(ha:a<xs.length)(hl:xs.length≤1000000)
  (hb:Blk w g 106 (scells A xs.length c a 0 0 (.slice none 0 0))) (hx:Nodes w g A xs) :
  Calls Tryz.prog 122 #[.pointer (some ⟨g,2,none⟩),.func (.func 91) #[.pointer (some ⟨g,0,none⟩)] #[]] w (SlowEnds g A c xs a w):=by
 have hlt:=hb.lt
 have h2:w.cell? ⟨g,2,none⟩=some (.int .u32 0):=hb.cell 2
 have h3:w.cell? ⟨g,3,none⟩=some (.int .i32 0):=hb.cell 3
 have f3:=hb.frozen 3
 have hb1:Blk (w.setCell ⟨g,3,none⟩ (.int .i32 1)) g 106 (scells A xs.length c a 0 1 (.slice none 0 0)):=hb.set 3 _
 have hl2:=run_call_load (P:=Tryz.prog) Tryz.func141 (by kernel_rfl) (by kernel_rfl) (by kernel_rfl) .u32 (by kernel_rfl) (w:=w.setCell ⟨g,3,none⟩ (.int .i32 1)) (a:=⟨g,2,none⟩) (x:=0) (hb1.cell 2)
 have hnot:∀ (x:Bool) (w:World),(Op.unary .not (.bool x)).run Tryz.prog w=.ok (.bool (!x)) w:=fun _ _=>rfl
 have HF:=Lib.hid (find_any g A c xs a 0 1 _ hw ha hl hb1 (hx.below ((Below.refl g w).setCell (p:=⟨g,3,none⟩) (Nat.le_refl g) _)))
 have HK:=Lib.hid ((Kept.refl (· = g) w).setCell (p:=⟨g,3,none⟩) (.inl rfl) (.int .i32 1))
 have HW:Hid ((w.setCell ⟨g,3,none⟩ (.int .i32 1)).heap.size=w.heap.size):=Lib.hid (by simp [World.setCell])
 unfold SlowEnds
 generalize ppath xs a=p at *
 clear hb hb1 hx hw
 go_enter_defers Tryz.func122,Tryz.ntmps122
 go_wp2_with (first | (go_at_call 142;refine(lock_free ⟨g,3,none⟩ _ h3 f3).mono ?_;rintro e w' ⟨rfl,rfl⟩) | (go_at_call 121;go_in))
 refine HF.out.mono ?_
 rintro e w2 ⟨rfl,hk,KA,kc,hb2,hr2⟩
 have HB2:=Lib.hid hb2
 have HR2:=Lib.hid hr2
 have HK2:=Lib.hid (HK.out.trans hk)
 clear hl2 hnot h2 h3 f3 hk hb2 hr2
 go_wp2
 refine leaves_cons (f:=144) (args:=#[.pointer (some ⟨g,2,none⟩),.bool true]) (by simp) (by simp [go_sem]) ?_
 refine(store_deferred ⟨g,2,none⟩ (.int .u32 0) .returning _ (HB2.out.cell 2) (HB2.out.frozen 2)).mono ?_
 rintro e u' w'' ⟨rfl,rfl,rfl⟩
 have hb3:=(HB2.out.drew).set 2 (.int .u32 1)
 refine leaves_cons (f:=143) (args:=#[.pointer (some ⟨g,3,none⟩)]) (by simp [settle]) (by simp [go_sem]) ?_
 refine(unlock_deferred ⟨g,3,none⟩ _ _ (hb3.cell 3) (hb3.frozen 3)).mono ?_
 rintro e u' w'' ⟨rfl,rfl,rfl⟩
 have hk4:Kept (· = g) w2 ((w2.drew.setCell ⟨g,2,none⟩ (.int .u32 1)).setCell ⟨g,3,none⟩ (.int .i32 0)):=(((Kept.refl (· = g) w2).drew).setCell (p:=⟨g,2,none⟩) (.inl rfl) _).setCell (p:=⟨g,3,none⟩) (.inl rfl) _
 have hr2:=HR2.out
 rw [HW.out] at hr2
 exact⟨_,results_none rfl _ _ _,rfl,HK2.out.trans hk4,KA,kc,hb3.set 3 _,hr2.kept hk4 (fun i hi e=>by omega)⟩
theorem do_first(g:Nat)(A:Option Addr)(c:Nat)(xs:List Nd)(a:Nat)(w:World)(hw:Whole xs)(ha:a<xs.length)(hl:xs.length≤1000000)
  (hb:Blk w g 106 (scells A xs.length c a 0 0 (.slice none 0 0))) (hx:Nodes w g A xs) :
  Calls Tryz.prog 90 #[.pointer (some ⟨g,2,none⟩),.func (.func 91) #[.pointer (some ⟨g,0,none⟩)] #[]] w (SlowEnds g A c xs a w):=by
 have hld:=run_call_load (P:=Tryz.prog) Tryz.func141 (by kernel_rfl) (by kernel_rfl) (by kernel_rfl) .u32 (by kernel_rfl) (w:=w) (a:=⟨g,2,none⟩) (x:=0) (hb.cell 2)
 have hnot:∀ (x:Bool) (w:World),(Op.unary .not (.bool x)).run Tryz.prog w=.ok (.bool (!x)) w:=fun _ _=>rfl
 have HS:=Lib.hid (slow_any g A c xs a w hw ha hl hb hx)
 unfold SlowEnds at *
 generalize ppath xs a=p at *
 clear hb hx hw
 go_enter Tryz.func90,Tryz.ntmps90
 go_wp2_with (first | (go_at_call 122;refine HS.out.mono ?_;rintro e w' ⟨rfl,hq⟩) | (go_at_call 121;go_in))
 go_end0
 exact⟨rfl,hq⟩
def Asked(w:World)(g:Nat)(A:Option Addr)(c:Nat)(xs:List Nd)(a:Nat)(T:Nat→Prop):Prop :=
 ∃ KA kc,Blk w g 106 (scells A xs.length c a 1 0 (.slice KA (ppath xs a).length kc))∧(ppath xs a).length≤kc∧(KA=none→kc=0)∧IRow w w.heap.size KA (ppath xs a)∧(ppath xs a≠[]→∀ ad,KA=some ad→T ad.block)
theorem Asked.mono{w:World}{g:Nat}{A:Option Addr}{c:Nat}{xs:List Nd}{a:Nat}{T T':Nat→Prop}(h:Asked w g A c xs a T)(hT:∀ k,k<w.heap.size→T k→T' k):Asked w g A c xs a T':=by
 obtain⟨KA,kc,h1,h2,h3,h4,h5⟩:=h
 refine⟨KA,kc,h1,h2,h3,h4,fun hp ad e=>hT _ ?_ (h5 hp ad e)⟩
 obtain⟨x,r,hx⟩:=ne_cons hp
 obtain⟨ad',e',hb,-⟩:=h4 0 x (by rw [hx];rfl)
 rw [e] at e'
 cases e'
 exact hb
theorem Asked.kept{S:Nat→Prop}{w w':World}{g:Nat}{A:Option Addr}{c:Nat}{xs:List Nd}{a:Nat}{T:Nat→Prop}(h:Asked w g A c xs a T)(k:Kept S w w')(hg:¬ S g)(hS:∀ i,T i→¬ S i):Asked w' g A c xs a T:=by
 obtain⟨KA,kc,h1,h2,h3,h4,h5⟩:=h
 refine⟨KA,kc,h1.kept k hg,h2,h3,?_,h5⟩
 by_cases hp:ppath xs a=[]
 ·rw [hp];intro i x hx;simp at hx
 ·exact IRow.kept h4 k (fun ad e=>hS _ (h5 hp ad e))
def Fresh(w:World)(g:Nat)(A:Option Addr)(c:Nat)(xs:List Nd)(a:Nat):Prop:=Blk w g 106 (scells A xs.length c a 0 0 (.slice none 0 0))
def PathTold(g:Nat)(A:Option Addr)(c:Nat)(xs:List Nd)(a:Nat)(T:Nat→Prop)(w:World)(e:Ending)(w':World):Prop :=
 Kept (· = g) w w'∧∃ PA pc B,w.heap.size≤B∧e=.returned (.slice PA (ppath xs a).length pc)∧NewRow w' B PA pc (ppath xs a)∧Asked w' g A c xs a (fun k=>(T k∨w.heap.size≤k)∧k<B)
theorem path_fresh(g:Nat)(A:Option Addr)(c:Nat)(xs:List Nd)(a:Nat)(w:World)(hw:Whole xs)(ha:a<xs.length)(hl:xs.length≤1000000)(hp:(ppath xs a).length≤1000000)
  (hb:Fresh w g A c xs a) (hx:Nodes w g A xs) :
  Calls Tryz.prog 43 #[.pointer (some ⟨g,0,none⟩)] w (PathTold g A c xs a (fun _=>False) w):=by
 have hmf:∀ (fn:Fn) (first cap:Array Value) (w:World),(Instr.makeFunc fn first cap).run Tryz.prog w=.ok (.func fn first cap) w:=fun _ _ _ _=>rfl
 have HD:=Lib.hid (do_first g A c xs a w hw ha hl hb hx)
 unfold SlowEnds at HD
 have HC:=Lib.hid (fun KA kc W (h:IRow W W.heap.size KA (ppath xs a)) (hn:KA=none→kc=0)=>cloneInts_any KA kc (ppath xs a) W h hn hp)
 have hlt:g<w.heap.size:=Blk.lt hb
 unfold PathTold Asked
 generalize ppath xs a=p at *
 clear hb hx hw hp
 go_enter Tryz.func43,Tryz.ntmps43
 go_wp2_with (first
  | (go_at_call 90;refine HD.out.mono ?_;rintro e w1 ⟨rfl,hk1,KA,kc,hb1,hkc,hKA,hkr,hkf⟩;have c5:=hb1.cell 5;simp only [scells] at c5;have hlt1:=hb1.lt)
  | (go_at_call 50;refine(HC.out KA kc w1 hkr hKA).mono ?_;rintro e w2 ⟨hb2,PA,pc,rfl,hpc,hPA,hpr,hpf⟩))
 go_ret
 refine⟨hk1.below hb2,PA,pc,w1.heap.size,hk1.size,rfl,⟨hpc,hPA,hpr,hpf⟩,KA,kc,hb1.below hb2 hlt1,hkc,hKA,hkr.at hb2,fun hp ad e=>⟨.inr (hkf ad e),?_⟩⟩
 obtain⟨x,r,hx⟩:=ne_cons hp
 obtain⟨ad',e',hb,-⟩:=hkr 0 x (by rw [hx];rfl)
 rw [e] at e'
 cases e'
 exact hb
theorem path_asked(g:Nat)(A:Option Addr)(c:Nat)(xs:List Nd)(a:Nat)(T:Nat→Prop)(w:World)(hp:(ppath xs a).length≤1000000)(hq:Asked w g A c xs a T) :
  Calls Tryz.prog 43 #[.pointer (some ⟨g,0,none⟩)] w (PathTold g A c xs a T w):=by
 have hmf:∀ (fn:Fn) (first cap:Array Value) (w:World),(Instr.makeFunc fn first cap).run Tryz.prog w=.ok (.func fn first cap) w:=fun _ _ _ _=>rfl
 have HC:=Lib.hid (fun KA kc W (h:IRow W W.heap.size KA (ppath xs a)) (hn:KA=none→kc=0)=>cloneInts_any KA kc (ppath xs a) W h hn hp)
 unfold PathTold Asked at *
 generalize ppath xs a=p at *
 obtain⟨KA,kc,hb1,hkc,hKA,hkr,hkf⟩:=hq
 have hlt1:=hb1.lt
 have c5:=hb1.cell 5
 have c2:=hb1.cell 2
 simp only [scells] at c5 c2
 have HB1:=Lib.hid hb1
 clear hp hb1
 go_enter Tryz.func43,Tryz.ntmps43
 go_wp2_with (first
  | (go_at_call 90;refine(do_done ⟨g,2,none⟩ _ w c2).mono ?_;rintro e w1 ⟨rfl,rfl⟩)
  | (go_at_call 50;refine(HC.out KA kc w hkr hKA).mono ?_;rintro e w2 ⟨hb2,PA,pc,rfl,hpc,hPA,hpr,hpf⟩))
 go_ret
 refine⟨(Kept.refl _ _).below hb2,PA,pc,w.heap.size,Nat.le_refl _,rfl,⟨hpc,hPA,hpr,hpf⟩,KA,kc,HB1.out.below hb2 hlt1,hkc,hKA,hkr.at hb2,fun hp ad e=>⟨.inl (hkf hp ad e),?_⟩⟩
 obtain⟨x,r,hx⟩:=ne_cons hp
 obtain⟨ad',e',hb,-⟩:=hkr 0 x (by rw [hx];rfl)
 rw [e] at e'
 cases e'
 exact hb
end Go.Proofs.YtodejloonfkkmaaGreat.Sites
namespace Go.Proofs.YtodejloonfkkmaaGreat.Sites
open Go.RowKit Go.Shelf Mem Arena Delta Path Cat
attribute [local go_sem] Oper.semAt_some
def MFeeds(lp B:Nat)(L:List Mt)(J:List Mt→(Nat→Prop)→World→Prop):Prop :=
 ∀ pre m Φ P c W,J pre Φ W→(dl P c m).Ok W→(m.1≠[]→∀ ad,P=some ad→B≤ad.block∧¬ Φ ad.block)→pre++[m] <+: L →
  YieldAt Fence.wide 2 Tryz.prog lp #[.agg #[.slice P m.1.length c,.int .i64 m.2.1,.int .i64 m.2.2]] W fun e W'=>e=.returned (.bool true)∧∃ Φ',J (pre++[m]) Φ' W'∧Kept (fun k=>k<B∨Φ k) W W'∧∀ k,Φ' k→Φ k∨W.heap.size≤k∨(m.1≠[]∧∃ ad,P=some ad∧k=ad.block)
structure MHeld (B Bb:Nat) (A:Option Addr) (c:Nat) (xs:List Nd) (J:List Mt→(Nat→Prop)→World→Prop):Prop where
 stay:∀ pre Φ X Y,J pre Φ X→Kept (fun k=>B≤k∧¬ Φ k) X Y→J pre Φ Y
 lt:∀ pre Φ X,J pre Φ X→B≤X.heap.size∧∀ k,Φ k→k<X.heap.size
 body:∀ pre Φ X,J pre Φ X→X.cell? ⟨Bb,0,none⟩=some (.slice A xs.length c)∧Bb<B∧Nodes X B A xs
theorem path_any(g:Nat)(A:Option Addr)(c:Nat)(xs:List Nd)(a:Nat)(T:Nat→Prop)(w:World)(hw:Whole xs)(ha:a<xs.length)(hl:xs.length≤1000000)(hp:(ppath xs a).length≤1000000)
  (hs:Fresh w g A c xs a∨Asked w g A c xs a T) (hx:Nodes w g A xs) :
  Calls Tryz.prog 43 #[.pointer (some ⟨g,0,none⟩)] w (PathTold g A c xs a T w):=by
 rcases hs with h | h
 ·refine(path_fresh g A c xs a w hw ha hl hp h hx).mono ?_
  rintro e w' ⟨h1,PA,pc,B,h2,h3,h4,h5⟩
  exact⟨h1,PA,pc,B,h2,h3,h4,h5.mono fun k _ q=>⟨.inr (q.1.resolve_left id),q.2⟩⟩
 ·exact path_asked g A c xs a T w hp h
def CRow(w:World)(A:Option Addr)(bs:List (Int×Int))(T:Nat→Prop):Prop:=DRow w w.heap.size A bs∧(bs≠[]→∀ ad,A=some ad→T ad.block)
theorem CRow.kept{S:Nat→Prop}{w w':World}{A:Option Addr}{bs:List (Int×Int)}{T:Nat→Prop}(h:CRow w A bs T)(k:Kept S w w')(hS:∀ i,T i→¬ S i):CRow w' A bs T:=by
 refine⟨fun i b hi=>?_,h.2⟩
 obtain⟨ad,P,c,e,h1,h2,h3,h4,h5⟩:=h.1 i b hi
 have hb:(ad.add (i*3)).block=ad.block:=add_blockN _ _
 have hne:bs≠[]:=fun e=>by rw [e] at hi;simp at hi
 have hk:=k.block ad.block h1 (hS _ (h.2 hne ad e))
 refine⟨ad,P,c,e,Nat.lt_of_lt_of_le h1 k.size,h2,?_,?_,?_⟩
 ·rw [← h3];exact World.cell?_of_block (by rw [hb];exact hk)
 ·rw [← h4];exact World.cell?_of_block (by show w'.heap[(ad.add (i*3)).block]? = _;rw [hb];exact hk)
 ·rw [← h5];exact World.cell?_of_block (by show w'.heap[(ad.add (i*3)).block]? = _;rw [hb];exact hk)
theorem CRow.mono{w:World}{A:Option Addr}{bs:List (Int×Int)}{T T':Nat→Prop}(h:CRow w A bs T)(hT:∀ k,k<w.heap.size→T k→T' k):CRow w A bs T':=by
 refine⟨h.1,fun hne ad e=>hT _ ?_ (h.2 hne ad e)⟩
 obtain⟨x,r,hx⟩:=ne_cons hne
 obtain⟨ad',P,c,e',hb,-⟩:=h.1 0 x (by rw [hx];rfl)
 rw [e] at e'
 cases e'
 exact hb
structure MI (B g:Nat) (A:Option Addr) (c:Nat) (xs:List Nd) (a:Nat) (CA:Option Addr) (J:List Mt→(Nat→Prop)→World→Prop) (L:List Mt) (Φ:Nat→Prop) (W:World):Prop where
 j:J L Φ W
 lo:B≤g
 hi:g<W.heap.size
 no:¬ Φ g
 site:Fresh W g A c xs a∨Asked W g A c xs a (fun k=>B≤k∧k≠g∧¬ Φ k)
 row:CRow W CA (chs xs a) (fun k=>B≤k∧k≠g∧¬ Φ k)
structure MM (B g:Nat) (A:Option Addr) (c:Nat) (xs:List Nd) (a:Nat) (CA:Option Addr) (J:List Mt→(Nat→Prop)→World→Prop) (L:List Mt) (Φ:Nat→Prop) (PA:Option Addr) (W:World):Prop where
 j:J L Φ W
 lo:B≤g
 hi:g<W.heap.size
 no:¬ Φ g
 site:Asked W g A c xs a (fun k=>B≤k∧k≠g∧¬ Φ k∧∀ ad,PA=some ad→k≠ad.block)
 row:CRow W CA (chs xs a) (fun k=>B≤k∧k≠g∧¬ Φ k∧∀ ad,PA=some ad→k≠ad.block)
 pa:∀ ad,PA=some ad→B≤ad.block∧¬ Φ ad.block∧ad.block≠g
section
variable {B Bb g:Nat} {A:Option Addr} {c:Nat} {xs:List Nd} {a:Nat} {CA:Option Addr} {J:List Mt→(Nat→Prop)→World→Prop} {L:List Mt} {Φ:Nat→Prop} {W:World}
theorem MI.ask(h:MI B g A c xs a CA J L Φ W)(hH:MHeld B Bb A c xs J)(o:Obj) :
  (Fresh (W.alloc o) g A c xs a∨Asked (W.alloc o) g A c xs a (fun k=>k<W.heap.size∧B≤k∧k≠g∧¬ Φ k))∧Nodes (W.alloc o) g A xs:=by
 obtain⟨-,-,hn⟩:=hH.body _ _ _ h.j
 have hb:Below W.heap.size W (W.alloc o):=(Below.refl _ _).alloc (Nat.le_refl _) o
 refine⟨?_,?_⟩
 ·rcases h.site with q | q
  ·exact .inl (Blk.alloc q o)
  ·exact .inr ((q.mono fun k hk ht=>⟨hk,ht⟩).kept (S:=(W.heap.size≤·)) (Kept.of_below hb (Nat.le_refl _)) (by have:=h.hi;omega) (fun i q=>by omega))
 ·intro i x hx
  obtain⟨ad,e,h1,h2⟩:=(hn.below (hb.mono (hH.lt _ _ _ h.j).1)) i x hx
  exact⟨ad,e,Nat.lt_of_lt_of_le h1 h.lo,h2⟩
theorem MI.told(h:MI B g A c xs a CA J L Φ W)(hH:MHeld B Bb A c xs J)(hl:(ppath xs a).length≤1000000){o:Obj}{W3:World}{PA:Option Addr}{pc B':Nat}(hk:Kept (· = g) (W.alloc o) W3)(hB:(W.alloc o).heap.size≤B')(hr:NewRow W3 B' PA pc (ppath xs a))
  (hs:Asked W3 g A c xs a (fun k=>((k<W.heap.size∧B≤k∧k≠g∧¬ Φ k)∨(W.alloc o).heap.size≤k)∧k<B')) (v:Value) (op n:Int) :
  MM B g A c xs a CA J L Φ PA (W3.setCell ⟨W.heap.size,0,none⟩ v)∧(dl PA pc (ppath xs a,op,n)).Ok (W3.setCell ⟨W.heap.size,0,none⟩ v):=by
 rw [World.size_alloc] at hB hs
 have hlt:=hH.lt _ _ _ h.j
 have hg:=h.hi
 have hlo:=h.lo
 have k4:Kept (· = W.heap.size) W3 (W3.setCell ⟨W.heap.size,0,none⟩ v):=(Kept.refl (· = W.heap.size) W3).setCell (p:=⟨W.heap.size,0,none⟩) (.inl rfl) v
 have kA:Kept (fun k=>k=g∨k=W.heap.size) W (W3.setCell ⟨W.heap.size,0,none⟩ v):=(((Kept.refl _ _).alloc o).trans (hk.mono fun k e=>.inl e)).trans (k4.mono fun k e=>.inr e)
 have hsz:=kA.size
 have hp4:∀ ad,PA=some ad→W.heap.size+1≤ad.block:=fun ad e=>Nat.le_trans hB (hr.2.2.2 ad e)
 refine⟨⟨?_,h.lo,by omega,h.no,?_,?_,?_⟩,⟨IRow.kept hr.2.2.1 k4 (fun ad e q=>by have:=hp4 ad e;omega),hl,hr.1,hr.2.1⟩⟩
 ·refine hH.stay _ _ _ _ h.j ((((Kept.refl _ _).alloc o).trans (hk.mono ?_)).setCell (.inr (Nat.le_refl _)) v)
  rintro k rfl
  exact⟨h.lo,h.no⟩
 ·refine(hs.kept k4 (by omega) ?_).mono ?_
  ·rintro i ⟨q | q,-⟩<;>omega
  ·rintro k - ⟨q | q,qB⟩
   ·exact⟨q.2.1,q.2.2.1,q.2.2.2,fun ad e z=>by have:=hr.2.2.2 ad e;omega⟩
   ·exact⟨by omega,by omega,fun z=>by have:=hlt.2 k z;omega,fun ad e z=>by have:=hr.2.2.2 ad e;omega⟩
 ·refine((h.row.mono fun k hk ht=>(⟨hk,ht⟩:k<W.heap.size∧B≤k∧k≠g∧¬ Φ k)).kept kA ?_).mono ?_
  ·rintro i ⟨q1,q2,q3,q4⟩ (z | z)<;>omega
  ·rintro k - ⟨q1,q2,q3,q4⟩
   exact⟨q2,q3,q4,fun ad e z=>by have:=hp4 ad e;omega⟩
 ·intro ad e
  have:=hp4 ad e
  exact⟨by omega,fun z=>by have:=hlt.2 _ z;omega,by omega⟩
theorem MM.took{PA:Option Addr}(h:MM B g A c xs a CA J L Φ PA W){L':List Mt}{Φ':Nat→Prop}{W':World}{m:Mt}(hj:J L' Φ' W')(hk:Kept (fun k=>k<B∨Φ k) W W')(hΦ:∀ k,Φ' k→Φ k∨W.heap.size≤k∨(m.1≠[]∧∃ ad,PA=some ad∧k=ad.block)):MI B g A c xs a CA J L' Φ' W':=by
 have hlo:=h.lo
 have hhi:=h.hi
 have hno:=h.no
 have key:∀ k,k<W.heap.size→(B≤k∧k≠g∧¬ Φ k∧∀ ad,PA=some ad→k≠ad.block)→B≤k∧k≠g∧¬ Φ' k:=by
  rintro k hk ⟨q1,q2,q3,q4⟩
  refine⟨q1,q2,fun z=>?_⟩
  rcases hΦ k z with z | z | ⟨-,ad,e,z⟩
  ·exact q3 z
  ·omega
  ·exact q4 ad e z
 refine⟨hj,h.lo,Nat.lt_of_lt_of_le h.hi hk.size,?_,.inr ?_,?_⟩
 ·intro z
  rcases hΦ g z with z | z | ⟨-,ad,e,z⟩
  ·exact hno z
  ·omega
  ·exact(h.pa ad e).2.2 z.symm
 ·refine((h.site.mono (T':=fun k=>(B≤k∧k≠g∧¬ Φ' k)∧¬ Φ k) fun k hk ht=>⟨key k hk ht,ht.2.2.1⟩).kept hk ?_ ?_).mono fun k _ ht=>ht.1
  ·rintro(z | z)
   ·omega
   ·exact hno z
  ·rintro i ⟨⟨q1,-,-⟩,q2⟩ (z | z)
   ·omega
   ·exact q2 z
 ·refine((h.row.mono (T':=fun k=>(B≤k∧k≠g∧¬ Φ' k)∧¬ Φ k) fun k hk ht=>⟨key k hk ht,ht.2.2.1⟩).kept hk ?_).mono fun k _ ht=>ht.1
  rintro i ⟨⟨q1,-,-⟩,q2⟩ (z | z)
  ·omega
  ·exact q2 z
end
theorem mupto_pre(xs:List Nd):∀ k m,mupto xs k <+: mupto xs (k+m)
 | k,0=>List.prefix_refl _
 | k,m+1=>(mupto_pre xs k m).trans (by rw [show k+(m+1)=(k+m)+1 from rfl,mupto_succ];exact List.prefix_append _ _)
theorem mupto_take{xs:List Nd}{a:Nat}(h:a<xs.length)(j:Nat):mupto xs a++(mat xs a).take j <+: msites xs:=by
 have h1:mupto xs a++(mat xs a).take j <+: mupto xs (a+1):=by
  rw [mupto_succ,List.prefix_append_right_inj]
  exact List.take_prefix _ _
 have h2:=mupto_pre xs (a+1) (xs.length-(a+1))
 rw [show a+1+(xs.length-(a+1))=xs.length by omega] at h2
 exact h1.trans h2
theorem mutants1_in(lp B Bb:Nat)(A:Option Addr)(c:Nat)(xs:List Nd)(J:List Mt→(Nat→Prop)→World→Prop)(W:World)(hw:Whole xs)(hl:xs.length≤1000000)(Φ₀:Nat→Prop)(h0:J [] Φ₀ W)(hH:MHeld B Bb A c xs J)(hY:MFeeds lp B (msites xs) J) :
    CallsIn Fence.wide 3 Tryz.prog 41 #[.func (.yield lp) #[] #[],.pointer (some ⟨Bb,0,none⟩)] W fun e W'=>(∃ v,e=.returned v)∧∃ Φ,J (msites xs) Φ W':=by
  obtain⟨hc,hBb,hx⟩:=hH.body _ _ _ h0
  have HPL:=Lib.hid (fun(a:Nat) (ha:a<xs.length)=>(leads_ppath hw ha).rng.2)
  have HCL:=Lib.hid (fun a:Nat=>(chs_row xs a).2.1)
  have hf1:Fence.wide.fn 42:=trivial
  have hf2:Fence.wide.fn 43:=trivial
  have HH:=Lib.hid hH
  have HY:=Lib.hid hY
  clear hY hx
  refine callsIn_of_wp Tryz.func41 rfl trivial ?_ rfl
  simp only [Tryz.ntmps41,List.size_toArray,List.length_cons,List.length_nil,Nat.reduceAdd,Nat.reduceSub,Array.replicate_succ,Array.replicate_zero,List.push_toArray,List.append_toArray,List.nil_append,List.cons_append]
  gi_wp2
  gi_loopw [9] (fun i wr=>∃ (a:Nat) (Φ:Nat→Prop),a≤xs.length∧i=.int .i64 a∧J (mupto xs a) Φ wr) (fun i _=>xs.length-(intOf i).toNat)
  case atStart=>exact⟨0,Φ₀,by omega,rfl,h0⟩
  case round =>
    obtain⟨a,Φ,ha,rfl,hJ⟩:=hrel
    obtain⟨hc,hBb,hx⟩:=HH.out.body _ _ _ hJ
    obtain⟨hlB,hΦ⟩:=HH.out.lt _ _ _ hJ
    by_cases hlt:a<xs.length
    · have i1 : (a : Int) < (xs.length : Int) := by omega
      have hb1:Below wr.heap.size wr (wr.alloc (.cells (scells A xs.length c a 0 0 (.slice none 0 0)) 106)):=(Below.refl _ _).alloc (Nat.le_refl _) _
      have bS:=Blk.new wr 106 (scells A xs.length c a 0 0 (.slice none 0 0))
      have hx1:=hx.below (hb1.mono hlB)
      have hc1:=(hb1.cell (p:=⟨Bb,0,none⟩) (by show Bb<_;omega)).trans hc
      have hs1:(wr.alloc (.cells (scells A xs.length c a 0 0 (.slice none 0 0)) 106)).heap.size=wr.heap.size+1:=World.size_alloc _ _
      have HC:=Lib.hid ((callsIn_wide (n:=2)).2 (Cat.Choices_anyF A c xs a (wr.alloc (.cells (scells A xs.length c a 0 0 (.slice none 0 0)) 106)) (by rw [hs1];intro i x h;obtain⟨ad,e,h1,h2⟩:=hx1 i x h;exact⟨ad,e,by omega,h2⟩) (by omega)))
      simp only [scells] at hc1 HC
      gi_wp2_with (gi_at_call 42;refine HC.out.mono ?_;rintro e w4 ⟨hb4,CA,cc,rfl,hcc,hCA,hcr,hcf⟩)
      have hI0:MI B wr.heap.size A c xs a CA J (mupto xs a) Φ w4:=by
        have k4:Kept (fun k=>wr.heap.size+1≤k) (wr.alloc (.cells (scells A xs.length c a 0 0 (.slice none 0 0)) 106)) w4:=Kept.of_below hb4 (Nat.le_refl _)
        have kA:=((Kept.refl (fun k=>B≤k∧¬ Φ k) wr).alloc (.cells (scells A xs.length c a 0 0 (.slice none 0 0)) 106)).below hb4
        have hz:=hb4.size
        rw [World.size_alloc] at hz
        refine⟨HH.out.stay _ _ _ _ hJ kA,hlB,by omega,fun q=>by have:=hΦ _ q;omega,.inl (Blk.below bS hb4 bS.lt),⟨hcr,fun _ ad e=>?_⟩⟩
        have:=hcf ad e
        rw [World.size_alloc] at this
        exact⟨by omega,by omega,fun q=>by have:=hΦ _ q;omega⟩
      have HI0:=Lib.hid hI0
      have hpl:(ppath xs a).length≤1000000:=by have:=HPL.out a hlt;omega
      generalize wr.heap.size=g at *
      clear hI0 hb4 hcr hcf bS hx1 hc1 hs1 HC hb1 hx hJ hΦ hlB hc
      gi_loopw [19] (fun i wr=>∃ (j:Nat) (Φ:Nat→Prop),j≤(chs xs a).length∧i=.int .i64 j∧MI B g A c xs a CA J (mupto xs a++(mat xs a).take j) Φ wr) (fun i _=>(chs xs a).length-(intOf i).toNat)
      case atStart=>exact⟨0,Φ,by omega,rfl,by rw [List.take_zero,List.append_nil];exact HI0.out⟩
      case round =>
        obtain⟨j,Φ,hj,rfl,hI⟩:=hrel
        by_cases hlt2:j<(chs xs a).length
        · obtain ⟨⟨op, n⟩, hbn⟩ : ∃ b, (chs xs a)[j]? = some b := ⟨_, List.getElem?_eq_getElem hlt2⟩
          have hst:mupto xs a++(mat xs a).take (j+1)=(mupto xs a++(mat xs a).take j)++[(ppath xs a,op,n)]:=by rw [mat_step hbn,List.append_assoc]
          have hpre:(mupto xs a++(mat xs a).take j)++[(ppath xs a,op,n)] <+: msites xs:=by rw [← hst];exact mupto_take hlt _
          have HST:=Lib.hid hst
          obtain⟨ad,P0,c0,rfl,hadb,-,k0,k1,k2⟩:=hI.row.1 j _ hbn
          simp only at k1 k2
          have hask:=hI.ask HH.out (.cells #[.slice P0 0 c0,.int .i64 op,.int .i64 n] 43)
          have HA:=Lib.hid ((callsIn_wide (n:=2)).2 (path_any g A c xs a _ _ hw hlt hl hpl hask.1 hask.2))
          have bX:=Blk.new wr 43 #[.slice P0 0 c0,.int .i64 op,.int .i64 n]
          have HX:=Lib.hid (fun W (hk:Kept (· = g) (wr.alloc (.cells #[.slice P0 0 c0,.int .i64 op,.int .i64 n] 43)) W)=>bX.kept hk (by have:=hI.hi;omega))
          have HI:=Lib.hid hI
          have HP:=Lib.hid hpre
          have hgx:g<wr.heap.size:=hI.hi
          generalize mupto xs a++(mat xs a).take j=L at *
          have i3:(j:Int)<((chs xs a).length:Int):=by omega
          have i4:(0:Int)≤(j:Int):=by omega
          have hcl:=HCL.out a
          clear hI hst hbn hask bX hpre hlt2
          gi_wp2_with (gi_at_call 43; refine HA.out.mono ?_; rintro e w5 ⟨hk5, PA, pc, B', hB', rfl, hr5, hs5⟩
                       have hb5:=HX.out _ hk5
                       have f5:=hb5.frozen 0
                       have c5:=hb5.cell 0
                       have hb6:=hb5.set 0 (.slice PA (ppath xs a).length pc)
                       have d0:=hb6.cell 0
                       have d1:=hb6.cell 1
                       have d2:=hb6.cell 2
                       have htold:=HI.out.told HH.out hpl hk5 hB' hr5 hs5 (.slice PA (ppath xs a).length pc) op n
                       have HT:=Lib.hid htold
                       have hYk:=HY.out L (ppath xs a,op,n) Φ PA pc _ htold.1.j htold.2 (fun _ ad e=>⟨(htold.1.pa ad e).1,(htold.1.pa ad e).2.1⟩) HP.out
                       obtain⟨fn,tmps,assign,body,hy,hR⟩:=hYk
                       change Sem.run Tryz.prog (Instr.yield lp #[.agg #[.slice PA (ppath xs a).length pc,.int .i64 op,.int .i64 n]]) _=_ at hy
                       clear hk5 hB' hr5 hs5 hb5 hb6 htold)
          refine hR.mono ?_
          rintro e w7 ⟨rfl,Φ',hJ',hK',hΦ'⟩
          have HI7:=Lib.hid (HT.out.1.took (m:=(ppath xs a,op,n)) hJ' hK' hΦ')
          clear hR hy hJ' hK' hΦ'
          gi_wp2
          go_roundw
          case rel=>exact⟨j+1,Φ',by omega,by go_num,by rw [HST.out];exact HI7.out⟩
          case measure=>simp [intOf];omega
        · obtain rfl : j = (chs xs a).length := by omega
          have i3:¬ ((chs xs a).length:Int)<((chs xs a).length:Int):=by omega
          rw [show(mat xs a).take (chs xs a).length=mat xs a by rw [← mat_len,List.take_length],← mupto_succ] at hI
          have HJ2:=Lib.hid hI.j
          clear hI
          gi_wp2
          go_roundw
          case rel=>exact⟨a+1,Φ,by omega,by go_num,HJ2.out⟩
          case measure=>simp [intOf];omega
    · obtain rfl : a = xs.length := by omega
      have i1:¬ (xs.length:Int)<(xs.length:Int):=by omega
      gi_wp2
      go_end0
      exact⟨⟨_,rfl⟩,Φ,hJ⟩
end Go.Proofs.YtodejloonfkkmaaGreat.Sites
namespace Go.Proofs.YtodejloonfkkmaaGreat.Sites
open Go.RowKit Go.Shelf Mem Arena Delta Path Cat Kinds RangeO
attribute [local go_sem] Oper.semAt_some
theorem yieldAt_of2{F:Fence}{P:Program}{l m:Nat}{fn:FuncId}{tmps:Array Value}{ps:Array Tmp}{assign body:Code}{D:Nat}{W:World}{args:Array Value}{R:Ending→World→Prop}{Go_:World→Prop}{St:Code→World→Prop}
  (hl:W.heap[l]? = some (.loop (recd fn tmps ps assign body D .ready none))) (hfn:F.fn fn) (hsz:args.size=ps.size)
  (h:assign.wpIn (F.inRound l) m P (Exit.then (fun a₁ W₁=>W₁.heap[l]? = some (.loop (recd fn tmps ps assign body D .ready none))∧∀ W₂,Kept (· = l) W₁ W₂→W₂.heap.size=W₁.heap.size→W₂.heap[l]? = some (.loop (recd fn tmps ps assign body D .busy none))→body.wpIn (F.inRound l) m P (outPost l (recd fn tmps ps assign body D .busy none) Go_ St) a₁ W₂) (fun _ _ _=>False))
   { tmps:=(ps.zip args).foldl (fun t (p,v)=>t.setIfInBounds p v) tmps,defers:=[] } W)
  (hgo:∀ W₁ W₂,Go_ W₁→Kept (· = l) W₁ W₂→W₂.heap[l]? = some (.loop (recd fn tmps ps assign body D .ready none))→R (.returned (.bool true)) W₂)
  (hst:∀ c W₁ W₂,St c W₁→Kept (· = l) W₁ W₂→W₂.heap[l]? = some (.loop (recd fn tmps ps assign body D .done (some c)))→R (.returned (.bool false)) W₂) :
  YieldAt F m P l args W R:=by
 have hy:=run_yield (P:=P) (args:=args) hl hsz
 refine⟨fn,_,assign,body,hy,roundIn_of_wpIn hfn (wpIn_mono h ?_)⟩
 rintro e a₁ W₁ hp
 cases e with
 | normal =>
  obtain⟨hl1,hbody⟩:=hp
  have hlt:l<W₁.heap.size:=(Array.getElem?_eq_some_iff.1 hl1).1
  refine⟨_,run_beginRound hl1 rfl,wpIn_mono (hbody _ (kept_putObj _ _ _) (by simp [World.putObj]) (World.putObj_heap_same hlt)) ?_⟩
  have fin:∀ (jump:Option Code) (W3:World),W3.heap[l]? = some (.loop (recd fn tmps ps assign body D .busy none)) →
    (Instr.endRound l jump).run P W3=.ok (.bool jump.isNone) (W3.putObj l (.loop (recd fn tmps ps assign body D (if jump.isNone then .ready else .done) jump))) ∧
    (W3.putObj l (.loop (recd fn tmps ps assign body D (if jump.isNone then .ready else .done) jump))).heap[l]? = some (.loop (recd fn tmps ps assign body D (if jump.isNone then .ready else .done) jump)):=fun jump W3 hl3 =>
   ⟨run_endRound (P:=P) jump hl3,World.putObj_heap_same (Array.getElem?_eq_some_iff.1 hl3).1⟩
  rintro e a3 W3 hp
  cases e with
  | normal=>exact⟨_,_,(fin none W3 hp.1).1,hgo _ _ hp.2 (kept_putObj _ _ _) (fin none W3 hp.1).2⟩
  | ret=>exact⟨_,_,(fin (some .ret) W3 hp.1).1,hst _ _ _ hp.2 (kept_putObj _ _ _) (fin (some .ret) W3 hp.1).2⟩
  | exit id=>exact⟨_,_,(fin (some (.exit id)) W3 hp.1).1,hst _ _ _ hp.2 (kept_putObj _ _ _) (fin (some (.exit id)) W3 hp.1).2⟩
  | goto t=>exact⟨_,_,(fin (some (.goto t)) W3 hp.1).1,hst _ _ _ hp.2 (kept_putObj _ _ _) (fin (some (.goto t)) W3 hp.1).2⟩
  | panic ch=>exact hp.elim
  | outgrown=>exact hp.elim
 | exit id=>exact hp.elim
 | goto t=>exact hp.elim
 | ret=>exact hp.elim
 | panic chain=>exact hp.elim
 | outgrown=>exact hp.elim
def MOwnF(w:World)(base:Nat)(v:Value)(L:List Mt)(Φ:Nat→Prop):Prop :=
 ∃ Y:List ((Option Addr×Nat)×Mt),Y.map (·.2)=L∧w.ownsRow base 43 3 v L.length (mcells Y)∧(∀ y∈Y,(dl y.1.1 y.1.2 y.2).Ok w∧(y.2.1≠[]→∀ ad,y.1.1=some ad→v.ownBlock≠some ad.block∧Φ ad.block))∧∀ k,v.ownBlock=some k→Φ k
theorem MOwnF.own{w:World}{base:Nat}{v:Value}{L:List Mt}{Φ:Nat→Prop}(h:MOwnF w base v L Φ):MOwn w base v L:=by
 obtain⟨Y,h1,h2,h3,-⟩:=h
 exact⟨Y,h1,h2,fun y hy=>⟨(h3 y hy).1,fun q ad e=>((h3 y hy).2 q ad e).1⟩⟩
theorem MOwnF.kept{S:Nat→Prop}{w w':World}{base:Nat}{v:Value}{L:List Mt}{Φ:Nat→Prop}(h:MOwnF w base v L Φ)(k:Kept S w w')(hS:∀ i,Φ i→¬ S i):MOwnF w' base v L Φ:=by
 obtain⟨Y,h1,h2,h3,h4⟩:=h
 refine⟨Y,h1,own_of_block h2 (fun i hi=>k.block i (h2.lt i hi).2 (hS _ (h4 i hi))),fun y hy=>⟨?_,(h3 y hy).2⟩,h4⟩
 obtain⟨k1,k2⟩:=h3 y hy
 refine⟨?_,k1.len,k1.cap,k1.none⟩
 by_cases hp:y.2.1=[]
 ·intro i x hx
  rw [show(dl y.1.1 y.1.2 y.2).p=y.2.1 from rfl,hp] at hx
  simp at hx
 ·exact IRow.kept k1.path k (fun ad e=>hS _ (k2 hp ad e).2)
theorem MOwnF.mono{w:World}{base:Nat}{v:Value}{L:List Mt}{Φ Φ':Nat→Prop}(h:MOwnF w base v L Φ)(hΦ:∀ k,Φ k→Φ' k):MOwnF w base v L Φ':=by
 obtain⟨Y,h1,h2,h3,h4⟩:=h
 exact⟨Y,h1,h2,fun y hy=>⟨(h3 y hy).1,fun q ad e=>⟨((h3 y hy).2 q ad e).1,hΦ _ ((h3 y hy).2 q ad e).2⟩⟩,fun k e=>hΦ k (h4 k e)⟩
theorem run_append_mtF(w:World)(ty:TypeId)(base:Nat)(hbase:base≤w.heap.size)(v:Value)(L:List Mt)(Φ:Nat→Prop)(hown:MOwnF w base v L Φ)(hlt:∀ k,Φ k→k<w.heap.size)
  (g:Nat) (z:Option Addr×Nat) (m:Mt) (hb:Blk w g 43 (mcell z m).toArray) (hlen:L.length+1≤100000000)
  (hok:(dl z.1 z.2 m).Ok w) (hne:m.1≠[]→∀ ad,z.1=some ad→¬ Φ ad.block) :
  ∃ v' w',(Builtin.append_ #[37,37] ty #[v,.slice (some ⟨g,0,none⟩) 1 1]).run Tryz.prog w=.ok v' w'∧w.grownBy w' v.ownBlock∧(v'.ownBlock=v.ownBlock∨v'.ownBlock=some w.heap.size) ∧
   MOwnF w' base v' (L++[m]) (fun k=>Φ k∨k=w.heap.size∧v'.ownBlock=some k∨m.1≠[]∧∃ ad,z.1=some ad∧k=ad.block):=by
 obtain⟨Y,hY,hO,hYok,hvΦ⟩:=hown
 obtain⟨ig,hig,hz0,hz1,hz2⟩:=info_parts info_delta
 obtain⟨v',w',hr,hown',hg,-,hat⟩:=run_append_own_at (P:=Tryz.prog) w base 37 ty 43 ig _ 3 40 Tryz.underlying37 hig hz0 hz1 hz2 rfl (by decide) v L.length (mcells Y) hO ⟨g,0,none⟩ 1 1 (mcell z m) rfl (by
  intro j u hu
  have:=hb.cell j
  rw [show(⟨g,0,none⟩:Addr).add j=⟨g,j,none⟩ by unfold Addr.add;split<;>simp_all]
  rw [this]
  simpa using hu) (by
  intro u hu
  unfold mcell at hu
  simp only [List.mem_cons,List.not_mem_nil,or_false] at hu
  rcases hu with rfl | rfl | rfl<;>rfl) (by simp only [maxLen];omega) (by omega) hbase
 refine⟨v',w',hr,hg,hat,Y++[(z,m)],by rw [List.map_append,hY];rfl,by rw [mcells_snoc,List.length_append];exact hown',fun y hy=>?_,fun k e=>?_⟩
 ·have key:(dl y.1.1 y.1.2 y.2).Ok w∧(y.2.1≠[]→∀ ad,y.1.1=some ad→v.ownBlock≠some ad.block∧(Φ ad.block∨m.1≠[]∧∃ ad',z.1=some ad'∧ad.block=ad'.block)):=by
   rcases List.mem_append.1 hy with hy | hy
   ·exact⟨(hYok y hy).1,fun q ad e=>⟨((hYok y hy).2 q ad e).1,.inl ((hYok y hy).2 q ad e).2⟩⟩
   ·rw [List.mem_singleton] at hy
    subst hy
    exact⟨hok,fun q ad e=>⟨fun e'=>hne q ad e (hvΦ _ e'),.inr ⟨q,ad,e,rfl⟩⟩⟩
  obtain⟨k1,k2⟩:=key
  refine⟨⟨irow_grown k1.path hg (fun hp ad e=>(k2 hp ad e).1),k1.len,k1.cap,k1.none⟩,fun hp ad e=>?_⟩
  have hΦ':=(k2 hp ad e).2
  refine⟨?_,hΦ'.imp_right .inr⟩
  rcases hat with q | q
  ·rw [q];exact(k2 hp ad e).1
  ·rw [q]
   intro zz
   have z':w.heap.size=ad.block:=Option.some.inj zz
   obtain⟨x0,r,hxr⟩:=ne_cons hp
   obtain⟨ad',e',hb',-⟩:=k1.path 0 x0 (by show y.2.1[0]? = some x0;rw [hxr];rfl)
   have e2:some ad=some ad':=e.symm.trans e'
   cases e2
   omega
 ·rcases hat with q | q
  ·exact .inl (hvΦ k (q▸e))
  ·exact .inr (.inl ⟨by rw [q] at e;exact(Option.some.inj e).symm,e⟩)
theorem append_mtIn{F:Fence}{nF:Nat}{w:World}{ops:Array Oper}{rest:List Oper}{o:Oper}{a:Act}{Q:Exit→Act→World→Prop}(hgd:o.guard=none)(s x:Operand)
  (ho:o.op=.call { callee:=.builtin .append,args:=#[s,x],argTypes:=#[37,37] })
  (base:Nat) (hbase:base≤w.heap.size) (v:Value) (L:List Mt) (Φ:Nat→Prop) (hs:a.eval s=v) (hown:MOwnF w base v L Φ) (hlt:∀ k,Φ k→k<w.heap.size)
  (g:Nat) (z:Option Addr×Nat) (m:Mt) (hx:a.eval x=.slice (some ⟨g,0,none⟩) 1 1) (hb:Blk w g 43 (mcell z m).toArray) (hlen:L.length+1≤100000000)
  (hok:(dl z.1 z.2 m).Ok w) (hne:m.1≠[]→∀ ad,z.1=some ad→¬ Φ ad.block)
  (h:∀ v' w',w.grownBy w' v.ownBlock→(v'.ownBlock=v.ownBlock∨v'.ownBlock=some w.heap.size)→MOwnF w' base v' (L++[m]) (fun k=>Φ k∨k=w.heap.size∧v'.ownBlock=some k∨m.1≠[]∧∃ ad,z.1=some ad∧k=ad.block)→wpListIn F nF Tryz.prog ops Q rest (a.put o.dst v') w') :
  wpListIn F nF Tryz.prog ops Q (o::rest) a w:=by
 obtain⟨v',w',hr,h1,h2,h3⟩:=run_append_mtF w o.type base hbase v L Φ hown hlt g z m hb hlen hok hne
 refine wpListIn_plain hgd fun K hK=>?_
 unfold Oper.wpIn
 refine⟨by simp [Oper.about,ho,resolve,Target.leads,Sem.run_pure],?_⟩
 rw [Oper.semAt_plain F _ _ (by rw [ho];intro c hc';cases hc')]
 simp [execOp,ho,resolve,invoke,builtin,hs,hx,hr,Result.andThen]
 exact hK _ _ (h v' w' h1 h2 h3)
theorem mutants_any(A:Option Addr)(k c:Nat)(w:World):Calls Tryz.prog 21 #[.slice A k c] w fun e w'=>e=.returned (.func (.func 41) #[] #[.pointer (some ⟨w.heap.size,0,none⟩)])∧w'=w.alloc (.cells #[.slice A k c] 23):=by
 go_enter Tryz.func21,Tryz.ntmps21
 go_wp2
 go_ret
 exact⟨rfl,rfl⟩
structure MJA (w:World) (ball Bb D:Nat) (B:Option Addr) (ce:Nat) (xs:List Nd) (pre:List Mt) (Φ:Nat→Prop) (W:World):Prop where
 mark:W.heap[D]? = some (.deferred (some []))
 cap:Blk W Bb 23 #[.slice B xs.length ce]
 below:Below w.heap.size w W
 size:D+2≤W.heap.size
 lt:∀ k,Φ k→D+2≤k∧k<W.heap.size
 all:∃ v,Blk W ball 37 #[v]∧MOwnF W (D+2) v pre Φ
theorem MJA.kept{w:World}{ball Bb D:Nat}{B:Option Addr}{ce:Nat}{xs:List Nd}{pre:List Mt}{Φ:Nat→Prop}{X Y:World}{S:Nat→Prop}(h:MJA w ball Bb D B ce xs pre Φ X)(k:Kept S X Y)(h1:ball<D)(h2:Bb<D)(h3:w.heap.size≤D)(hS:∀ i,S i→D<i∧¬ Φ i):MJA w ball Bb D B ce xs pre Φ Y:=by
 obtain⟨q1,q2,q3,q4,q5,v,q6,q7⟩:=h
 refine⟨(k.block _ (Array.getElem?_eq_some_iff.1 q1).1 (fun z=>by have:=hS _ z;omega)).trans q1,q2.kept k (fun z=>by have:=hS _ z;omega),q3.trans (k.to_below q3.size (fun i z=>by have:=hS _ z;omega)),Nat.le_trans q4 k.size,fun i z=>⟨(q5 i z).1,Nat.lt_of_lt_of_le (q5 i z).2 k.size⟩,v,q6.kept k (fun z=>by have:=hS _ z;omega),q7.kept k (fun i z y=>(hS i y).2 z)⟩
theorem MJA.step{w:World}{ball Bb D:Nat}{B:Option Addr}{ce:Nat}{xs:List Nd}{pre:List Mt}{Φ:Nat→Prop}{W W7:World}{v v7:Value}{o:Obj}{z:Option Addr×Nat}{m:Mt}
  (j1:W.heap[D]? = some (.deferred (some []))) (j2:Blk W Bb 23 #[.slice B xs.length ce]) (j3:Below w.heap.size w W) (j4:D+2≤W.heap.size) (j5:∀ k,Φ k→D+2≤k∧k<W.heap.size) (j6:Blk W ball 37 #[v])
  (h1:ball<D) (h2:Bb<D) (h3:w.heap.size≤ball) (h4:Bb≠ball) (hv:∀ k,v.ownBlock=some k→Φ k) (hm:m.1≠[]→∀ ad,z.1=some ad→D+2≤ad.block∧ad.block<W.heap.size)
  (hgr:(W.alloc o).grownBy W7 v.ownBlock) (hown:MOwnF W7 (D+2) v7 (pre++[m]) (fun k=>Φ k∨k=(W.alloc o).heap.size∧v7.ownBlock=some k∨m.1≠[]∧∃ ad,z.1=some ad∧k=ad.block)) :
  (W7.cell? ⟨ball,0,none⟩=some v∧W7.frozen? ⟨ball,0,none⟩=false)∧(∀ k,k<D+2→k≠ball→(W7.setCell ⟨ball,0,none⟩ v7).heap[k]? = W.heap[k]?)∧(∃ Φ',MJA w ball Bb D B ce xs (pre++[m]) Φ' (W7.setCell ⟨ball,0,none⟩ v7)∧Kept (fun k=>k<D+2∨Φ k) W (W7.setCell ⟨ball,0,none⟩ v7)∧∀ k,Φ' k→Φ k∨W.heap.size≤k∨(m.1≠[]∧∃ ad,z.1=some ad∧k=ad.block)):=by
 have hlt:=j6.lt
 have k7:Kept Φ W W7:=((Kept.refl _ _).alloc o).grown hgr (fun k e=>.inl (hv k e))
 have k78:Kept (· = ball) W7 (W7.setCell ⟨ball,0,none⟩ v7):=(Kept.refl (· = ball) W7).setCell (p:=⟨ball,0,none⟩) (.inl rfl) v7
 have k8:Kept (fun k=>k=ball∨Φ k) W (W7.setCell ⟨ball,0,none⟩ v7):=(k7.mono (fun k e=>.inr e)).trans (k78.mono (fun k e=>.inl e))
 have nb:¬ Φ ball:=fun q=>by have:=(j5 _ q).1;omega
 have b7:=j6.kept k7 nb
 have hs:=k8.size
 have hs1:(W.alloc o).heap.size=W.heap.size+1:=World.size_alloc _ _
 have hl7:∀ k,(Φ k∨k=(W.alloc o).heap.size∧v7.ownBlock=some k∨m.1≠[]∧∃ ad,z.1=some ad∧k=ad.block)→D+2≤k∧k<(W7.setCell ⟨ball,0,none⟩ v7).heap.size:=by
  rintro k (q | ⟨q,e⟩ | ⟨q,ad,e,rfl⟩)
  ·have:=j5 k q;omega
  ·have:=hown.own.lt k e
   have h9:(W7.setCell ⟨ball,0,none⟩ v7).heap.size=W7.heap.size:=by simp [World.setCell]
   omega
  ·have:=hm q ad e;omega
 refine⟨⟨b7.cell 0,b7.frozen 0⟩,fun k q1 q2=>k8.block k (by omega) (fun e=>e.elim q2 (fun z=>by have:=(j5 _ z).1;omega)),_,⟨(k8.block _ (Array.getElem?_eq_some_iff.1 j1).1 ?_).trans j1,j2.kept k8 ?_,j3.trans (k8.to_below j3.size ?_),by omega,hl7,v7,b7.set 0 v7,hown.kept k78 (fun i q e=>by have:=(hl7 i q).1;omega)⟩,k8.mono ?_,?_⟩
 ·rintro(e | e)
  ·omega
  ·have:=(j5 _ e).1;omega
 ·rintro(e | e)
  ·exact h4 e
  ·have:=(j5 _ e).1;omega
 ·rintro k (e | e)
  ·omega
  ·have:=(j5 _ e).1;have:=j3.size;omega
 ·rintro k (e | e)
  ·exact .inl (by omega)
  ·exact .inr e
 ·rintro k (q | ⟨q,-⟩ | q)
  ·exact .inl q
  ·exact .inr (.inl (by omega))
  ·exact .inr (.inr q)
theorem fold_15(t:Array Value)(x:Value):Array.foldl (fun t (x:Nat×Value)=>t.setIfInBounds x.1 x.2) t ((#[15]:Array Nat).zip #[x])=t.setIfInBounds 15 x:=by
 simp
theorem All_in(p:Prg)(w:World)(hp:p.Ok w):CallsIn Fence.wide 4 Tryz.prog 10 #[.agg #[.int .i64 p.ps,.slice p.A p.vs.length p.c,.slice p.B p.xs.length p.e]] w (MAll (pcheck p.ps p.vs p.xs) (msites p.xs) w):=by
 obtain⟨ps,A,c,vs,B,ce,xs⟩:=p
 simp only at *
 have hB1:Below w.heap.size w (w.alloc (.cells #[.int .i64 ps,.slice A vs.length c,.slice B xs.length ce] 25)):=(Below.refl _ _).alloc (Nat.le_refl _) _
 have bP:=Blk.new w 25 #[.int .i64 ps,.slice A vs.length c,.slice B xs.length ce]
 obtain⟨w1,hw1⟩:∃ w1,w.alloc (.cells #[.int .i64 ps,.slice A vs.length c,.slice B xs.length ce] 25)=w1:=⟨_,rfl⟩
 rw [hw1] at hB1 bP
 have HW1:=Lib.hid hw1
 have hp1:=hp.at hB1
 have HC:=Lib.hid ((callsIn_wide (n:=3)).2 (PCheck_any ⟨ps,A,c,vs,B,ce,xs⟩ w1 hp1))
 have HW:Hid (pcheck ps vs xs=0→Whole xs∧xs.length≤200):=Lib.hid pcheck_whole
 have HS1:=Lib.hid (fun W (h:Below w1.heap.size w1 W)=>(bP.below h bP.lt).three)
 obtain⟨p0,p1,p2⟩:=bP.three
 simp only at HC
 generalize pcheck ps vs xs=e9 at *
 have HXB:=Lib.hid hp.body
 have HB1:=Lib.hid hB1
 have hf1:Fence.wide.fn 20:=trivial
 have hf2:Fence.wide.fn 21:=trivial
 clear hw1 hp1 hp bP hB1
 by_cases h9:e9=0
 ·subst h9
  obtain⟨hw,hl⟩:=HW.out rfl
  clear HW
  refine callsIn_of_wp_marks Tryz.func10 rfl trivial ?_ rfl
  simp only [Tryz.ntmps10,List.size_toArray,List.length_cons,List.length_nil,Nat.reduceAdd,Nat.reduceSub,Array.replicate_succ,Array.replicate_zero,List.push_toArray,List.append_toArray,List.nil_append,List.cons_append]
  gi_wp2_with (first
   | (gi_at_call 20;rw [HW1.out];refine HC.out.mono ?_;rintro e w2 ⟨rfl,hb2⟩;obtain⟨p0,p1,p2⟩:=HS1.out _ hb2;have q2:=HS1.out _ (hb2.alloc hb2.size (.cells #[.slice none 0 0] 37)))
   | (gi_at_call 21;refine((callsIn_wide (n:=3)).2 (mutants_any B xs.length ce _)).mono ?_;rintro e w3 ⟨rfl,rfl⟩))
  have bR:=(Blk.new w2 37 #[.slice none 0 0]).alloc (.cells #[.slice B xs.length ce] 23)
  have bB:=Blk.new (w2.alloc (.cells #[.slice none 0 0] 37)) 23 #[.slice B xs.length ce]
  rw [World.size_alloc] at bB
  have hB2:=HB1.out.trans (hb2.mono HB1.out.size)
  have hB4:Below w.heap.size w ((w2.alloc (.cells #[.slice none 0 0] 37)).alloc (.cells #[.slice B xs.length ce] 23)):=(hB2.alloc hB2.size _).alloc (by have:=hB2.size;simp;omega) _
  have hs4:((w2.alloc (.cells #[.slice none 0 0] 37)).alloc (.cells #[.slice B xs.length ce] 23)).heap.size=w2.heap.size+2:=by simp
  have hw2:=hB2.size
  have HMJ:=Lib.hid (mupto_len xs xs.length)
  generalize ((w2.alloc (.cells #[.slice none 0 0] 37)).alloc (.cells #[.slice B xs.length ce] 23))=w4 at *
  clear p0 p1 p2 q2 hb2 hB2
  refine wpIn_rangeFunc_open rfl (by omega) (gf:=41) (fb:=#[]) (lb:=#[.pointer (some ⟨w2.heap.size+1,0,none⟩)]) rfl trivial (enters_of Tryz.func41 (by kernel_rfl) rfl)
   (fun W=>∃ Φ,MJA w w2.heap.size (w2.heap.size+1) w4.heap.size B ce xs (msites xs) Φ W) (fun _ _=>False) ?calls ?done ?stop
  case calls =>
   intro fn W hfn hbW hsW hD hL
   obtain⟨rec,hrec⟩:=recd_name hL
   simp only [← hrec] at hL ⊢
   have hh:∀ (pre:List Mt) (Φ:Nat→Prop) (X Y:World) (S:Nat→Prop),MJA w w2.heap.size (w2.heap.size+1) w4.heap.size B ce xs pre Φ X→Kept S X Y→(∀ i,S i→w4.heap.size<i∧¬ Φ i)→MJA w w2.heap.size (w2.heap.size+1) w4.heap.size B ce xs pre Φ Y:=fun pre Φ X Y S h k hS=>h.kept k (by omega) (by omega) (by omega) hS
   refine CallsIn.mono (mutants1_in (w4.heap.size+1) (w4.heap.size+2) (w2.heap.size+1) B ce xs (fun pre Φ W'=>W'.heap[w4.heap.size+1]? = some (.loop (rec .ready none))∧MJA w w2.heap.size (w2.heap.size+1) w4.heap.size B ce xs pre Φ W') W hw (by omega) (fun _=>False) ⟨hL,?h0⟩ ⟨?stay,?lt,?body⟩ ?hY) ?fin
   case h0 =>
    exact⟨hD,bB.below hbW (by omega),hB4.trans (hbW.mono hB4.size),by omega,fun k h=>h.elim,_,bR.below hbW (by omega),[],rfl,World.ownsRow_nil _ _ _ _,(fun y h=>by cases h),fun k h=>by cases h⟩
   case stay =>
    rintro pre Φ X Y ⟨h1,h2⟩ hk
    exact⟨(hk.block _ (Array.getElem?_eq_some_iff.1 h1).1 (by omega)).trans h1,hh _ _ _ _ _ h2 hk (fun i q=>⟨by omega,q.2⟩)⟩
   case lt=>exact fun pre Φ X h=>⟨h.2.size,fun k q=>(h.2.lt k q).2⟩
   case body =>
    rintro pre Φ X ⟨h1,h2⟩
    refine⟨h2.cap.cell 0,by omega,fun i x hx=>?_⟩
    obtain⟨ad,e,q1,q2⟩:=(HXB.out.below h2.below) i x hx
    exact⟨ad,e,by omega,q2⟩
   case fin =>
    rintro e W' ⟨⟨v,rfl⟩,Φ,h1,h2⟩
    exact⟨⟨_,rfl⟩,h2.mark,.inl ⟨h1,Φ,h2⟩⟩
   case hY =>
    rintro pre m Φ P c' W0 ⟨hl0,hJ⟩ hok hfar hpre
    rw [hrec] at hl0
    refine yieldAt_of2 hl0 hfn rfl (Go_:=fun W3=>∃ Φ',MJA w w2.heap.size (w2.heap.size+1) w4.heap.size B ce xs (pre++[m]) Φ' W3∧Kept (fun k=>k<w4.heap.size+2∨Φ k) W0 W3∧∀ k,Φ' k→Φ k∨W0.heap.size≤k∨(m.1≠[]∧∃ ad,P=some ad∧k=ad.block)) (St:=fun _ _=>False) ?_ ?ygo ?yst
    case ygo =>
     rintro W1 W2 ⟨Φ',h1,h2,h3⟩ hk hr
     exact⟨rfl,Φ',⟨by rw [hrec];exact hr,hh _ _ _ _ _ h1 hk (fun i q=>⟨by omega,fun z=>by have:=(h1.lt i z).1;omega⟩)⟩,h2.trans (hk.mono (fun k q=>.inl (by omega))),h3⟩
    case yst=>exact fun _ _ _ h=>h.elim
    rw [fold_15]
    simp only [List.setIfInBounds_toArray,List.set_cons_succ,List.set_cons_zero]
    have HS4:=Lib.hid hs4
    have hlp:w4.heap.size+1<W0.heap.size:=(Array.getElem?_eq_some_iff.1 hl0).1
    have HPL:Hid (pre.length+1≤100000000):=Lib.hid (by
     have h1:=hpre.length_le
     have h2:(msites xs).length≤xs.length*5:=HMJ.out
     rw [List.length_append,List.length_singleton] at h1
     omega)
    clear hs4 hpre hL hD hsW hB4 bR bB
    gi_wp2
    refine⟨(Below.heap_alloc _ _ _ (by omega)).trans hl0,?_⟩
    intro W2 hk2 hs2 hbusy
    generalize (recd fn _ _ _ _ _ LoopState.busy none)=busy at hbusy ⊢
    have kA:Kept (· = w4.heap.size+1) W0 W2:=((Kept.refl _ _).alloc _).trans hk2
    have hJ2:=hh _ _ _ _ _ hJ kA (fun i q=>⟨by omega,fun z=>by have:=(hJ.lt i z).1;omega⟩)
    have bX:=(Blk.new W0 43 #[.slice P m.1.length c',.int .i64 m.2.1,.int .i64 m.2.2]).kept hk2 (by omega)
    have hok2:(dl P c' m).Ok W2:=by
     refine⟨?_,hok.len,hok.cap,hok.none⟩
     by_cases hp:m.1=[]
     ·intro i x hx
      rw [show(dl P c' m).p=m.1 from rfl,hp] at hx
      simp at hx
     ·exact IRow.kept hok.path kA (fun ad e q=>by have:=(hfar hp ad e).1;omega)
    obtain⟨j1,j2,j3,j4,j5,v,j6,j7⟩:=hJ2
    have c0:W2.cell? ⟨w2.heap.size,0,none⟩=some v:=j6.cell 0
    have x0:=bX.cell 0
    have x1:=bX.cell 1
    have x2:=bX.cell 2
    have hO2:=j7.kept (((Kept.refl (fun _=>False) W2).alloc (.cells (mcell (P,c') m).toArray 43))) (fun i _ q=>q)
    have bL:=Blk.new W2 43 (mcell (P,c') m).toArray
    have hb1:Below W2.heap.size W2 (W2.alloc (.cells (mcell (P,c') m).toArray 43)):=(Below.refl _ _).alloc (Nat.le_refl _) _
    have hb9:w4.heap.size+2≤(W2.alloc (.cells (mcell (P,c') m).toArray 43)).heap.size:=Nat.le_trans j4 hb1.size
    have hl9:∀ k,Φ k→k<(W2.alloc (.cells (mcell (P,c') m).toArray 43)).heap.size:=fun k q=>Nat.lt_of_lt_of_le (j5 k q).2 hb1.size
    have hok9:=hok2.at hb1
    have hne:m.1≠[]→∀ ad,P=some ad→¬ Φ ad.block:=fun q ad e=>(hfar q ad e).2
    have hmb:m.1≠[]→∀ ad,(P,c').1=some ad→w4.heap.size+2≤ad.block∧ad.block<W2.heap.size:=fun q ad e=>by
     obtain⟨x,r,hx⟩:=ne_cons q
     obtain⟨ad',e',hb',-⟩:=hok2.path 0 x (by show m.1[0]? = some x;rw [hx];rfl)
     have e2:some ad=some ad':=e.symm.trans e'
     cases e2
     exact⟨(hfar q ad e).1,hb'⟩
    have HST:=Lib.hid (fun(v7:Value) (W7:World)=>MJA.step (pre:=pre) (W7:=W7) (v7:=v7) (z:=(P,c')) (m:=m) j1 j2 j3 j4 j5 j6 (by have:=HS4.out;omega) (by have:=HS4.out;omega) hw2 (by omega) j7.choose_spec.2.2.2 hmb (o:=.cells (mcell (P,c') m).toArray 43))
    clear hs2
    gi_wp2_with (gi_at_builtin;(refine append_mtIn rfl _ _ rfl (w4.heap.size+2) hb9 _ pre Φ rfl hO2 hl9 W2.heap.size (P,c') m rfl bL HPL.out hok9 hne ?_;intro v7 w7 hgr hat hown;obtain⟨⟨c7,f7⟩,hJ8⟩:=HST.out v7 w7 hgr hown;have HJ8:=Lib.hid hJ8;obtain⟨A7,k7,rfl,-⟩:=hown.own.mrow;clear hJ8 hown))
    have hJ8:=HJ8.out
    rw [show(pre++[m]).length=pre.length+1 by simp] at hJ8
    obtain⟨hq8,Φ8,hM8,hK8,hP8⟩:=hJ8
    refine⟨?_,Φ8,hM8,(kA.mono fun k e=>.inl (by omega)).trans hK8,fun k q=>?_⟩
    ·exact(hq8 _ (by omega) (by have:=HS4.out;omega)).trans hbusy
    ·rcases hP8 k q with z | z | z
     ·exact .inl z
     ·exact .inr (.inl (Nat.le_trans kA.size z))
     ·exact .inr (.inr z)
  case done =>
   rintro W W' ⟨Φ,hJ⟩ hk hD
   have hJ':=hJ.kept hk (by omega) (by omega) (by omega) (fun i q=>⟨by omega,fun z=>by have:=(hJ.lt i z).1;omega⟩)
   obtain⟨-,d1,hB,d2,d3,v,d4,d5⟩:=hJ'
   obtain⟨A7,c7,rfl,hl7,hA7,-⟩:=d5.own.mrow
   have c2:=d4.cell 0
   have hcz:(#[Value.slice A7 (msites xs).length c7]:Array Value)[0]? = some (.slice A7 (msites xs).length c7):=rfl
   rw [hcz] at c2
   have HB:=Lib.hid (hB.trans (belowK_b (w:=w) (Nat.le_refl _) _ w4.heap.size _ (.deferred none) (by omega) hD rfl rfl))
   have kD:=kept_putObj W' w4.heap.size (.deferred none)
   have HD5:=Lib.hid ((d5.kept kD (fun i q e=>by have:=(d3 i q).1;omega)).own.mrow)
   clear hJ hk hB d1 d2 d3 d4 d5 hcz
   gi_wp2
   refine⟨by simp,.inl ⟨_,_,rfl,run_takeDeferred hD,?_⟩⟩
   obtain⟨A8,c8,e8,q1,q2,q3⟩:=HD5.out
   cases e8
   exact⟨.tuple #[.slice A7 (msites xs).length c7,.int .i64 0],by simp [results,Tryz.results10,go_sem],HB.out,.inl ⟨rfl,A7,c7,rfl,q1,q2,q3⟩⟩
  case stop=>exact fun _ _ _ h=>h.elim
 ·have e0:(e9==0)=false:=by simpa using h9
  clear HW
  have H9:=Lib.hid h9
  clear h9
  refine callsIn_of_wp_marks Tryz.func10 rfl trivial ?_ rfl
  simp only [Tryz.ntmps10,List.size_toArray,List.length_cons,List.length_nil,Nat.reduceAdd,Nat.reduceSub,Array.replicate_succ,Array.replicate_zero,List.push_toArray,List.append_toArray,List.nil_append,List.cons_append]
  gi_wp2_with (first
   | (gi_at_call 20;rw [HW1.out];refine HC.out.mono ?_;rintro e w2 ⟨rfl,hb2⟩))
  exact⟨.tuple #[.slice none 0 0,.int .i64 e9],by simp [results,Tryz.results10,go_sem],HB1.out.trans (hb2.mono HB1.out.size),.inr ⟨H9.out,none,0,rfl⟩⟩
theorem PAll_any(p:Prg)(w:World)(hp:p.Ok w):Calls Tryz.prog 10 #[.agg #[.int .i64 p.ps,.slice p.A p.vs.length p.c,.slice p.B p.xs.length p.e]] w (MAll (pcheck p.ps p.vs p.xs) (msites p.xs) w) :=
 (callsIn_wide (n:=4)).1 (All_in p w hp)
end Go.Proofs.YtodejloonfkkmaaGreat.Sites
namespace Go.Proofs.YtodejloonfkkmaaGreat.Sites
open Go.RowKit Mem Arena Delta Path Cat Kinds
attribute [local go_sem ↓] Go.wp_at_zero Go.wp_at_succ
theorem mlet_isv(xs:List Nd)(q:List Int)(op n:Int):mlet xs q op n=isv xs (pfind xs q) op n:=by
 unfold mlet
 rcases find_cases xs q with e | ⟨a,m,x,e,-⟩
 ·rw [e]
  have:isv xs (-1) op n=false:=if_pos (by rcases aend_cases xs (-1) with q | ⟨k,m,q,-⟩;rw [q];decide;omega)
  rw [this];simp
 ·rw [e,decide_eq_true (by omega),Bool.true_and]
theorem PMutant_any(p:Prg)(d:Dlt)(w:World)(hp:p.Ok w)(hd:d.Ok w) :
  Calls Tryz.prog 11 #[.agg #[.int .i64 p.ps,.slice p.A p.vs.length p.c,.slice p.B p.xs.length p.e],.agg #[.slice d.A d.p.length d.c,.int .i64 d.op,.int .i64 d.n]] w (MEnds p d w):=by
 obtain⟨ps,VA,vc,vs,B,cap,xs⟩:=p
 obtain⟨DA,dc,dp,op,n⟩:=d
 have hX:=Boxes.mk' ps VA vc vs B xs cap DA dc dp op n w
 have HW:=Lib.hid (w3_is w ps VA vc vs B xs cap DA dc dp op n)
 generalize w3 w ps VA vc vs B xs cap DA dc dp op n=wz at *
 have HC:=Lib.hid (PCheck_any ⟨ps,VA,vc,vs,B,cap,xs⟩ wz (hp.at hX.b))
 have hlx:=hp.lx
 have hld:=hd.len
 have HF:=Lib.hid (fun W (h:Boxes ps VA vc vs B xs cap DA dc dp op n w W)=>Path.Find_any B cap xs DA dc dp W (hp.at h.b).body hlx (hd.at h.b).path hld)
 have HI:=Lib.hid (fun W (h:Boxes ps VA vc vs B xs cap DA dc dp op n w W)=>Cat.Is_any B cap xs (pfind xs dp) op n W (hp.at h.b).body (by have:=hlx;simp only at this;omega))
 rw [← mlet_isv] at HI
 have HAp:=Lib.hid (fun(h9:pcheck ps vs xs=0) (h0:mlet xs dp op n=true) W (h:Boxes ps VA vc vs B xs cap DA dc dp op n w W) =>
  have h1:mis ps vs xs dp op n=true:=by unfold mis;rw [decide_eq_true h9,h0];rfl
  (Apply_anyF ⟨ps,VA,vc,vs,B,cap,xs⟩ ⟨DA,dc,dp,op,n⟩ W (hp.at h.b) (hd.at h.b) (by have:=(mis_apply h1).2.1;show xs.length≤_;omega)).mono fun e w' q=>q.ok (mis_apply h1).1)
 have HV:=Lib.hid (fun(ad:Addr) (e:VA=some ad) (hv:vs≠[])=>show ad.block<w.heap.size from by
  obtain⟨x,r,hx⟩:=ne_cons hv
  obtain⟨ad',e',hb,-⟩:=hp.vars 0 x (by simp only [hx];rfl)
  simp only at e'
  rw [e] at e'
  cases e'
  exact hb)
 have HM:Hid (merr ps vs xs dp op n=if pcheck ps vs xs≠0 then pcheck ps vs xs else if mlet xs dp op n=true then 0 else 17):=Lib.hid rfl
 have HX:=Lib.hid hX
 unfold MEnds
 simp only at HC HF HI HAp ⊢
 obtain⟨⟨p0,p1,p2⟩,⟨d0,d1,d2⟩,⟨r0,r1,r2⟩,f0,f1,f2⟩:=hX.cells
 rw [HW.out] at p0 p1 p2 d0 d1 d2 r0 r1 r2 f0 f1 f2
 generalize anew xs dp op n=R at *
 generalize merr ps vs xs dp op n=E at *
 generalize mlet xs dp op n=b at *
 generalize pfind xs dp=k at *
 generalize pcheck ps vs xs=e9 at *
 clear hp hd hX hlx hld
 by_cases h9:e9=0
 ·subst h9
  have HAp:=Lib.hid (HAp.out rfl)
  cases b
  ·have HE:=Lib.hid (show E=17 by rw [HM.out];rfl)
   clear HAp
   go_enter Tryz.func11,Tryz.ntmps11
   go_wp2_with (first
    | (go_at_call 20;rw [← HW.out];refine HC.out.mono ?_;rintro e w1 ⟨rfl,hb1⟩;have hX1:=HX.out.below hb1;have hS:=hX1.cells)
    | fail)
   go_region_held3 (fun w'=>(w'.cell? ⟨w.heap.size,0,none⟩=some (.int .i64 ps)∧w'.cell? ⟨w.heap.size,1,none⟩=some (.slice VA vs.length vc)∧w'.cell? ⟨w.heap.size,2,none⟩=some (.slice B xs.length cap))∧(w'.cell? ⟨w.heap.size+1,0,none⟩=some (.slice DA dp.length dc)∧w'.cell? ⟨w.heap.size+1,1,none⟩=some (.int .i64 op)∧w'.cell? ⟨w.heap.size+1,2,none⟩=some (.int .i64 n))) (first | exact⟨hS.1,hS.2.1⟩ | exact⟨hS2.1,hS2.2.1⟩ | exact⟨hS3.1,hS3.2.1⟩) (first
    | (go_at_call 23;refine(HF.out _ hX1.drew).mono ?_;rintro e w2 ⟨rfl,hb2⟩;have hX2:=hX1.drew.below hb2;have hS2:=hX2.cells)
    | (go_at_call 22;refine(HI.out _ hX2).mono ?_;rintro e w3 ⟨rfl,hb3⟩;have hX3:=hX2.below hb3;have hS3:=hX3.cells))
   obtain⟨-,-,⟨r0,r1,r2⟩,f0,f1,f2⟩:=hS3
   go_wp2_with fail
   refine bodyPost_ret (v:=.tuple #[.agg #[.int .i64 0,.slice none 0 0,.slice none 0 0],.int .i64 17]) (by simp [results,Tryz.results11,go_sem,r0,r1,r2]) rfl ?_
   exact⟨hX3.stored _ _ _,.inr ⟨by rw [HE.out];decide,none,0,none,0,by rw [HE.out],nothing_ok _⟩⟩
  ·have HE:=Lib.hid (show E=0 by rw [HM.out];rfl)
   have HA2:=Lib.hid (HAp.out rfl)
   clear HAp
   go_enter Tryz.func11,Tryz.ntmps11
   go_wp2_with (first
    | (go_at_call 20;rw [← HW.out];refine HC.out.mono ?_;rintro e w1 ⟨rfl,hb1⟩;have hX1:=HX.out.below hb1;have hS:=hX1.cells)
    | fail)
   go_region_held3 (fun w'=>(w'.cell? ⟨w.heap.size,0,none⟩=some (.int .i64 ps)∧w'.cell? ⟨w.heap.size,1,none⟩=some (.slice VA vs.length vc)∧w'.cell? ⟨w.heap.size,2,none⟩=some (.slice B xs.length cap))∧(w'.cell? ⟨w.heap.size+1,0,none⟩=some (.slice DA dp.length dc)∧w'.cell? ⟨w.heap.size+1,1,none⟩=some (.int .i64 op)∧w'.cell? ⟨w.heap.size+1,2,none⟩=some (.int .i64 n))) (first | exact⟨hS.1,hS.2.1⟩ | exact⟨hS2.1,hS2.2.1⟩ | exact⟨hS3.1,hS3.2.1⟩) (first
    | (go_at_call 23;refine(HF.out _ hX1.drew).mono ?_;rintro e w2 ⟨rfl,hb2⟩;have hX2:=hX1.drew.below hb2;have hS2:=hX2.cells)
    | (go_at_call 22;refine(HI.out _ hX2).mono ?_;rintro e w3 ⟨rfl,hb3⟩;have hX3:=hX2.below hb3;have hS3:=hX3.cells))
   obtain⟨⟨p0,p1,p2⟩,⟨d0,d1,d2⟩,⟨r0,r1,r2⟩,f0,f1,f2⟩:=hS3
   go_wp2_with (first
    | (go_at_call 24;refine(HA2.out _ hX3).mono ?_;rintro e w4 ⟨hb4,A,c,B4,ce,rfl,hok,hfar⟩;have hX4:=hX3.below hb4;obtain⟨⟨p0,p1,p2⟩,⟨d0,d1,d2⟩,⟨r0,r1,r2⟩,f0,f1,f2⟩:=hX4.cells)
    | fail)
   refine bodyPost_ret (v:=.tuple #[.agg #[.int .i64 ps,.slice A vs.length c,.slice B4 R.length ce],.int .i64 0]) (by simp [results,Tryz.results11,go_sem,r0,r1,r2]) rfl ?_
   refine⟨hX4.stored _ _ _,.inl ⟨HE.out,A,c,B4,ce,rfl,?_,fun ad e=>(hfar ad e).imp_right (Nat.le_trans hX3.b.size)⟩⟩
   have hvf:vs≠[]→∀ ad,A=some ad→ad.block≠w.heap.size+1+1:=by
    intro hv ad e
    rcases hfar ad e with q | q
    ·have:=HV.out ad q hv
     omega
    ·have:=hX3.r.lt
     omega
   exact stored_ok hX4 hok.vars hvf hok.body hok.lv hok.lx hok.cv hok.ce hok.nv hok.nb
 ·have HE:=Lib.hid (show E=e9 by rw [HM.out,if_pos h9])
  have e0:(e9==0)=false:=by simpa using h9
  have H9:=Lib.hid h9
  clear h9
  go_enter Tryz.func11,Tryz.ntmps11
  go_wp2_with (first
   | (go_at_call 20;rw [← HW.out];refine HC.out.mono ?_;rintro e w1 ⟨rfl,hb1⟩;have hX1:=HX.out.below hb1;obtain⟨⟨p0,p1,p2⟩,⟨d0,d1,d2⟩,⟨r0,r1,r2⟩,f0,f1,f2⟩:=hX1.cells)
   | fail)
  refine bodyPost_ret (v:=.tuple #[.agg #[.int .i64 0,.slice none 0 0,.slice none 0 0],.int .i64 e9]) (by simp [results,Tryz.results11,go_sem,r0,r1,r2]) rfl ?_
  exact⟨hX1.stored _ _ _,.inr ⟨by rw [HE.out];exact H9.out,none,0,none,0,by rw [HE.out],nothing_ok _⟩⟩
end Go.Proofs.YtodejloonfkkmaaGreat.Sites
