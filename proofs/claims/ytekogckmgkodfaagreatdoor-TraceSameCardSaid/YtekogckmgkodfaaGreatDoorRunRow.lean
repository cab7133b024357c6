/-
  Events in memory, a run as a value; the reference, walked: are events alike.
-/
import Derived.Test.YtekogckmgkodfaaGreatDoorArenaH
import Derived.Deep.QuietTactic
set_option linter.unusedVariables false
namespace Go.Proofs.YtekogckmgkodfaaGreatDoor.Mach
open Go.RowKit Mem Arena
attribute [local go_sem ↓] Go.wp_at_zero Go.wp_at_succ
def ecell(e:Int×Int×Int):List Value:=[.int .i64 e.1,.int .i64 e.2.1,.int .i64 e.2.2]
def ecells(l:List (Int×Int×Int)):List Value:=l.flatMap ecell
theorem ecells_snoc(l:List (Int×Int×Int))(e:Int×Int×Int):ecells (l++[e])=ecells l++ecell e:=by simp [ecells]
def ERow(w:World)(B:Nat)(A:Option Addr)(l:List (Int×Int×Int)):Prop :=
 ∀ (i:Nat) (e:Int×Int×Int),l[i]? = some e→∃ ad,A=some ad∧ad.block<B∧w.cell? (ad.add (i*3))=some (.int .i64 e.1) ∧
  w.cell? ⟨(ad.add (i*3)).block,(ad.add (i*3)).off+1,none⟩=some (.int .i64 e.2.1)∧w.cell? ⟨(ad.add (i*3)).block,(ad.add (i*3)).off+2,none⟩=some (.int .i64 e.2.2)
theorem ERow.below{w w':World}{B:Nat}{A:Option Addr}{l:List (Int×Int×Int)}(h:ERow w B A l)(hb:Below B w w'):ERow w' B A l:=by
 intro i b hi
 obtain⟨ad,e,h1,h3,h4,h5⟩:=h i b hi
 have hk:=hb.block (ad.add (i*3)).block (by rw [add_blockN];exact h1)
 refine⟨ad,e,h1,?_,?_,?_⟩
 ·rw [← h3];unfold World.cell?;rw [hk]
 ·rw [← h4];unfold World.cell?;rw [hk]
 ·rw [← h5];unfold World.cell?;rw [hk]
theorem ERow.at{w w':World}{A:Option Addr}{l:List (Int×Int×Int)}(h:ERow w w.heap.size A l)(hb:Below w.heap.size w w'):ERow w' w'.heap.size A l:=by
 intro i b hi
 obtain⟨ad,e,h1,r⟩:=(h.below hb) i b hi
 exact⟨ad,e,Nat.lt_of_lt_of_le h1 hb.size,r⟩
theorem ERow.nil(w:World)(B:Nat)(A:Option Addr):ERow w B A []:=fun i e h=>by simp at h
theorem ERow.take{w:World}{B:Nat}{A:Option Addr}{l:List (Int×Int×Int)}(h:ERow w B A l)(n:Nat):ERow w B A (l.take n):=fun i e hi=>by
 rw [List.getElem?_take] at hi
 split at hi
 ·exact h i e hi
 ·cases hi
theorem ecells_get:∀ (l:List (Int×Int×Int)) (i:Nat) (e:Int×Int×Int),l[i]? = some e→(ecells l)[i*3]? = some (.int .i64 e.1)∧(ecells l)[i*3+1]? = some (.int .i64 e.2.1)∧(ecells l)[i*3+2]? = some (.int .i64 e.2.2)
 | [],i,e,h=>by simp at h
 | x::l,0,e,h=>by
  obtain rfl:x=e:=by simpa using h
  exact⟨rfl,rfl,rfl⟩
 | x::l,i+1,e,h=>by
  have ih:=ecells_get l i e (by simpa using h)
  have hc:ecells (x::l)=ecell x++ecells l:=rfl
  have hl:(ecell x).length=3:=rfl
  rw [hc]
  refine⟨?_,?_,?_⟩
  ·rw [List.getElem?_append_right (by omega),hl,show(i+1)*3-3=i*3 by omega];exact ih.1
  ·rw [List.getElem?_append_right (by omega),hl,show(i+1)*3+1-3=i*3+1 by omega];exact ih.2.1
  ·rw [List.getElem?_append_right (by omega),hl,show(i+1)*3+2-3=i*3+2 by omega];exact ih.2.2
theorem own_events{w:World}{base:Nat}{v:Value}{l:List (Int×Int×Int)}(h:w.ownsRow base 95 3 v l.length (ecells l)) :
  ∃ A c,v=.slice A l.length c∧l.length≤c∧(A=none→c=0)∧ERow w w.heap.size A l∧∀ ad,A=some ad→base≤ad.block:=by
 have hc:=fun g hg=>h.cells (g:=g) hg
 rcases h.2 with⟨rfl,h0⟩ | ⟨g,cap,cur,rfl,hb,hg,hn,-⟩
 ·obtain rfl:=List.length_eq_zero_iff.1 h0
  exact⟨none,0,rfl,Nat.le_refl _,fun _=>rfl,ERow.nil _ _ _,fun ad e=>by cases e⟩
 ·refine⟨_,_,rfl,hn,fun e=>by simp at e,fun i x hx=>⟨_,rfl,(Array.getElem?_eq_some_iff.1 hg).1,?_,?_,?_⟩,fun ad e=>by cases e;exact hb⟩
  ·exact hc g rfl _ _ (ecells_get l i x hx).1
  ·have:=hc g rfl _ _ (ecells_get l i x hx).2.1
   rw [add_off _ _ (by omega)] at this
   rw [← this]
   congr 1
   rcases Nat.eq_zero_or_pos i with rfl | hi
   ·simp [Addr.add]
   ·rw [add_off _ _ (by omega)];simp
  ·have:=hc g rfl _ _ (ecells_get l i x hx).2.2
   rw [add_off _ _ (by omega)] at this
   rw [← this]
   congr 1
   rcases Nat.eq_zero_or_pos i with rfl | hi
   ·simp [Addr.add]
   ·rw [add_off _ _ (by omega)];simp
structure Rn where
 k:Int
 v:Int
 st:Int
 A:Option Addr
 c:Nat
 ev:List (Int×Int×Int)
def Rn.val(r:Rn):Value:=.agg #[.int .i64 r.k,.int .i64 r.v,.int .i64 r.st,.slice r.A r.ev.length r.c]
structure Rn.Ok (r:Rn) (w:World):Prop where
 row:ERow w w.heap.size r.A r.ev
 cap:r.ev.length≤r.c
 none:r.A=none→r.c=0
 len:r.ev.length≤1000000
theorem Rn.Ok.at{r:Rn}{w w':World}(h:r.Ok w)(hb:Below w.heap.size w w'):r.Ok w':=⟨h.row.at hb,h.cap,h.none,h.len⟩
def Rn.zero:Rn:=⟨0,0,0,none,0,[]⟩
theorem Rn.zero_ok(w:World):Rn.zero.Ok w:=⟨ERow.nil _ _ _,Nat.le_refl _,fun _=>rfl,by decide⟩
def Rn.same(r q:Rn):Bool:=decide (r.ev=q.ev) && (decide (r.k=q.k∧r.v=q.v) && decide (r.st=q.st))
theorem Rn.same_iff{r q:Rn}:r.same q=true↔r.ev=q.ev∧r.k=q.k∧r.v=q.v∧r.st=q.st:=by
 unfold Rn.same
 rw [Bool.and_eq_true,Bool.and_eq_true,decide_eq_true_eq,decide_eq_true_eq,decide_eq_true_eq]
 exact⟨fun h=>⟨h.1,h.2.1.1,h.2.1.2,h.2.2⟩,fun h=>⟨h.1,⟨h.2.1,h.2.2.1⟩,h.2.2.2⟩⟩
end Go.Proofs.YtekogckmgkodfaaGreatDoor.Mach
