/-
  Blocks of memory that are known whole, and what a call leaves as it was: all but the blocks of a given set, and what is new.
  Rows of bytes that a call owns: what one more byte does, and what they are as a string.
-/
import Derived.WalkKit
import Derived.Below
import Derived.RangeFuncBox
import Derived.Lib.Hide
import Derived.Deep.Draws
import Derived.Deep.MidRow
import Derived.Deep.WholeRow
import Derived.Test.YtekogckmgkodfaaGreatDoorRows
import Derived.OwnWalk
import Derived.Laws.BytesArg
import Derived.Maps.AppendAt
import Derived.Shelf.Abstract
namespace Go.Proofs.YtekogckmgkodfaaGreatDoor.Mem
open Go.RowKit
def Blk(w:World)(g:Nat)(t:TypeId)(cs:Array Value):Prop:=w.heap[g]? = some (.cells cs t (0,0))
section
variable {w w':World} {g:Nat} {t:TypeId} {cs:Array Value}
theorem Blk.lt(h:Blk w g t cs):g<w.heap.size:=(Array.getElem?_eq_some_iff.1 h).1
theorem Blk.cell(h:Blk w g t cs)(i:Nat):w.cell? ⟨g,i,none⟩=cs[i]? := cell_of_row w g i cs t _ h
theorem Blk.two{x y:Value}(h:Blk w g t #[x,y]):w.cell? ⟨g,0,none⟩=some x∧w.cell? ⟨g,1,none⟩=some y:=⟨h.cell 0,h.cell 1⟩
theorem Blk.three{x y z:Value}(h:Blk w g t #[x,y,z]):w.cell? ⟨g,0,none⟩=some x∧w.cell? ⟨g,1,none⟩=some y∧w.cell? ⟨g,2,none⟩=some z:=⟨h.cell 0,h.cell 1,h.cell 2⟩
theorem Blk.eight{x0 x1 x2 x3 x4 x5 x6 x7:Value}(h:Blk w g t #[x0,x1,x2,x3,x4,x5,x6,x7]):w.cell? ⟨g,0,none⟩=some x0∧w.cell? ⟨g,1,none⟩=some x1∧w.cell? ⟨g,2,none⟩=some x2∧w.cell? ⟨g,3,none⟩=some x3∧w.cell? ⟨g,4,none⟩=some x4∧w.cell? ⟨g,5,none⟩=some x5∧w.cell? ⟨g,6,none⟩=some x6∧w.cell? ⟨g,7,none⟩=some x7:=⟨h.cell 0,h.cell 1,h.cell 2,h.cell 3,h.cell 4,h.cell 5,h.cell 6,h.cell 7⟩
theorem Blk.frozen(h:Blk w g t cs)(i:Nat):w.frozen? ⟨g,i,none⟩=false:=by
 unfold Blk at h;simp [World.frozen?,h]
theorem Blk.new(w:World)(t:TypeId)(cs:Array Value):Blk (w.alloc (.cells cs t)) w.heap.size t cs:=heap_alloc_new w _
theorem Blk.alloc(h:Blk w g t cs)(o:Obj):Blk (w.alloc o) g t cs:=(Below.heap_alloc w o g h.lt).trans h
theorem Blk.set(h:Blk w g t cs)(i:Nat)(v:Value):Blk (w.setCell ⟨g,i,none⟩ v) g t (cs.setIfInBounds i v):=by
 unfold Blk at *
 rw [setCell_eq_setRow w g i cs t (0,0) v h]
 exact setRow_heap w g cs _ t (0,0) h
theorem Blk.apart(h:Blk w g t cs){p:Addr}(hne:g≠p.block)(v:Value):Blk (w.setCell p v) g t cs:=(Below.heap_setCell _ _ _ _ hne).trans h
theorem Blk.drew(h:Blk w g t cs):Blk w.drew g t cs:=h
theorem Blk.drewN(h:Blk w g t cs)(m:Nat):Blk (w.drewN m) g t cs:=h
theorem Blk.below{B:Nat}(h:Blk w g t cs)(hb:Below B w w')(hg:g<B):Blk w' g t cs:=(hb.block g hg).trans h
theorem Blk.grown{row:Option Nat}(h:Blk w g t cs)(hb:w.grownBy w' row)(hg:some g≠row):Blk w' g t cs:=(hb.block g h.lt hg).trans h
end
structure Kept (S:Nat→Prop) (w w':World):Prop where
 os:w'.os=w.os
 tape:w'.tape=w.tape
 output:w'.output=w.output
 size:w.heap.size≤w'.heap.size
 block:∀ k,k<w.heap.size→¬ S k→w'.heap[k]? = w.heap[k]?
section
variable {S S':Nat→Prop} {a w w':World}
theorem Kept.refl(S:Nat→Prop)(w:World):Kept S w w:=⟨rfl,rfl,rfl,Nat.le_refl _,fun _ _ _=>rfl⟩
theorem Kept.then(h:Kept S a w)(k:Kept S' w w')(hs:∀ i,S' i→S i∨a.heap.size≤i):Kept S a w' :=
 ⟨k.os.trans h.os,k.tape.trans h.tape,k.output.trans h.output,Nat.le_trans h.size k.size,fun i hi hn =>
  (k.block i (Nat.lt_of_lt_of_le hi h.size) (fun e=>by rcases hs i e with q | q;exact hn q;omega)).trans (h.block i hi hn)⟩
theorem Kept.trans(h:Kept S a w)(k:Kept S w w'):Kept S a w':=h.then k (fun _ q=>.inl q)
theorem Kept.mono(h:Kept S w w')(hs:∀ i,S i→S' i):Kept S' w w':=⟨h.os,h.tape,h.output,h.size,fun i hi hn=>h.block i hi (fun e=>hn (hs i e))⟩
theorem Kept.of_below{B:Nat}(h:Below B w w')(hB:w.heap.size≤B):Kept S w w':=⟨h.os,h.tape,h.output,h.size,fun i hi _=>h.block i (by omega)⟩
theorem Kept.below(h:Kept S a w)(hb:Below w.heap.size w w'):Kept S a w':=h.trans (.of_below hb (Nat.le_refl _))
theorem Kept.alloc(h:Kept S a w)(o:Obj):Kept S a (w.alloc o):=h.below ((Below.refl _ _).alloc (Nat.le_refl _) o)
theorem Kept.drew(h:Kept S a w):Kept S a w.drew:=⟨h.os,h.tape,h.output,h.size,h.block⟩
theorem Kept.drewN(h:Kept S a w)(m:Nat):Kept S a (w.drewN m):=⟨h.os,h.tape,h.output,h.size,h.block⟩
theorem Kept.setCell(h:Kept S a w){p:Addr}(hp:S p.block∨a.heap.size≤p.block)(v:Value):Kept S a (w.setCell p v) :=
 ⟨h.os,h.tape,h.output,by simpa [World.setCell] using h.size,fun i hi hn=>(Below.heap_setCell _ _ _ _ (fun e=>by
  subst e;rcases hp with q | q;exact hn q;omega)).trans (h.block i hi hn)⟩
theorem Kept.grown{row:Option Nat}(h:Kept S a w)(hg:w.grownBy w' row)(hr:∀ k,row=some k→S k∨a.heap.size≤k):Kept S a w' :=
 ⟨hg.os.trans h.os,hg.tape.trans h.tape,hg.output.trans h.output,Nat.le_trans h.size hg.size,fun i hi hn =>
  (hg.block i (Nat.lt_of_lt_of_le hi h.size) (fun e=>by rcases hr i e.symm with q | q;exact hn q;omega)).trans (h.block i hi hn)⟩
theorem Kept.to_below{B:Nat}(h:Kept S w w')(hB:B≤w.heap.size)(hs:∀ k,S k→B≤k):Below B w w' :=
 ⟨h.os,h.tape,h.output,h.size,fun k hk=>h.block k (by omega) (fun e=>by have:=hs k e;omega)⟩
theorem Kept.after{B:Nat}(hb:Below B a w)(h:Kept S w w')(hB:a.heap.size≤B)(hs:∀ k,S k→S' k∨a.heap.size≤k):Kept S' a w' :=
 (Kept.of_below (S:=S') hb hB).then h hs
theorem Kept.fresh{B:Nat}(hb:Below B a w)(h:Kept S w w')(hB:B≤w.heap.size)(hs:∀ k,S k→B≤k):Below B a w':=hb.trans (h.to_below hB hs)
theorem Blk.kept{g:Nat}{t:TypeId}{cs:Array Value}(h:Blk w g t cs)(k:Kept S w w')(hn:¬ S g):Blk w' g t cs:=(k.block g h.lt hn).trans h
theorem Kept.cell(h:Kept S w w'){p:Addr}(hp:p.block<w.heap.size)(hn:¬ S p.block):w'.cell? p=w.cell? p:=World.cell?_of_block (h.block _ hp hn)
end
theorem below2{w w1 w2:World}(h1:Below w.heap.size w w1)(h2:Below w1.heap.size w1 w2):Below w.heap.size w w2:=h1.trans (h2.mono h1.size)
theorem belowN{B:Nat}{a w:World}(h:Below B a w)(m:Nat):Below B a (w.drewN m):=⟨h.os,h.tape,h.output,h.size,h.block⟩
end Go.Proofs.YtekogckmgkodfaaGreatDoor.Mem
namespace Go.Proofs.YtekogckmgkodfaaGreatDoor.Bytes
open Go.RowKit
theorem info_u8:(Tryz.prog.info? 5).map (fun i=>(i.zero,i.size,i.bytes))=some (some (.int .u8 0),1,1):=by kernel_rfl
def nums(l:List UInt8):List Int:=l.map fun b=>(b.toNat:Int)
theorem nums_len(l:List UInt8):(nums l).length=l.length:=by simp [nums]
theorem nums_append(a b:List UInt8):nums (a++b)=nums a++nums b:=by simp [nums]
theorem str_nums(l:List UInt8):strOfNums (nums l)=⟨l.toArray⟩:=by
 unfold strOfNums nums
 congr 2
 rw [List.map_map]
 conv=>rhs;rw [← List.map_id l]
 apply List.map_congr_left
 intro b _
 simp
def bcells(l:List UInt8):List Value:=(nums l).map (Value.int .u8)
theorem bcells_len(l:List UInt8):(bcells l).length=l.length:=by simp [bcells,nums]
theorem bcells_snoc(l:List UInt8)(b:UInt8):bcells (l++[b])=bcells l++[.int .u8 (b.toNat:Int)]:=by simp [bcells,nums]
theorem conv_owned(W:World)(base:Nat)(v:Value)(l:List UInt8)(hrow:W.ownsRow base 5 1 v l.length (bcells l)) :
  (convert 87 9 v).run Tryz.prog W=.ok (.string ⟨l.toArray⟩) W:=by
 cases l with
 | nil =>
  obtain⟨-,h | ⟨g,cap,cur,hv,hg,hh,r⟩⟩:=hrow
  ·obtain⟨rfl,_⟩:=h
   exact run_convert_bytes_nil W _ _ Tryz.underlying87 Tryz.underlying5 0 0 _ Tryz.underlying9
  ·subst hv
   have:=run_convert_bytes_arg (P:=Tryz.prog) W 87 5 Tryz.underlying87 Tryz.underlying5 g 0 0 cap [] rfl (fun i hi=>by omega) 9 Tryz.underlying9
   exact this
 | cons b t =>
  obtain⟨g,cap,rfl⟩:=ownsRow_succ (k:=t.length) hrow
  rw [← str_nums]
  refine run_convert_bytes_arg W _ _ Tryz.underlying87 Tryz.underlying5 g 0 _ cap (nums (b::t)) (nums_len _) (fun i hi=>?_) _ Tryz.underlying9
  have hi':i<(nums (b::t)).length:=by rw [nums_len];exact hi
  have:=hrow.cells (g:=g) rfl i (.int .u8 ((nums (b::t)).getD i 0)) (by simp [bcells,List.getElem?_eq_getElem hi'])
  unfold Addr.add at this
  split at this
  ·rename_i h;subst h;simpa using this
  ·simpa using this
end Go.Proofs.YtekogckmgkodfaaGreatDoor.Bytes
