/-
  A region that draws its order and ends by what writes the cells that it loads: its loads are taken first, in every world that meets a condition, which is not asked any more once a given operation has come up. (The library's laws on such regions, with that left out of the condition.)
-/
import Derived.Deep.RegionHeld3
import Derived.Test.YtekogckmgkodfaaGreatDoorRows
set_option linter.unusedVariables false
namespace Go.Proofs.YtekogckmgkodfaaGreatDoor.OrdU
open Go
section
variable {P:Program} {ops:Array Oper} {Q:Exit→Act→World→Prop} {md:Region.Mode} {S:World→Prop} {m:Nat}
def wpAnyU(P:Program)(md:Region.Mode)(ops:Array Oper)(Q:Exit→Act→World→Prop)(S:World→Prop)(m:Nat):Nat→Array Bool→Act→World→Prop
 | 0,listed,a,w=>Region.ready md ops listed=[]∧Q .normal a w
 | fuel+1,listed,a,w =>
  (Region.ready md ops listed=[]→Q .normal a w) ∧
  ∀ i∈Region.ready md ops listed,wpOp P ops Q i (fun a' w'=>((listed.setIfInBounds i true).getD m true=false→S w')∧wpAnyU P md ops Q S m fuel (listed.setIfInBounds i true) a' w') a w
theorem wpAny_of_U:∀ (fuel:Nat) (listed:Array Bool) (a:Act) (w:World),wpAnyU P md ops Q S m fuel listed a w→wpAny P md ops Q fuel listed a w
 | 0,_,_,_,h=>h
 | fuel+1,_,_,_,h=>⟨h.1,fun i hi=>wpOp_mono (fun a' w' h'=>wpAny_of_U fuel _ a' w' h'.2) (h.2 i hi)⟩
def depOf(md:Region.Mode)(ops:Array Oper)(i:Nat):List Nat :=
 (List.range ops.size).foldl (fun D j=>if(ops[j]?.map fun o=>o.after.any fun e=>Region.binds md e && (e.on==i || D.contains e.on))==some true then j::D else D) []
def okD(md:Region.Mode)(ops:Array Oper)(m i:Nat)(D:List Nat)(listed:Array Bool):Bool :=
 D.contains m && D.all fun d=>(listed.getD d true==false) && ((ops[d]?.map fun o=>o.after.any fun e=>Region.binds md e && (e.on==i || D.contains e.on))==some true)
theorem okD_spec{i:Nat}{D:List Nat}{listed:Array Bool}(h:okD md ops m i D listed=true):m∈D∧∀ d∈D,listed.getD d true=false∧∃ o e,ops[d]? = some o∧e∈o.after∧Region.binds md e=true∧(e.on=i∨e.on∈D):=by
 unfold okD at h
 rw [Bool.and_eq_true,List.all_eq_true] at h
 refine⟨by simpa using h.1,fun d hd=>?_⟩
 have h2:=h.2 d hd
 rw [Bool.and_eq_true,beq_iff_eq] at h2
 refine⟨h2.1,?_⟩
 have h3:=h2.2
 cases ho:ops[d]? with
 | none=>rw [ho] at h3;cases h3
 | some o =>
  rw [ho] at h3
  have h3:(o.after.any fun e=>Region.binds md e && (e.on==i || D.contains e.on))=true:=by simpa using h3
  rw [Array.any_eq_true] at h3
  obtain⟨k,hk,h1⟩:=h3
  rw [Bool.and_eq_true,Bool.or_eq_true,beq_iff_eq] at h1
  exact⟨o,o.after[k],rfl,Array.getElem_mem hk,h1.1,h1.2.imp id (fun z=>by simpa using z)⟩
theorem okD_set{i j:Nat}{D:List Nat}{listed:Array Bool}(h:okD md ops m i D listed=true)(hj:j∉D):okD md ops m i D (listed.setIfInBounds j true)=true:=by
 unfold okD at h ⊢
 rw [Bool.and_eq_true,List.all_eq_true] at h ⊢
 refine⟨h.1,fun d hd=>?_⟩
 rw [getD_set_ne true (show j≠d from fun e=>hj (e▸hd))]
 exact h.2 d hd
theorem wpAnyU_first{i:Nat}{oi:Oper}{v:Value}(hi:ops[i]? = some oi)(hsel:∀ (j:Nat) (o:Oper) cs b,ops[j]? = some o→o.op≠.select cs b)
  (hQ:∀ c a w,Q (.panic c) (a.put oi.dst v) w→Q (.panic c) a w) {D:List Nat} (him:i≠m) :
  ∀ (fuel:Nat) (listed:Array Bool) (a:Act) (w:World),
   okD md ops m i D listed=true→(∀ j oj,ops[j]? = some oj→j≠i→listed.getD j true=false→(∀ e∈oj.after,Region.binds md e=true→e.on≠i)→oi.apart ops oj=true) →
   i∈Region.ready md ops listed→YieldsIf P ops S oi v a→S w →
   wpAnyU P md ops Q S m fuel (listed.setIfInBounds i true) (a.put oi.dst v) w→wpAnyU P md ops Q S m (fuel+1) listed a w:=by
 intro fuel
 induction fuel with
 | zero =>
  intro listed a w _ _ hr hy hS H
  refine⟨fun h=>(by rw [h] at hr;cases hr),fun j hj=>?_⟩
  by_cases hji:j=i
  ·subst hji;exact hy.wpOp hi hS ⟨fun _=>hS,H⟩
  ·have:=ready_mono hj hji
   rw [H.1] at this
   cases this
 | succ fuel ih =>
  intro listed a w hlm hfree hr hy hS H
  refine⟨fun h=>(by rw [h] at hr;cases hr),fun j hj=>?_⟩
  by_cases hji:j=i
  ·subst hji;exact hy.wpOp hi hS ⟨fun _=>hS,H⟩
  ·have h1:=H.2 j (ready_mono hj hji)
   obtain⟨hjun,oj,hoj,hall⟩:=mem_ready.1 hj
   have hnot:∀ e∈oj.after,Region.binds md e=true→e.on≠i:=fun e he hb heq=>by
    have h1:=hall e he hb
    have h0:=(mem_ready.1 hr).1
    rw [heq] at h1
    rcases Nat.lt_or_ge i listed.size with h' | h'
    ·simp [h'] at h0 h1;rw [h0] at h1;cases h1
    ·simp [Array.getElem?_eq_none h'] at h1
   obtain⟨hmD,hD⟩:=okD_spec hlm
   have hjD:j∉D:=fun hd=>by
    obtain⟨-,o,e,w1,w2,w3,w4⟩:=hD j hd
    rw [w1] at hoj
    have:=Option.some.inj hoj
    subst this
    rcases w4 with w4 | w4
    ·exact hnot e w2 w3 w4
    ·have q1:=hall e w2 w3
     have q2:=(hD e.on w4).1
     rcases Nat.lt_or_ge e.on listed.size with h' | h'
     ·simp [h'] at q1 q2;rw [q2] at q1;cases q1
     ·simp [Array.getElem?_eq_none h'] at q1
   have hjm:j≠m:=fun e=>hjD (e▸hmD)
   have hlmm:listed.getD m true=false:=(hD m hmD).1
   have h2:=wpOp_putIf hoj (hfree j oj hoj hji hjun hnot) (fun cs b=>hsel i oi cs b hi) (fun cs b=>hsel j oj cs b hoj) hQ hy h1
   have hfree':∀ k ok,ops[k]? = some ok→k≠i→(listed.setIfInBounds j true).getD k true=false →
     (∀ e∈ok.after,Region.binds md e=true→e.on≠i)→oi.apart ops ok=true:=fun k ok hk hki hun hno=>by
    refine hfree k ok hk hki ?_ hno
    by_cases hjk:j=k
    ·subst hjk;exact hjun
    ·rw [getD_set_ne true hjk] at hun;exact hun
   have hl1:=okD_set hlm hjD
   have hl2:((listed.setIfInBounds i true).setIfInBounds j true).getD m true=false:=by rw [getD_set_ne true hjm,getD_set_ne true him];exact hlmm
   refine wpOp_mono (fun a' w' h3=>⟨fun _=>h3.2.1 hl2,ih (listed.setIfInBounds j true) a' w' hl1 hfree' (ready_mono hr (Ne.symm hji)) h3.1 (h3.2.1 hl2) ?_⟩) h2
   rw [Array.setIfInBounds_comm _ _ hji]
   exact h3.2.2
theorem wpAnyU_take{i:Nat}{oi:Oper}{v:Value}{fuel:Nat}{listed:Array Bool}{a:Act}{w:World}(hi:ops[i]? = some oi)
  (hs:Region.noSelect ops=true) (hf:Region.free md ops listed i=true) (hr:(Region.ready md ops listed).contains i=true) (him:i≠m) (hlm:okD md ops m i (depOf md ops i) listed=true)
  (hQ:∀ c a w,Q (.panic c) (a.put oi.dst v) w→Q (.panic c) a w) (hy:YieldsIf P ops S oi v a) (hS:S w)
  (h:wpAnyU P md ops Q S m fuel (listed.setIfInBounds i true) (a.put oi.dst v) w):wpAnyU P md ops Q S m (fuel+1) listed a w :=
 wpAnyU_first hi (Region.noSelect_spec hs) hQ him fuel listed a w hlm (Region.free_spec hi hf) (by simpa using hr) hy hS h
def AllReadyU(P:Program)(md:Region.Mode)(ops:Array Oper)(Q:Exit→Act→World→Prop)(S:World→Prop)(m:Nat)(fuel:Nat)(listed:Array Bool)(a:Act)(w:World)(rs:List Nat):Prop :=
 ∀ i∈rs,wpOp P ops Q i (fun a' w'=>((listed.setIfInBounds i true).getD m true=false→S w')∧wpAnyU P md ops Q S m fuel (listed.setIfInBounds i true) a' w') a w
theorem no{b:Bool}{p:Prop}(hb:b=true)(h:b=false):p:=by rw [hb] at h;cases h
theorem AllReadyU.nil{fuel:Nat}{listed:Array Bool}{a:Act}{w:World}:AllReadyU P md ops Q S m fuel listed a w []:=fun _ h=>by cases h
theorem AllReadyU.cons{fuel:Nat}{listed:Array Bool}{a:Act}{w:World}{i:Nat}{o:Oper}{rs:List Nat}(ho:ops[i]? = some o)
  (h:∀ K':Act→World→Prop,Shut (∀ a w,((listed.setIfInBounds i true).getD m true=false→S w)→(((listed.setIfInBounds i true).getD m true=false→S w)→wpAnyU P md ops Q S m fuel (listed.setIfInBounds i true) a w)→K' a w)→if Region.wanted o (yielded ops a.tmps)=true then Oper.wp P o a w K' Q else K' (a.put o.dst undef) w)
  (hs:AllReadyU P md ops Q S m fuel listed a w rs):AllReadyU P md ops Q S m fuel listed a w (i::rs):=fun j hj=>by
 rcases List.mem_cons.1 hj with rfl | hj
 ·exact wpOp_step ho (fun K' hK=>h K' (fun a w hS hW=>hK a w ⟨hS,hW hS⟩))
 ·exact hs j hj
theorem wpAnyU_ready{rs:List Nat}{fuel:Nat}{listed:Array Bool}{a:Act}{w:World}(hr:Region.ready md ops listed=rs)(hne:rs≠[])
  (h:AllReadyU P md ops Q S m fuel listed a w rs):wpAnyU P md ops Q S m (fuel+1) listed a w:=⟨fun h0=>absurd (hr▸h0) hne,hr▸h⟩
theorem wpAnyU_done{listed:Array Bool}{a:Act}{w:World}(hr:Region.ready md ops listed=[])(h:Q .normal a w) :
  ∀ fuel,wpAnyU P md ops Q S m fuel listed a w
 | 0=>⟨hr,h⟩
 | _+1=>⟨fun _=>h,by rw [hr];simp⟩
theorem wp_region_U{id:Nat}{a:Act}{w:World}(m:Nat)(S:World→Prop)(hm:P.follows .mixedOrders=true)(hS:S w.drew)
  (h:S w.drew→wpAnyU P .any ops Q S m ops.size (Array.replicate ops.size false) a w.drew):(Code.region id ops true).wp P Q a w :=
 wp_region_any hm (wpAny_of_U _ _ _ _ (h hS))
theorem tk(i:Nat){d:Option Tmp}{op:Op}{ty:TypeId}{ps:String}{af:Array Edge}{gd:Option (Nat×Bool)}{v:Value}{fuel:Nat}{listed:Array Bool}{a a':Act}{w:World}(hi:ops[i]? = some ⟨d,op,ty,ps,af,gd⟩:=by rfl)
  (hs:Region.noSelect ops=true:=by kernel_rfl) (hf:Region.free md ops listed i=true:=by kernel_rfl) (hr:(Region.ready md ops listed).contains i=true:=by kernel_rfl) (him:i≠m:=by decide) (hlm:okD md ops m i (depOf md ops i) listed=true:=by kernel_rfl)
  (hQ:∀ c a w,Q (.panic c) (a.put d v) w→Q (.panic c) a w:=by exact fun _ _ _ h=>h) (hw:Region.wanted ⟨d,op,ty,ps,af,gd⟩ (yielded ops a.tmps)=true:=by rfl)
  (hy:∀ w,S w→(execOp a.eval ⟨d,op,ty,ps,af,gd⟩).run P w=.ok (.value v) w:=by intro w hSw;(try dsimp only at hSw);go_simp;try with_reducible rfl)
  (ha:a.put d v=a':=by (try simp only [Act.put,List.setIfInBounds_toArray,List.set_cons_zero,List.set_cons_succ]);exact rfl) (hS:S w:=by assumption)
  (h:wpAnyU P md ops Q S m fuel (listed.setIfInBounds i true) a' w):wpAnyU P md ops Q S m (fuel+1) listed a w :=
 wpAnyU_take (v:=v) hi hs hf hr him hlm hQ (Or.inl ⟨hw,hy⟩) hS (by rw [ha];exact h)
theorem one(i:Nat){d:Option Tmp}{op:Op}{ty:TypeId}{ps:String}{af:Array Edge}{gd:Option (Nat×Bool)}{fuel:Nat}{listed:Array Bool}{a:Act}{w:World}(hr:Region.ready md ops listed=[i]:=by kernel_rfl)(ho:ops[i]? = some ⟨d,op,ty,ps,af,gd⟩:=by rfl)
  (h:∀ K':Act→World→Prop,Shut (∀ a w,((listed.setIfInBounds i true).getD m true=false→S w)→(((listed.setIfInBounds i true).getD m true=false→S w)→wpAnyU P md ops Q S m fuel (listed.setIfInBounds i true) a w)→K' a w)→if Region.wanted ⟨d,op,ty,ps,af,gd⟩ (yielded ops a.tmps)=true then Oper.wp P ⟨d,op,ty,ps,af,gd⟩ a w K' Q else K' (a.put d undef) w) :
  wpAnyU P md ops Q S m (fuel+1) listed a w:=wpAnyU_ready hr (by simp) (AllReadyU.cons ho h AllReadyU.nil)
theorem bk{fuel:Nat}{L:Array Bool}{a a':Act}{w:World}{K':Act→World→Prop}(hK:Shut (∀ a w,(L.getD m true=false→S w)→((L.getD m true=false→S w)→wpAnyU P md ops Q S m fuel L a w)→K' a w))(hn:L.getD m true=true:=by kernel_rfl)
  (ha:a=a':=by (try simp only [Act.put,List.setIfInBounds_toArray,List.set_cons_zero,List.set_cons_succ]);exact rfl) (h:wpAnyU P md ops Q S m fuel L a' w):K' a w:=by
 subst ha
 exact hK.out _ _ (no hn) fun _=>h
theorem tk0(i:Nat){d:Option Tmp}{op:Op}{ty:TypeId}{ps:String}{af:Array Edge}{gd:Option (Nat×Bool)}{fuel:Nat}{listed:Array Bool}{a a':Act}{w:World}(hi:ops[i]? = some ⟨d,op,ty,ps,af,gd⟩:=by rfl)
  (hs:Region.noSelect ops=true:=by kernel_rfl) (hf:Region.free md ops listed i=true:=by kernel_rfl) (hr:(Region.ready md ops listed).contains i=true:=by kernel_rfl) (him:i≠m:=by decide) (hlm:okD md ops m i (depOf md ops i) listed=true:=by kernel_rfl)
  (hQ:∀ c a w,Q (.panic c) (a.put d undef) w→Q (.panic c) a w:=by exact fun _ _ _ h=>h) (hw:Region.wanted ⟨d,op,ty,ps,af,gd⟩ (yielded ops a.tmps)=false:=by rfl)
  (ha:a.put d undef=a':=by (try simp only [Act.put,List.setIfInBounds_toArray,List.set_cons_zero,List.set_cons_succ]);exact rfl) (hS:S w:=by assumption)
  (h:wpAnyU P md ops Q S m fuel (listed.setIfInBounds i true) a' w):wpAnyU P md ops Q S m (fuel+1) listed a w :=
 wpAnyU_take (v:=undef) hi hs hf hr him hlm hQ (Or.inr ⟨hw,rfl⟩) hS (by rw [ha];exact h)
theorem bh{fuel:Nat}{L:Array Bool}{a a':Act}{w:World}{K':Act→World→Prop}(hK:Shut (∀ a w,(L.getD m true=false→S w)→((L.getD m true=false→S w)→wpAnyU P md ops Q S m fuel L a w)→K' a w))(hs:S w)(hn:L.getD m true=false:=by kernel_rfl)
  (ha:a=a':=by (try simp only [Act.put,List.setIfInBounds_toArray,List.set_cons_zero,List.set_cons_succ]);exact rfl) (h:S w→wpAnyU P md ops Q S m fuel L a' w):K' a w:=by
 subst ha
 exact hK.out _ _ (fun _=>hs) fun q=>h (q hn)
end
end Go.Proofs.YtekogckmgkodfaaGreatDoor.OrdU
