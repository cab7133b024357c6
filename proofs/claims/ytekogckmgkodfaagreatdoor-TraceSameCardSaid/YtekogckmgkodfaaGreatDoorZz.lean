import Derived.Test.YtekogckmgkodfaaGreatDoorRows
namespace Go.Proofs.YtekogckmgkodfaaGreatDoor
theorem oW{P:Prop}(h:P:=by assumption):P:=h
theorem fj{P:Prop}(h:P:=by cases e):P:=h
theorem k8{P:Prop}(h:P:=by cases h):P:=h
theorem nx{P:Prop}(h:P:=by cases z):P:=h
theorem aA{P:Prop}(h:P:=by decide):P:=h
theorem wD{P:Prop}(h:P:=by decide +kernel):P:=h
theorem GP{P:Prop}(h:P:=by have q := H1.out.ah.e K.g z.symm; rw [H1.out.ah.g] at q; omega):P:=h
theorem oZ{P:Prop}(h:P:=by have:=(hS _ q).1;omega):P:=h
theorem GX{P:Prop}(h:P:=by have:=World.block_lt_of_cell? W _ q0;rw [gH] at this;exact this):P:=h
theorem G2{P:Prop}(h:P:=by have:=World.block_lt_of_cell? W _ q0;rw [hb] at this;exact this):P:=h
theorem vZ{P:Prop}(h:P:=by have:=h.ah.a k e;exact aR k (by omega) (by omega) (by omega)):P:=h
theorem Aj{P:Prop}(h:P:=by have:=h.ah.a k e;exact hb k (h.ah.lt k (by omega)).2 (.inl (by omega))):P:=h
theorem wa{P:Prop}(h:P:=by have:=h.ah.a k e;rw [fG k (by omega) (by omega)];exact this):P:=h
theorem GL{P:Prop}(h:P:=by have:=h.ah.c k e;rw [fG k (by omega) (by omega)];exact this):P:=h
theorem GM{P:Prop}(h:P:=by have:=h.ah.e k e;exact hb k (h.ah.lt k (by omega)).2 (.inl (by omega))):P:=h
theorem nw{P:Prop}(h:P:=by have:=h.ah.nc q;omega):P:=h
theorem Am{P:Prop}(h:P:=by have:=h.ah.v k e;exact aR k (by omega) (by omega) (by omega)):P:=h
theorem An{P:Prop}(h:P:=by have:=h.ah.v k e;rw [fG k (by omega) (by omega)];exact this):P:=h
theorem wj{P:Prop}(h:P:=by have:=h.ah.y i y k q e;exact aR k (by omega) (by omega) (by omega)):P:=h
theorem Ao{P:Prop}(h:P:=by have:=h.ah.y i y k q e;exact hb k (h.ah.lt k (by omega)).2 (.inl (by omega))):P:=h
theorem wk{P:Prop}(h:P:=by have:=h.ah.y i y k q e;rw [fG k (by omega) (by omega)];exact this):P:=h
theorem wm{P:Prop}(h:P:=by have:=je.size;simp;omega):P:=h
theorem GN{P:Prop}(h:P:=by have:=hc.sum s.tick NY;have:=hc.grow s.tick NY;omega):P:=h
theorem wo{P:Prop}(h:P:=by have:=hg.size;simpa using this):P:=h
theorem Ap{P:Prop}(h:P:=by have:=m_ l A ((k+1:Nat):Int);rw [e] at this;exact this.symm):P:=h
theorem Aq{P:Prop}(h:P:=by obtain⟨ad,e,-,q,-⟩:=(aZ.at hb).body 0 x hx;cases e;rw [uo];exact q):P:=h
theorem I{P:Prop}(h:P:=by omega):P:=h
theorem bw{P:Prop}(h:P:=by rfl):P:=h
theorem wu{P:Prop}(h:P:=by rw [HF.out];rfl):P:=h
theorem wy{P:Prop}(h:P:=by rw [HL.out.g];decide):P:=h
theorem wA{P:Prop}(h:P:=by rw [Ht.out];exact hk):P:=h
theorem k_{P:Prop}(h:P:=by rw [IntKind.wrap_u32'];omega):P:=h
theorem Ar{P:Prop}(h:P:=by rw [IntKind.wrap_u64];omega):P:=h
theorem wB{P:Prop}(h:P:=by rw [IntWalk.i64_in _ (by omega)];omega):P:=h
theorem As{P:Prop}(h:P:=by rw [IntWalk.i64_left]):P:=h
theorem At{P:Prop}(h:P:=by rw [gG];exact hi):P:=h
theorem Au{P:Prop}(h:P:=by rw [fN];exact h.1):P:=h
theorem GO{P:Prop}(h:P:=by rw [iA,eS];omega):P:=h
theorem sT{P:Prop}(h:P:=by rw [iA];omega):P:=h
theorem Av{P:Prop}(h:P:=by rw [oT,h.hY]):P:=h
theorem oX{P:Prop}(h:P:=by rw [eP h];omega):P:=h
theorem dJ{P:Prop}(h:P:=by rw [beq_eq_false_iff_ne];omega):P:=h
theorem iT{P:Prop}(h:P:=by rw [cX hv]):P:=h
theorem sU{P:Prop}(h:P:=by rw [tS];omega):P:=h
theorem Aw{P:Prop}(h:P:=by rw [qN];exact ae _):P:=h
theorem sV{P:Prop}(h:P:=by rw [e];exact ho):P:=h
theorem qn{P:Prop}(h:P:=by rw [e];rfl):P:=h
theorem wC{P:Prop}(h:P:=by rw [Ut];rfl):P:=h
theorem ld{P:Prop}(h:P:=by rw [h.ah.a k e];decide):P:=h
theorem Ax{P:Prop}(h:P:=by rw [h.ah.a k e];omega):P:=h
theorem mr{P:Prop}(h:P:=by rw [h.ah.b];decide):P:=h
theorem kq{P:Prop}(h:P:=by rw [h.ah.e k e];decide):P:=h
theorem Ay{P:Prop}(h:P:=by rw [h.ah.e k e];omega):P:=h
theorem dA{P:Prop}(h:P:=by rw [h.ah.g];decide):P:=h
theorem Az{P:Prop}(h:P:=by rw [h.ah.g];omega):P:=h
theorem oY{P:Prop}(h:P:=by rw [h.ah.v k e];decide):P:=h
theorem mv{P:Prop}(h:P:=by rw [h.ah.y i y k q e];omega):P:=h
theorem wE{P:Prop}(h:P:=by rw [h.ah.y m z k q e];omega):P:=h
theorem eV{P:Prop}(h:P:=by rw [hE.out];rfl):P:=h
theorem wF{P:Prop}(h:P:=by rw [h];decide):P:=h
theorem AA{P:Prop}(h:P:=by rw [hl];exact TX (by omega)):P:=h
theorem dW{P:Prop}(h:P:=by rw [hl];simp [asks]):P:=h
theorem wG{P:Prop}(h:P:=by rw [ho];decide):P:=h
theorem TQ{P:Prop}(h:P:=by rw [cp];exact ao):P:=h
theorem mw{P:Prop}(h:P:=by rw [cp];exact z):P:=h
theorem sW{P:Prop}(h:P:=by rw [cp];simpa using z):P:=h
theorem wH{P:Prop}(h:P:=by rw [cq];exact z2):P:=h
theorem AB{P:Prop}(h:P:=by rw [fG K.g (by rw [h.ah.g];decide) (by rw [h.ah.g];decide)];exact h.ah.g):P:=h
theorem GQ{P:Prop}(h:P:=by rw [fG _ (dG _ _ (h.ah.a k e) (by decide))];exact h.ah.a k e):P:=h
theorem GR{P:Prop}(h:P:=by rw [fG _ (dG _ _ h.ah.g (by decide))];exact h.ah.g):P:=h
theorem sX{P:Prop}(h:P:=by rw [hx] at mZ;exact ba mZ):P:=h
theorem wI{P:Prop}(h:P:=by rw [hx];exact hk):P:=h
theorem o0{P:Prop}(h:P:=by rw [dH];omega):P:=h
theorem AD{P:Prop}(h:P:=by rw [jZ];exact hj):P:=h
theorem AE{P:Prop}(h:P:=by rw [q];exact eE ..):P:=h
theorem GU{P:Prop}(h:P:=by rw [show s.data.toList.length=s.size from rfl];omega):P:=h
theorem GV{P:Prop}(h:P:=by rw [show(s',v).1.over=true from ho] at z;cases z):P:=h
theorem GW{P:Prop}(h:P:=by rw [show(s'.stop k x,v).1.over=true from ni _ _ _] at z;cases z):P:=h
theorem qo{P:Prop}(h:P:=by rw [size_madeCells,h_]):P:=h
theorem o4{P:Prop}(h:P:=by rw [eM ho]):P:=h
theorem wJ{P:Prop}(h:P:=by rw [z];exact h.ah.g):P:=h
theorem GY{P:Prop}(h:P:=by rw [← Nat.pow_add,show k+(32-k)=32 by omega]):P:=h
theorem AF{P:Prop}(h:P:=by rw [← e];cases y.1.1<;>rfl):P:=h
theorem wK{P:Prop}(h:P:=by rw [← gQ];exact(Below.refl _ _).drew):P:=h
theorem wL{P:Prop}(h:P:=by rw [← cq];exact aT (k+1+n1) n2 s1 (by omega) e_ (B1 z).1):P:=h
theorem GZ{P:Prop}(h:P:=by rw [← hr];unfold nH;rw [bM (by rw [cp];exact ao),cp];rfl):P:=h
theorem G0{P:Prop}(h:P:=by show 0<(bq p.vs _ k).length;rw [uz];exact Nat.zero_lt_one):P:=h
theorem fP{P:Prop}(h:P:=by show 1≤t;omega):P:=h
theorem G1{P:Prop}(h:P:=by show World.ownsRow _ _ _ _ _ (s.aF.set i x).length _;rw [fN];exact V):P:=h
theorem qp{P:Prop}(h:P:=by show iK (t,N)=0;rw [P6 (by omega),leaf (by omega)]):P:=h
theorem wM{P:Prop}(h:P:=by show iK (t,N)=1;exact Vx (by omega)):P:=h
theorem wN{P:Prop}(h:P:=by show iK (t,N)=1;rw [P6 (by omega),pT _ hq]):P:=h
theorem G3{P:Prop}(h:P:=by show iK (t,N)=2;rw [P6 (by omega),oB _ _ hq]):P:=h
theorem G4{P:Prop}(h:P:=by show s.ev.length+(S.length+1)≤s.steps;omega):P:=h
theorem mx{P:Prop}(h:P:=by show t≠18;omega):P:=h
theorem my{P:Prop}(h:P:=by show t≠19;omega):P:=h
theorem mz{P:Prop}(h:P:=by show t≠23;omega):P:=h
theorem mA{P:Prop}(h:P:=by show t≠24;omega):P:=h
theorem fQ{P:Prop}(h:P:=by show t≤26;omega):P:=h
theorem wO{P:Prop}(h:P:=by show κ b≠0;omega):P:=h
theorem GI{P:Prop}(h:P:=by show(List.replicate _ _).length=_;rw [jx]):P:=h
theorem GJ{P:Prop}(h:P:=by show(ei x a b s).1.ev.length+S.length≤(ei x a b s).1.steps;rw [k2];omega):P:=h
theorem GK{P:Prop}(h:P:=by show(ei x a b s).1.steps+(ei x a b s).1.fuel=F;rw [k2,k3];exact hF):P:=h
theorem au{P:Prop}(h:P:=by simp):P:=h
theorem Ah{P:Prop}(h:P:=by simp [ByteArray.size]):P:=h
theorem nu{P:Prop}(h:P:=by simp [St.list]):P:=h
theorem ko{P:Prop}(h:P:=by simp [Value.oneCell']):P:=h
theorem Ai{P:Prop}(h:P:=by simp [ar,asks];split<;>omega):P:=h
theorem v7{P:Prop}(h:P:=by simp at e;omega):P:=h
theorem jB{P:Prop}(h:P:=by simp at h):P:=h
theorem eU{P:Prop}(h:P:=by simp only [maxLen];omega):P:=h
theorem v8{P:Prop}(h:P:=by simp only at z;omega):P:=h
theorem mn{P:Prop}(h:P:=by simp only;omega):P:=h
theorem cm{P:Prop}(h:P:=by simp;omega):P:=h
theorem iB{P:Prop}(h:P:=by simpa using h):P:=h
theorem sQ{P:Prop}(h:P:=by simpa using h2):P:=h
theorem v9{P:Prop}(h:P:=by simpa using ha):P:=h
theorem v_{P:Prop}(h:P:=by simpa using hc.symm):P:=h
theorem sR{P:Prop}(h:P:=by simpa using uI):P:=h
theorem eF{P:Prop}(h:P:=by simpa using ao):P:=h
theorem fO{P:Prop}(h:P:=by simpa using aB):P:=h
theorem wb{P:Prop}(h:P:=by simpa using fe):P:=h
theorem wg{P:Prop}(h:P:=by simpa using this.2):P:=h
theorem wh{P:Prop}(h:P:=by simpa using z):P:=h
theorem Ak{P:Prop}(h:P:=by unfold St.more;simp only;omega):P:=h
theorem dV{P:Prop}(h:P:=by unfold ar asks upto;simp):P:=h
theorem sS{P:Prop}(h:P:=by unfold a_;split<;>omega):P:=h
theorem mo{P:Prop}(h:P:=by unfold bin;simp [bp]):P:=h
theorem Al{P:Prop}(h:P:=by unfold fK;rw [if_pos e]):P:=h
theorem aq{c:Prop}[Decidable c]{α:Sort _}{a b:α}(h:¬c:=by omega):ite c a b=b:=if_neg h
theorem fR{c:Prop}[Decidable c]{α:Sort _}{a b:α}(h:c:=by omega):ite c a b=a:=if_pos h
abbrev ee:=@Option.map_eq_some_iff
abbrev cV:=@List.length_cons
abbrev jA:=@Nat.zero_add
abbrev kZ:=@Option.bind_some
abbrev qm:=@Option.map_some
abbrev ma:=@List.drop_succ_cons
abbrev kj:=@List.take_succ_cons
abbrev gh:=@List.cons_append
abbrev bI:=@Int.toNat_natCast
abbrev cL:=@Int.eq_ofNat_of_zero_le
abbrev eS:=@List.length_drop
abbrev km:=@Nat.add_comm
abbrev hU:=@List.drop_drop
abbrev dn:=@List.mem_cons
abbrev sM:=@List.flatMap_cons
abbrev Ag:=@Nat.add_sub_cancel_left
abbrev ke:=@List.drop_eq_getElem_cons
abbrev sK:=@Int.lt_or_le
abbrev bz:=@List.getElem?_eq_getElem
abbrev bT:=@List.getD_eq_getElem?_getD
abbrev de:=@List.getElem?_eq_some_iff
abbrev iA:=@List.length_take
abbrev nk:=@List.append_nil
abbrev vT:=@List.map_congr_left
abbrev oV:=@List.take_append_drop
abbrev bD:=@Nat.lt_of_lt_of_le
abbrev ae:=@Nat.le_refl
abbrev hZ:=@List.nil_append
abbrev vX:=@Nat.eq_zero_or_pos
abbrev eE:=@List.mem_cons_self
abbrev fi:=@List.mem_cons_of_mem
abbrev ml:=@List.size_toArray
abbrev kh:=@List.length_nil
abbrev l6:=@Array.replicate_succ
abbrev l8:=@Array.replicate_zero
abbrev mh:=@List.push_toArray
abbrev l_:=@List.append_toArray
abbrev cQ:=@Nat.le_trans
abbrev l9:=@List.append_assoc
abbrev dQ:=@List.length_append
abbrev sN:=@List.length_singleton
abbrev sL:=@List.drop_eq_nil_of_le
abbrev nl:=@List.setIfInBounds_toArray
abbrev oU:=@List.set_cons_succ
abbrev nm:=@List.set_cons_zero
abbrev ki:=@List.mem_append
abbrev iS:=@List.mem_singleton
abbrev kg:=@List.getElem?_cons_succ
abbrev mg:=@List.length_eq_zero_iff
abbrev iz:=@Array.getElem?_eq_some_iff
abbrev dw:=@List.getElem?_map
abbrev ed:=@Nat.add_assoc
abbrev qk:=@List.take_zero
abbrev ba:=@Option.some.inj
abbrev gG:=@List.length_map
abbrev dk:=@List.map_cons
abbrev gi:=@List.drop_zero
abbrev vY:=@Option.some.injEq
abbrev vW:=@List.take_take
abbrev h_:=@Nat.mul_one
abbrev vV:=@List.take_append_of_le_length
abbrev jz:=@List.take_of_length_le
abbrev Ae:=@List.mem_append_left
abbrev qh:=@List.mem_of_mem_take
abbrev qg:=@List.mem_of_mem_drop
abbrev Af:=@List.mem_append_right
abbrev iR:=@List.mem_map
abbrev Ad:=@List.getElem_toArray
abbrev np:=@Nat.lt_or_ge
abbrev mf:=@List.getElem?_append_right
abbrev kX:=@List.getElem?_range
abbrev fM:=@List.getElem?_eq_none
abbrev vU:=@List.mem_range
abbrev me:=@List.ext_getElem?
abbrev fy:=@List.getElem?_set
abbrev oT:=@List.map_set
abbrev fN:=@List.length_set
abbrev nr:=@Option.getD_some
abbrev sP:=@Nat.zero_le
abbrev jx:=@List.length_replicate
abbrev oS:=@List.getElem?_replicate
abbrev jy:=@List.mem_of_getElem?
abbrev eT:=@List.map_nil
abbrev vS:=@List.getElem?_take
abbrev fA:=@Nat.le_succ
abbrev oR:=@List.all_eq_true
abbrev oQ:=@Bool.and_eq_true
abbrev kY:=@List.prefix_refl
abbrev sO:=@List.not_mem_nil
abbrev vR:=@List.getElem?_set_self
abbrev ql:=@Nat.mod_lt
abbrev vQ:=@List.flatMap_append
end Go.Proofs.YtekogckmgkodfaaGreatDoor
