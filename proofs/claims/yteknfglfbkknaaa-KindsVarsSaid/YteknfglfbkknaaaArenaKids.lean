/-
  The reference of arenas, walked: a node's kids.
-/
import Derived.Test.YteknfglfbkknaaaArenaEnd
import Derived.Maps.AppendAt
import Derived.RangeFuncBox
import Derived.Deep.AppendLies
namespace Go.Proofs.Yteknfglfbkknaaa.Arena
open Go.RowKit Mem

theorem info_int : (Try.prog.info? 3).map (fun i => (i.zero, i.size, i.bytes)) = some (some (.int .i64 0), 1, 8) := by kernel_rfl
def icells (ks : List Int) : List Value := ks.map (Value.int .i64)
theorem icells_snoc (ks : List Int) (q : Int) : icells (ks ++ [q]) = icells ks ++ [.int .i64 q] := by simp [icells]
theorem own_of_block {w w' : World} {base : Nat} {e : TypeId} {size : Nat} {v : Value} {n : Nat} {xs : List Value} (h : w.ownsRow base e size v n xs) (hb : ∀ k, v.ownBlock = some k → w'.heap[k]? = w.heap[k]?) : w'.ownsRow base e size v n xs := by
  refine ⟨h.1, ?_⟩
  rcases h.2 with hn | ⟨g, cap, cur, rfl, hbg, hgg, rest⟩
  · exact .inl hn
  · exact .inr ⟨g, cap, cur, rfl, hbg, (hb g rfl).trans hgg, rest⟩

/-- What kids come to. -/
def KidsEnds (ks : List Int) (w : World) (e : Ending) (w' : World) : Prop :=
  Below w.heap.size w w' ∧ ∃ v, e = .returned v ∧ w'.ownsRow w.heap.size 3 1 v ks.length (icells ks)

set_option maxRecDepth 100000 in
set_option maxHeartbeats 1000000 in
theorem ref_Kids_any (A : Option Addr) (cap : Nat) (xs : List Nd) (a : Int) (w : World) (hx : Nodes w w.heap.size A xs) (hl : xs.length ≤ 1000000) :
    Calls Try.prog 41 #[.slice A xs.length cap, .int .i64 a] w (KidsEnds (akids xs a) w) := by
  have HX := Lib.hid hx
  have HE := Lib.hid (fun b W hW => ref_End_any A cap xs b W hW hl)
  clear hx
  rcases aend_cases xs a with he | ⟨k0, n, rfl, hs, he, hn1, hn2⟩
  · rw [kids_neg (by omega)]
    have HE0 := Lib.hid (fun W (hW : Nodes W W.heap.size A xs) => HE.out a W hW)
    rw [he] at HE0
    clear he HE
    go_enter Try.func41, Try.ntmps41
    go_wp2_with (go_at_call 40; refine (HE0.out _ HX.out).mono ?_; rintro e w1 ⟨rfl, hb1⟩)
    go_ret
    exact ⟨hb1, _, rfl, World.ownsRow_nil _ _ _ _⟩
  · obtain ⟨x, hxk, h0, hk, -, -, -⟩ := node_kids hs
    obtain ⟨c, hc⟩ := Int.eq_ofNat_of_zero_le h0
    rw [hc, Int.toNat_natCast] at hk
    have hc2 := (ar_le x).2
    have hc200 : c ≤ 200 := by omega
    have HK := Lib.hid hk
    have HE0 := Lib.hid (fun W (hW : Nodes W W.heap.size A xs) => HE.out (k0 : Int) W hW)
    rw [he] at HE0
    have e1 : ¬ (k0 : Int) + (n : Int) < 0 := by omega
    have e2 : (0 : Int) ≤ (k0 : Int) + (n : Int) := by omega
    have v1 : IntKind.i64.wrap ((k0 : Int) + 1) = (k0 : Int) + 1 := IntWalk.i64_in _ (by omega)
    have i1 : (k0 : Int) < (xs.length : Int) := by omega
    have i2 : (0 : Int) ≤ (k0 : Int) := by omega
    have HA := Lib.hid (fun t n W => ref_Arity_any t n W)
    have HCX := Lib.hid hc
    have HXK := Lib.hid hxk
    obtain ⟨ig, hig, hz0, hz1, hz2⟩ := info_parts info_int
    rw [show ((k0 + 1 : Nat) : Int) = (k0 : Int) + 1 by omega] at HK
    clear he hk hc hxk h0 hs
    go_enter Try.func41, Try.ntmps41
    go_wp2_with (go_at_call 40; refine (HE0.out _ HX.out).mono ?_; rintro e w1 ⟨rfl, hb1⟩)
    go_loopw [5, 6, 7] (fun v q i wr => ∃ (j : Nat) (done : List Int) (p : Int), j ≤ c ∧ i = .int .i64 j ∧ q = .int .i64 p ∧ done.length = j ∧ akids xs k0 = done ++ kidsFrom xs (c - j) p ∧ wr.ownsRow w.heap.size 3 1 v j (icells done) ∧ Below w.heap.size w wr) (fun _ _ i _ => c - (intOf i).toNat)
    case atStart => exact ⟨0, [], (k0 : Int) + 1, by omega, rfl, rfl, rfl, HK.out, World.ownsRow_nil _ _ _ _, hb1⟩
    case round =>
      obtain ⟨j, done, p, hj, rfl, rfl, hdl, hdn, hO, hB⟩ := hrel
      obtain ⟨ad, rfl, hbk, h0', h1'⟩ := (Nodes.below HX.out hB) k0 x HXK.out
      by_cases hlt : j < c
      · have hst : akids xs k0 = (done ++ [p]) ++ kidsFrom xs (c - (j + 1)) (aend xs p) := by
          rw [hdn, show c - j = (c - (j + 1)) + 1 by omega, kidsFrom, List.append_assoc]; rfl
        have HS := Lib.hid hst
        have j1 : (j : Int) < (c : Int) := by omega
        have hrow := fun i (hi : u5.ownBlock = some i) => hO.lt i hi
        clear hst hdn
        go_wp2_with (first
          | (go_at_call 51; (with_reducible refine (HA.out _ _ _).mono ?_); rintro e w2 ⟨rfl, hb2⟩; rw [show ar (x.1, x.2) = (c : Int) from HCX.out]
             have hO1 := own_of_block hO (fun i hi => hb2.block i (hrow i hi).2)
             have hB2 := hB.trans (hb2.mono hB.size)
             have hnew := heap_alloc_new w2 (.cells #[.int .i64 p] 3)
             have HNB := Lib.hid hnew
             have hB3 := hB2.alloc hB2.size (.cells #[.int .i64 p] 3)
             have hsz3 : w.heap.size ≤ (w2.alloc (.cells #[.int .i64 p] 3)).heap.size := hB3.size
             clear hnew)
          | (at_builtin; refine wpList_append_own_at _ rfl _ _ 22 rfl w.heap.size 3 ig (.int .i64 0) 1 8 Try.underlying22 hig hz0 hz1 hz2 rfl (by decide) _ j _ rfl (hO1.alloc _) ⟨w2.heap.size, 0, none⟩ 1 1 [.int .i64 p] rfl rfl (World.news_of_block (cs := #[.int .i64 p]) (t := 3) (fr := (0, 0)) HNB.out) (by simp [Value.oneCell']) (by simp only [maxLen]; omega) (by omega) hsz3 ?_; intro v7 w7 hown hg _ _; have hB7 : Below w.heap.size w w7 := hB3.grown hg (by rw [World.size_alloc]; have := hB2.size; omega) (fun i e => (hO.lt i e).1))
          | (go_at_call 40; refine (HE.out _ _ (Nodes.at HX.out hB7)).mono ?_; rintro e w8 ⟨rfl, hb8⟩))
        go_roundw
        case rel => exact ⟨j + 1, done ++ [p], _, by omega, by go_num, rfl, by simp [hdl], HS.out, by rw [icells_snoc]; exact own_of_block hown (fun i hi => hb8.block i (hown.lt i hi).2), hB7.trans (hb8.mono hB7.size)⟩
        case measure => simp [intOf]; omega
      · have hj9 : j = c := by omega
        subst hj9
        have HD := Lib.hid (show akids xs k0 = done by rw [hdn, Nat.sub_self, kidsFrom, List.append_nil])
        have j1 : ¬ (done.length : Int) < (done.length : Int) := by omega
        go_wp2_with (first
          | (go_at_call 51; (with_reducible refine (HA.out _ _ _).mono ?_); rintro e w2 ⟨rfl, hb2⟩; rw [show ar (x.1, x.2) = (j : Int) from HCX.out]))
        go_ret
        exact ⟨hB.trans (hb2.mono hB.size), _, rfl, by rw [HD.out, hdl]; exact own_of_block hO (fun i hi => hb2.block i (hO.lt i hi).2)⟩

end Go.Proofs.Yteknfglfbkknaaa.Arena
