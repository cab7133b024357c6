/-
  The reference of containers, walked: all frames up to a place.
-/
import Derived.Test.YtfjdbbhaigjbmaaGreatContGets
import Derived.Maps.AppendAt
import Derived.Deep.AppendLies
namespace Go.Proofs.YtfjdbbhaigjbmaaGreat.Cont
open Go.RowKit Leb Mem _root_.Go.Proofs.YtfjdbbhaigjbmaaGreat.Frame

theorem info_sec : (Tryz.prog.info? 34).map (fun i => (i.zero, i.size, i.bytes)) = some (some (.agg #[.int .i64 0, .string ⟨#[]⟩]), 2, 24) := by kernel_rfl

/-- What stands behind so many frames. -/
def Upto (S : List UInt8) (n a : Nat) (pre : List Sec) : Prop := ∃ k, S.length - a ≤ k ∧ gets S n 7 = (gets S k a).map (pre ++ ·)
theorem Upto.start (S : List UInt8) (n : Nat) (h : S.length - 7 ≤ n) : Upto S n 7 [] := ⟨n, h, by simp⟩
theorem Upto.done {S : List UInt8} {n a : Nat} {pre : List Sec} (h : Upto S n a pre) (ha : S.length ≤ a) : gets S n 7 = some pre := by
  obtain ⟨k, -, hg⟩ := h
  rw [hg]
  cases k with
  | zero => simp [gets]
  | succ k => rw [gets, if_pos ha]; simp
theorem Upto.bad {S : List UInt8} {n a : Nat} {pre : List Sec} (h : Upto S n a pre) (ha : a < S.length) (he : (fget S a).2.2 ≠ 0) : gets S n 7 = none := by
  obtain ⟨k, hk, hg⟩ := h
  obtain ⟨k, rfl⟩ : ∃ j, k = j + 1 := ⟨k - 1, by omega⟩
  rw [hg, gets, if_neg (by omega), if_pos he]; rfl
theorem Upto.more {S : List UInt8} {n a q : Nat} {pre : List Sec} {x : Sec} (h : Upto S n a pre) (ha : a < S.length) (he : fget S a = (x, (q : Int), 0)) (hq : a < q) : Upto S n q (pre ++ [x]) := by
  obtain ⟨k, hk, hg⟩ := h
  obtain ⟨k, rfl⟩ : ∃ j, k = j + 1 := ⟨k - 1, by omega⟩
  refine ⟨k, by omega, ?_⟩
  rw [hg, gets, if_neg (by omega), he, if_neg (by simp)]
  simp only [Int.toNat_natCast, Option.map_map]
  congr 1
  funext l
  simp

/-- What the frames come to. -/
def FramesEnds (r : Option (List Sec)) (w : World) (e : Ending) (w' : World) : Prop :=
  Below w.heap.size w w' ∧ ((r = none ∧ e = .returned (.tuple #[.slice none 0 0, .bool false])) ∨
    ∃ (A : Option Addr) (cap : Nat) (ys : List Sect), r = some (secs ys) ∧ e = .returned (.tuple #[.slice A ys.length cap, .bool true]) ∧ Sects w' w'.heap.size A ys ∧ (A = none → ys = []))

theorem secs_snoc (ys : List Sect) (t : Int) (d : List UInt8) : secs (ys ++ [⟨t, str d⟩]) = secs ys ++ [(t, d)] := by
  unfold secs; rw [List.map_append]; simp [str_list]

set_option maxRecDepth 100000 in
set_option maxHeartbeats 4000000 in
theorem ref_frames_any (s : ByteArray) (hs : s.size ≤ 1073741824) (n : Nat) (h7 : 7 ≤ n) (hn : n ≤ s.size) (w : World) :
    Calls Tryz.prog 31 #[.string s, .int .i64 n] w (FramesEnds (gets (s.data.toList.take n) n 7) w) := by
  have hx := extract_str s 0 n
  rw [List.drop_zero, Nat.sub_zero] at hx
  obtain ⟨u, hu⟩ : ∃ u, s.extract 0 n = u := ⟨_, rfl⟩
  have hul : u.data.toList = s.data.toList.take n := by rw [← hu, hx, str_list]
  have hus : u.size = n := by rw [← len_of, hul, List.length_take, len_of]; omega
  have hlen := len_of u
  rw [hus] at hlen
  have hlen' := hlen
  rw [hul] at hlen'
  have i1 : (n : Int) ≤ (s.size : Int) := by omega
  have hus2 : u.size ≤ 1073741824 := by omega
  have hn2 : n ≤ 1073741824 := by omega
  have HUL := Lib.hid hul
  rw [← hul]
  clear hx hul hlen' hus
  obtain ⟨S, hS⟩ : ∃ S, u.data.toList = S := ⟨_, rfl⟩
  have HG := Lib.hid (fun a W => ref_Get_frame u a hus2 W)
  unfold FGetEnds at HG
  rw [hS] at HG hlen ⊢
  have hst := Upto.start S n (by omega)
  clear hus2 hS HUL
  obtain ⟨ig, hig, hz0, hz1, hz2⟩ := info_parts info_sec
  go_enter Tryz.func31, Tryz.ntmps31
  go_wp2_with fail
  go_loopw [6, 7] (fun v a wr => ∃ (k : Nat) (ys : List Sect), 7 ≤ k ∧ k ≤ n ∧ a = .int .i64 k ∧ ys.length ≤ k ∧ (∀ x ∈ ys, x.d.size ≤ n) ∧ Upto S n k (secs ys) ∧ wr.ownsRow w.heap.size 34 2 v ys.length (scells ys) ∧ Below w.heap.size w wr) (fun _ a _ => n - (intOf a).toNat)
  case atStart => exact ⟨7, [], by omega, h7, rfl, by simp, by simp, hst, World.ownsRow_nil _ _ _ _, Below.refl _ _⟩
  case round =>
    obtain ⟨k, ys, hk7, hkn, rfl, hyl, hyd, hup, hO, hB⟩ := hrel
    by_cases hlt : k < n
    · by_cases he : (fget S k).2.2 = 0
      · obtain ⟨g1, g2, g3, g4, g5, g6, g7⟩ := fget_only S k he
        obtain ⟨⟨⟨t, d⟩, b, c⟩, hr⟩ : ∃ r, fget S k = r := ⟨_, rfl⟩
        rw [hr] at he g2 g3 g4 g5 g6 g7
        simp only at he g2 g3 g4 g5 g6 g7
        subst he
        obtain ⟨q, rfl⟩ := Int.eq_ofNat_of_zero_le (show 0 ≤ b by omega)
        have hG := fun W => HG.out (k : Int) W
        rw [hr] at hG
        have HGk := Lib.hid hG
        simp only at HGk
        have HU := Lib.hid (hup.more (by omega) hr (by omega))
        have hdn : d.length ≤ n := by
          have h1 := fput_len t d
          have h2 := congrArg List.length g7
          rw [h1, List.length_take, List.length_drop] at h2
          omega
        have hds : (str d).size ≤ n := by rw [str_size]; exact hdn
        obtain ⟨D, hD⟩ : ∃ D, str d = D := ⟨_, rfl⟩
        have HSN := Lib.hid (show secs (ys ++ [⟨t, D⟩]) = secs ys ++ [(t, d)] by rw [← hD]; exact secs_snoc ys t d)
        rw [hD] at HGk hds
        clear hG hr g1 g4 g5 g6 g7 hdn hD hup
        have hrow := fun i (hi : u6.ownBlock = some i) => hO.lt i hi
        go_wp2_with (first
          | (go_at_call 46; (with_reducible refine (HGk.out _).mono ?_); rintro e w1 ⟨rfl, hb1⟩
             have hO1 := own_of_block hO (fun i hi => hb1.block i (hrow i hi).2)
             have hnew := heap_alloc_new (w1.alloc (.cells #[.int .i64 t, .string D] 34)) (.cells #[.int .i64 t, .string D] 34)
             rw [World.size_alloc] at hnew
             have HNB := Lib.hid hnew
             have hB1 := ((hB.trans (hb1.mono hB.size)).alloc (Nat.le_trans hB.size hb1.size) (.cells #[.int .i64 t, .string D] 34)).alloc (by rw [World.size_alloc]; exact Nat.le_succ_of_le (Nat.le_trans hB.size hb1.size)) (.cells #[.int .i64 t, .string D] 34)
             have hsz1 : w.heap.size ≤ ((w1.alloc (.cells #[.int .i64 t, .string D] 34)).alloc (.cells #[.int .i64 t, .string D] 34)).heap.size := hB1.size
             clear hnew)
          | (at_builtin; refine wpList_append_own_at _ rfl _ _ 22 rfl w.heap.size 34 ig (.agg #[.int .i64 0, .string ⟨#[]⟩]) 2 24 Tryz.underlying22 hig hz0 hz1 hz2 rfl (by decide) _ ys.length _ rfl ((hO1.alloc _).alloc _) ⟨w1.heap.size + 1, 0, none⟩ 1 1 [.int .i64 t, .string D] rfl rfl (World.news_of_block (cs := #[.int .i64 t, .string D]) (t := 34) (fr := (0, 0)) HNB.out) (by simp [Value.oneCell']) (by simp only [maxLen]; omega) (by omega) hsz1 ?_; intro v7 w7 hown hg _ _))
        have hB7 : Below w.heap.size w w7 := hB1.grown hg (by rw [World.size_alloc, World.size_alloc]; have := hB.size; have := hb1.size; omega) (fun i e => (hO.lt i e).1)
        go_roundw
        case rel => exact ⟨q, ys ++ [⟨t, D⟩], by omega, by omega, by go_num, by rw [List.length_append]; simp; omega, by
          intro x hx
          rcases List.mem_append.1 hx with h | h
          · exact hyd x h
          · simp at h; rw [h]; exact hds, by rw [HSN.out]; exact HU.out, by rw [List.length_append, scells_snoc]; exact hown, hB7⟩
        case measure => simp [intOf]; omega
      · obtain ⟨e1, e2⟩ := fget_err S k he
        have HN := Lib.hid (hup.bad (by omega) he)
        obtain ⟨⟨⟨t, d⟩, b, c⟩, hr⟩ : ∃ r, fget S k = r := ⟨_, rfl⟩
        rw [hr] at he
        have hG := fun W => HG.out (k : Int) W
        rw [hr] at hG
        have HGk := Lib.hid hG
        simp only at he HGk
        have hc : (c != 0) = true := by simpa using he
        clear he e1 e2 hr hG
        go_wp2_with (go_at_call 46; (with_reducible refine (HGk.out _).mono ?_); rintro e w1 ⟨rfl, hb1⟩)
        go_ret2
        exact ⟨(hB.trans (hb1.mono hB.size)).alloc (Nat.le_trans hB.size hb1.size) _, .inl ⟨HN.out, rfl⟩⟩
    · have hk9 : k = n := by omega
      subst hk9
      have HN := Lib.hid (hup.done (by omega))
      obtain ⟨A, cap, rfl, hSec, hnil⟩ := sects_of_own hO (fun x hx => by have := hyd x hx; omega)
      go_wp2_with fail
      go_ret2
      exact ⟨hB, .inr ⟨A, cap, ys, HN.out, rfl, hSec, hnil⟩⟩

end Go.Proofs.YtfjdbbhaigjbmaaGreat.Cont
