/-
  Package frame, walked: a frame is got, as the document says.
-/
import Derived.Test.YthimplhfmamejaaFrameGet
import Derived.Test.YthimplhfmamejaaFramePut
namespace Go.Proofs.Ythimplhfmamejaa.Frame
open Go.RowKit Leb Mem Wire

/-- The third closure of Get: the sum. -/
theorem get3_any (u : ByteArray) (hus : u.size ≤ 1073741824) (f R p : Nat) (hp : p ≤ u.size) (er : Int) (w : World) (hf : Blk w f 47 #[.pointer (some ⟨R, 0, none⟩), .string u]) (hr : Rd w R u p er) :
    Calls Try.prog 30 #[.pointer (some ⟨f, 0, none⟩)] w fun e w' => e = .returned (.int .i64 (if Crc.good (u.data.toList.take p) then 0 else 6)) ∧ Below w.heap.size w w' := by
  obtain ⟨c0, c1⟩ := hf.two
  have HU := Lib.hid unless_any
  have HR := Lib.hid (read_any R u p er w hp hr)
  obtain ⟨l, hl⟩ : ∃ l, u.data.toList.take p = l := ⟨_, rfl⟩
  have hls : (str l).size ≤ 1073741824 := by rw [str_size, ← hl, List.length_take, len_of]; omega
  have HG := Lib.hid (fun W => Crc.Good_any (str l) hls W)
  rw [hl] at HR ⊢
  rw [str_list] at HG
  obtain ⟨b, hb⟩ : ∃ b, Crc.good l = b := ⟨_, rfl⟩
  rw [hb] at HG ⊢
  clear hl hb hls
  cases b
  all_goals
    go_enter Try.func30, Try.ntmps30
    go_wp2_with (first
      | (go_at_call 32; refine HR.out.mono ?_; rintro e w1 ⟨rfl, hb1⟩)
      | (go_at_call 31; refine (HG.out _).mono ?_; rintro e w2 ⟨rfl, hb2⟩)
      | (go_at_call 19; refine (HU.out _ _ _).mono ?_; rintro e w3 ⟨rfl, rfl⟩))
    go_ret
    exact ⟨rfl, below2 hb1 hb2⟩

/-- What Get's row of closures leaves, by how many were asked. -/
def Asked (s : ByteArray) (a : Int) (b0 b1 f x : Nat) (w : World) (i : Nat) (W : World) : Prop :=
  Kept (fun k => k = f ∨ k = x) w W ∧
  (if i = 0 then W = w else (0 ≤ a ∧ a ≤ s.size) ∧
    if i = 1 then W = w else ∃ p R : Nat, (fsec (s.data.toList.drop a.toNat)).2 = ((p : Int), 0) ∧ Got s a.toNat b0 b1 f x 0 p 0 R W ∧ w.heap.size ≤ R ∧ (2 < i → Crc.good ((s.data.toList.drop a.toNat).take p) = true))

set_option maxHeartbeats 1000000 in
theorem get_first (s : ByteArray) (a : Int) (hs : s.size ≤ 1073741824) (b0 b1 f x g c : Nat) (v0 v1 x0 x1 : Value) (w : World)
    (h0 : Blk w b0 9 #[.string s]) (h1 : Blk w b1 3 #[.int .i64 a]) (hf : Blk w f 47 #[v0, v1]) (hx : Blk w x 23 #[x0, x1])
    (hg : Blk w g 40 #[.func (.func 25) #[] #[.pointer (some ⟨b1, 0, none⟩), .pointer (some ⟨b0, 0, none⟩)],
      .func (.func 26) #[] #[.pointer (some ⟨b0, 0, none⟩), .pointer (some ⟨b1, 0, none⟩), .pointer (some ⟨f, 0, none⟩), .pointer (some ⟨x, 0, none⟩)],
      .func (.func 30) #[] #[.pointer (some ⟨f, 0, none⟩)]])
    (n0 : b0 ≠ f) (n1 : b1 ≠ f) (n2 : b0 ≠ x) (n3 : b1 ≠ x) (n4 : f ≠ x) (n5 : g ≠ f) (n6 : g ≠ x) :
    Calls Try.prog 17 #[.slice (some ⟨g, 0, none⟩) 3 c] w fun e w' => e = .returned (.int .i64 (fget s.data.toList a).2.2) ∧ Kept (fun k => k = f ∨ k = x) w w' ∧
      ((fget s.data.toList a).2.2 = 0 → ∃ p R : Nat, Got s a.toNat b0 b1 f x 0 p 0 R w' ∧ w.heap.size ≤ R ∧ fget s.data.toList a = ((fsec (s.data.toList.drop a.toNat)).1, a + p, 0)) := by
  have hG : ∀ W, Kept (fun k => k = f ∨ k = x) w W → Blk W g _ _ := fun W hk => hg.kept hk (by rintro (h | h); exact n5 h; exact n6 h)
  refine (first_any [(25, #[.pointer (some ⟨b1, 0, none⟩), .pointer (some ⟨b0, 0, none⟩)]), (26, #[.pointer (some ⟨b0, 0, none⟩), .pointer (some ⟨b1, 0, none⟩), .pointer (some ⟨f, 0, none⟩), .pointer (some ⟨x, 0, none⟩)]), (30, #[.pointer (some ⟨f, 0, none⟩)])] g c
    (Asked s a b0 b1 f x w) (fun er W => Kept (fun k => k = f ∨ k = x) w W ∧ (fget s.data.toList a).2.2 = er) ?_ ?_ ?_ (by simp) w ⟨Kept.refl _ _, by simp⟩).mono ?_
  · rintro i fn cs hfn W ⟨hk, -⟩
    rcases i with _ | _ | _ | i
    · simp at hfn; obtain ⟨rfl, rfl⟩ := hfn; exact (hG W hk).cell 0
    · simp at hfn; obtain ⟨rfl, rfl⟩ := hfn; exact (hG W hk).cell 1
    · simp at hfn; obtain ⟨rfl, rfl⟩ := hfn; exact (hG W hk).cell 2
    · simp at hfn
  · rintro i fn cs hfn W ⟨hk, hi⟩
    rcases i with _ | _ | _ | i
    · simp at hfn; obtain ⟨rfl, rfl⟩ := hfn
      rw [if_pos rfl] at hi
      subst hi
      refine (get1_any s a b0 b1 _ (h0.cell 0) (h1.cell 0)).mono ?_
      rintro e w' ⟨rfl, rfl⟩
      refine ⟨_, rfl, ?_⟩
      by_cases q : 0 ≤ a ∧ a ≤ s.size
      · rw [if_pos q]; exact .inl ⟨rfl, Kept.refl _ _, by rw [if_neg (by omega)]; exact ⟨q, by rw [if_pos rfl]⟩⟩
      · rw [if_neg q]; exact .inr ⟨by omega, Kept.refl _ _, by rw [fget_arg (by rw [len_of]; omega)]⟩
    · simp at hfn; obtain ⟨rfl, rfl⟩ := hfn
      rw [if_neg (by omega), if_pos rfl] at hi
      obtain ⟨⟨q0, q1⟩, rfl⟩ := hi
      obtain ⟨k, rfl⟩ := Int.eq_ofNat_of_zero_le q0
      refine (get2_any s k hs (by omega) b0 b1 f x v0 v1 x0 x1 _ h0 h1 hf hx n0 n1 n2 n3 n4).mono ?_
      rintro e w' ⟨rfl, ⟨R, hR, hgot⟩, hk'⟩
      refine ⟨_, rfl, ?_⟩
      have hfg := fget_sec s.data.toList k (by rw [len_of]; omega)
      by_cases q : (fsec (s.data.toList.drop k)).2.2 = 0
      · have hpr := fsec_range (s.data.toList.drop k)
        obtain ⟨p, hp⟩ := Int.eq_ofNat_of_zero_le hpr.1
        refine .inl ⟨q, hk', ?_⟩
        rw [if_neg (by omega), if_neg (by omega)]
        refine ⟨⟨q0, q1⟩, p, R, ?_, ?_, hR, by omega⟩
        · rw [Int.toNat_natCast]; exact Prod.ext hp q
        · rw [Int.toNat_natCast]; rw [q, hp] at hgot; exact hgot
      · exact .inr ⟨q, hk', by rw [hfg, if_pos q]⟩
    · simp at hfn; obtain ⟨rfl, rfl⟩ := hfn
      rw [if_neg (by omega), if_neg (by omega)] at hi
      obtain ⟨⟨q0, q1⟩, p, R, hp, hgot, hR, -⟩ := hi
      obtain ⟨k, rfl⟩ := Int.eq_ofNat_of_zero_le q0
      rw [Int.toNat_natCast] at hp hgot
      have hul := drop_str s k
      have hpr := fsec_range (s.data.toList.drop k)
      have hpl : p ≤ (s.extract k s.size).size := by rw [← len_of, hul]; have := congrArg Prod.fst hp; simp only at this; omega
      refine (get3_any (s.extract k s.size) (by rw [ByteArray.size_extract]; omega) f R p hpl 0 W hgot.fr hgot.rd).mono ?_
      rintro e w' ⟨rfl, hb⟩
      refine ⟨_, rfl, ?_⟩
      rw [hul]
      have hfg := fget_sec s.data.toList k (by rw [len_of]; omega)
      have e2 := congrArg Prod.snd hp
      have e1 := congrArg Prod.fst hp
      simp only at e1 e2
      rw [if_neg (by omega), e1, Int.toNat_natCast] at hfg
      by_cases q : Crc.good ((s.data.toList.drop k).take p) = true
      · rw [if_pos q]
        refine .inl ⟨rfl, hk.below hb, ?_⟩
        rw [if_neg (by omega), if_neg (by omega)]
        refine ⟨⟨q0, q1⟩, p, R, ?_, ?_, hR, fun _ => ?_⟩
        · rw [Int.toNat_natCast]; exact hp
        · rw [Int.toNat_natCast]
          exact ⟨hgot.str.below hb hgot.str.lt, hgot.at_.below hb hgot.at_.lt, hgot.fr.below hb hgot.fr.lt, hgot.se.below hb hgot.se.lt, Blk.below hgot.rd hb (Blk.lt hgot.rd)⟩
        · rw [Int.toNat_natCast]; exact q
      · rw [if_neg q] at hfg ⊢
        exact .inr ⟨by omega, hk.below hb, by rw [hfg]⟩
    · simp at hfn
  · intro i fn cs hfn W
    rcases i with _ | _ | _ | i
    · simp at hfn; obtain ⟨rfl, rfl⟩ := hfn; rfl
    · simp at hfn; obtain ⟨rfl, rfl⟩ := hfn; rfl
    · simp at hfn; obtain ⟨rfl, rfl⟩ := hfn; rfl
    · simp at hfn
  · rintro e w' ⟨er, rfl, (⟨rfl, hk, hi⟩ | ⟨hne, hk, hi⟩)⟩
    · rw [if_neg (by simp), if_neg (by simp)] at hi
      obtain ⟨⟨q0, q1⟩, p, R, hp, hgot, hR, hgood⟩ := hi
      obtain ⟨k, rfl⟩ := Int.eq_ofNat_of_zero_le q0
      rw [Int.toNat_natCast] at hp hgot hgood
      have hfg := fget_sec s.data.toList k (by rw [len_of]; omega)
      have e2 := congrArg Prod.snd hp
      have e1 := congrArg Prod.fst hp
      simp only at e1 e2
      rw [if_neg (by omega), e1, Int.toNat_natCast, if_pos (hgood (by simp))] at hfg
      refine ⟨by rw [hfg], hk, fun _ => ⟨p, R, ?_, hR, ?_⟩⟩
      · rw [Int.toNat_natCast]; exact hgot
      · rw [Int.toNat_natCast]; exact hfg
    · exact ⟨by rw [hi], hk, fun h => absurd (hi.symm.trans h) hne⟩

end Go.Proofs.Ythimplhfmamejaa.Frame
