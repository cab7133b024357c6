/-
  The laws of layer 13, walked on what the package's functions come to: what the document says, told.
-/
import Derived.Test.YtlaidcahkafgoaaCatWorks
import Derived.Test.YtlaidcahkafgoaaDeltaR
import Derived.Deep.RegionHeld3
import Derived.Deep.DrawnRows
set_option linter.unusedVariables false
namespace Go.Proofs.Ytlaidcahkafgoaa.Cat
open Go.RowKit Mem _root_.Go.Proofs.Ytlaidcahkafgoaa.Arena _root_.Go.Proofs.Ytlaidcahkafgoaa.Delta _root_.Go.Proofs.Ytlaidcahkafgoaa.Path
attribute [local go_sem ↓] Go.wp_at_zero Go.wp_at_succ

theorem dcmp_self (op n : Int) : dcmp [] op n [] op n = 0 := dcmp_zero.2 ⟨rfl, rfl, rfl⟩
theorem cell_keep {w w' : World} {B : Nat} {a : Addr} {v : Value} (hb : Below B w w') (ha : a.block < B) (h : w.cell? a = some v) : w'.cell? a = some v := by
  have hk := hb.block a.block ha
  rw [← h]; unfold World.cell?; rw [hk]
/-- The cells of one delta. -/
def Cel (w : World) (ad : Addr) (j : Nat) (P : Option Addr) (c : Nat) (op n : Int) : Prop :=
  w.cell? (ad.add (j * 3)) = some (.slice P 0 c) ∧ w.cell? ⟨(ad.add (j * 3)).block, (ad.add (j * 3)).off + 1, none⟩ = some (.int .i64 op) ∧ w.cell? ⟨(ad.add (j * 3)).block, (ad.add (j * 3)).off + 2, none⟩ = some (.int .i64 n)
theorem Cel.keep {w w' : World} {ad : Addr} {j : Nat} {P : Option Addr} {c : Nat} {op n : Int} (h : Cel w ad j P c op n) (ha : ad.block < w.heap.size) (hb : Below w.heap.size w w') : Cel w' ad j P c op n := by
  obtain ⟨h1, h2, h3⟩ := h
  exact ⟨cell_keep hb (by rw [add_blockN]; exact ha) h1, cell_keep hb (by show (ad.add (j * 3)).block < _; rw [add_blockN]; exact ha) h2, cell_keep hb (by show (ad.add (j * 3)).block < _; rw [add_blockN]; exact ha) h3⟩
/-- A delta of a row, as it is read. -/
theorem DRow.get {w : World} {A : Option Addr} {l : List (Int × Int)} (h : DRow w w.heap.size A l) {i : Nat} {b : Int × Int} (hi : l[i]? = some b) : ∃ ad P c, A = some ad ∧ ad.block < w.heap.size ∧ Dlt.Ok ⟨P, c, [], b.1, b.2⟩ w ∧
    Cel w ad i P c b.1 b.2 := by
  obtain ⟨ad, P, c, e, h1, h2, h3, h4, h5⟩ := h i b hi
  exact ⟨ad, P, c, e, h1, ⟨fun i x h => by simp at h, by simp, by simp, h2⟩, h3, h4, h5⟩
theorem chs_len (l : List Nd) (a : Int) : (chs l a).length ≤ 126 := by
  rcases aend_cases l a with he | ⟨k, m, rfl, hs, -, -, -⟩
  · rw [show chs l a = [] from if_pos (by rw [he]; decide)]; decide
  · rw [chs_some hs]
    unfold choices
    have := upto_len (nodeAt l k) (behind l k) 7
    omega

set_option maxRecDepth 100000 in
set_option maxHeartbeats 4000000 in
theorem catalogTells_of (C : Pkg) (A : Option Addr) (c : Nat) (l : List Nd) (hc : l.length ≤ c) (hA : A = none → c = 0) (at_ op n : Int) (w : World) (hx : Nodes w w.heap.size A l) :
    Calls Try.prog 3 #[.slice A l.length c, .int .i64 at_, .int .i64 op, .int .i64 n] w fun e w' => e = .returned (.bool true) ∧ Below w.heap.size w w' := by
  have HW := Lib.hid (fun W => works_any C W)
  have HX := Lib.hid (fun W (h : Below w.heap.size w W) => Nodes.at hx h)
  clear hx
  by_cases h1 : 60 < l.length
  · have j1 : (60 : Int) < (l.length : Int) := by omega
    go_enter Try.func3, Try.ntmps3
    go_wp2_with (go_at_call 8; refine (HW.out _).mono ?_; rintro e w2 ⟨rfl, hb2⟩)
    go_ret
    exact ⟨rfl, hb2⟩
  have j1 : ¬ (60 : Int) < (l.length : Int) := by omega
  have hL := chs_len l at_
  have K1 := Lib.hid (fun W h => C.choices A c l at_ W h hc hA (by omega))
  have K2 := Lib.hid (fun W h => ref_Choices_any A c l at_ W h (by omega))
  have K3 := Lib.hid (fun W h => C.is A c l at_ op n W h hc hA (by omega))
  have K4 := Lib.hid (fun W h => ref_Is_any A c l at_ op n W h (by omega))
  unfold ChEnds at K1 K2
  generalize chs l at_ = L at *
  generalize isv l at_ op n = b at *
  clear h1 hc hA
  go_enter Try.func3, Try.ntmps3
  go_wp2_with fail
  refine (HW.out _).mono ?_
  rintro e w2 ⟨rfl, hB⟩
  go_wp2_with fail
  refine (K1.out _ (HX.out _ hB)).mono ?_
  rintro e w3 ⟨hb3, A3, c3, rfl, -, -, hD3⟩
  have hB3 := hB.trans (hb3.mono hB.size)
  have D3 := Lib.hid hD3
  clear hD3
  go_wp2_with fail
  refine (K2.out _ (HX.out _ hB3)).mono ?_
  rintro e w4 ⟨hb4, A4, c4, rfl, -, -, hD4⟩
  have hB4 := hB3.trans (hb4.mono hB3.size)
  have D4 := Lib.hid hD4
  have D34 := Lib.hid (DRow.at D3.out hb4)
  clear hD4
  go_wp2_with fail
  go_loopw [12] (fun i wr => ∃ j : Nat, j ≤ L.length ∧ i = .int .i64 j ∧ Below w4.heap.size w4 wr) (fun i _ => L.length - (intOf i).toNat)
  case atStart => exact ⟨0, by omega, rfl, Below.refl _ _⟩
  case round =>
    obtain ⟨j, hj, rfl, hb5⟩ := hrel
    have hB5 := hB4.trans (hb5.mono hB4.size)
    by_cases hlt : j < L.length
    · have i1 : (j : Int) < (L.length : Int) := by omega
      have i2 : (0 : Int) ≤ (j : Int) := by omega
      obtain ⟨d, hd⟩ : ∃ d, L[j]? = some d := ⟨_, List.getElem?_eq_getElem hlt⟩
      obtain ⟨ad, P, cp, rfl, bl, ok, ce⟩ := DRow.get (DRow.at D34.out hb5) hd
      obtain ⟨ad', P', cp', rfl, bl', ok', ce'⟩ := DRow.get (DRow.at D4.out hb5) hd
      obtain ⟨dop, dn⟩ := d
      simp only at ok ok' ce ce'
      have HCC := Lib.hid (fun W h h' => show Calls Try.prog 11 #[.agg #[.slice P 0 cp, .int .i64 dop, .int .i64 dn], .agg #[.slice P' 0 cp', .int .i64 dop, .int .i64 dn]] W (fun e w' => e = .returned (.int .i64 0) ∧ Below W.heap.size W w') from by
        have q := ref_DCompare_any ⟨P, cp, [], dop, dn⟩ ⟨P', cp', [], dop, dn⟩ W h h'
        simp only [dcmp_self] at q
        exact q)
      have OK := Lib.hid ok
      have OK' := Lib.hid ok'
      have HS := Lib.hid (fun W (h : Below wr.heap.size wr W) => And.intro (ce.keep bl h) (ce'.keep bl' h))
      have hS := HS.out _ (Below.refl _ _)
      unfold Cel at hS
      clear hd ok ok' ce ce' bl bl'
      go_wp2_with fail
      go_region_held3 (fun w' => (w'.cell? (ad.add (j * 3)) = some (.slice P 0 cp) ∧ w'.cell? ⟨(ad.add (j * 3)).block, (ad.add (j * 3)).off + 1, none⟩ = some (.int .i64 dop) ∧ w'.cell? ⟨(ad.add (j * 3)).block, (ad.add (j * 3)).off + 2, none⟩ = some (.int .i64 dn)) ∧ (w'.cell? (ad'.add (j * 3)) = some (.slice P' 0 cp') ∧ w'.cell? ⟨(ad'.add (j * 3)).block, (ad'.add (j * 3)).off + 1, none⟩ = some (.int .i64 dop) ∧ w'.cell? ⟨(ad'.add (j * 3)).block, (ad'.add (j * 3)).off + 2, none⟩ = some (.int .i64 dn))) (exact hS) (first
        | (go_at_call 11; refine (HCC.out _ OK.out.drew OK'.out.drew).mono ?_; rintro e w6 ⟨rfl, hb6⟩; have hb7 := hb5.drew.trans (hb6.mono hb5.size); have hS := HS.out _ ((Below.refl wr.heap.size wr).drew.trans hb6); unfold Cel at hS)
        | fail)
      go_wp2_with fail
      go_roundw
      case rel => exact ⟨j + 1, by omega, by go_num, hb7⟩
      case measure => simp [intOf]; omega
    · have i1 : ¬ (j : Int) < (L.length : Int) := by omega
      go_wp2_with (first
        | (go_at_call 12; refine (K3.out _ (HX.out _ hB5)).mono ?_; rintro e w6 ⟨rfl, hb6⟩; have hB6 := hB5.trans (hb6.mono hB5.size))
        | (go_at_call 13; refine (K4.out _ (HX.out _ hB6)).mono ?_; rintro e w7 ⟨rfl, hb7⟩; have hB7 := hB6.trans (hb7.mono hB6.size))
        | fail)
      go_ret
      exact ⟨rfl, hB7⟩

end Go.Proofs.Ytlaidcahkafgoaa.Cat
