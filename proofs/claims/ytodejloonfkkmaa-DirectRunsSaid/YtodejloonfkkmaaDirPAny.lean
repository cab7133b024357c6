/-
  Package direct, walked: every node of a typed program, entered, does what it means.
-/
import Derived.Test.YtodejloonfkkmaaDirPDoC
import Derived.Test.YtodejloonfkkmaaDirKid
set_option linter.unusedVariables false
set_option linter.unusedSimpArgs false
namespace Go.Proofs.Ytodejloonfkkmaa.Dir
open Go.RowKit Mem _root_.Go.Proofs.Ytodejloonfkkmaa.Arena _root_.Go.Proofs.Ytodejloonfkkmaa.Kinds _root_.Go.Proofs.Ytodejloonfkkmaa.Path _root_.Go.Proofs.Ytodejloonfkkmaa.Cat _root_.Go.Proofs.Ytodejloonfkkmaa.Suite _root_.Go.Proofs.Ytodejloonfkkmaa.Mach

section
variable {K : DK} {κ : Nat → Nat} {evv : Value} {Y : List ((Option Addr × Nat) × List Int)} {s : St} {pos : Int} {W W' : World}
set_option maxRecDepth 100000 in
theorem ent_1 (h : DM K κ evv Y s pos W) (ho : s.over = false) (h0 : s.steps ≠ K.F) (hF : s.steps ≤ 10000) {k : Nat} (hp : pos = k) {N : Int} (hx : K.p.xs[k]? = some (1, N)) {r : St × Int} {q' : Int}
    (HD : ∀ κ evv Y W, DM K κ evv Y s.tick ((k : Int) + 1) W → Calls Try.prog 87 #[.agg #[], .pointer (some ⟨K.g, 0, none⟩), .int .i64 N] W (DEnds K κ r q' W)) : Calls Try.prog 33 #[.pointer (some ⟨K.g, 0, none⟩)] W (DEnds K κ r q' W) :=
  denter_on h ho h0 hF hp (m := 1) hx (by decide) (fun _ _ _ _ => rfl) (fun n W => by kernel_rfl) (fun cs W => by kernel_rfl) HD
set_option maxRecDepth 100000 in
theorem ent_2 (h : DM K κ evv Y s pos W) (ho : s.over = false) (h0 : s.steps ≠ K.F) (hF : s.steps ≤ 10000) {k : Nat} (hp : pos = k) {N : Int} (hx : K.p.xs[k]? = some (2, N)) {r : St × Int} {q' : Int}
    (HD : ∀ κ evv Y W, DM K κ evv Y s.tick ((k : Int) + 1) W → Calls Try.prog 87 #[.agg #[], .pointer (some ⟨K.g, 0, none⟩), .int .i64 N] W (DEnds K κ r q' W)) : Calls Try.prog 33 #[.pointer (some ⟨K.g, 0, none⟩)] W (DEnds K κ r q' W) :=
  denter_on h ho h0 hF hp (m := 2) hx (by decide) (fun _ _ _ _ => rfl) (fun n W => by kernel_rfl) (fun cs W => by kernel_rfl) HD
set_option maxRecDepth 100000 in
theorem ent_3 (h : DM K κ evv Y s pos W) (ho : s.over = false) (h0 : s.steps ≠ K.F) (hF : s.steps ≤ 10000) {k : Nat} (hp : pos = k) {N : Int} (hx : K.p.xs[k]? = some (3, N)) {r : St × Int} {q' : Int}
    (HD : ∀ κ evv Y W, DM K κ evv Y s.tick ((k : Int) + 1) W → Calls Try.prog 88 #[.agg #[], .pointer (some ⟨K.g, 0, none⟩), .int .i64 N] W (DEnds K κ r q' W)) : Calls Try.prog 33 #[.pointer (some ⟨K.g, 0, none⟩)] W (DEnds K κ r q' W) :=
  denter_on h ho h0 hF hp (m := 3) hx (by decide) (fun _ _ _ _ => rfl) (fun n W => by kernel_rfl) (fun cs W => by kernel_rfl) HD
set_option maxRecDepth 100000 in
theorem ent_4 (h : DM K κ evv Y s pos W) (ho : s.over = false) (h0 : s.steps ≠ K.F) (hF : s.steps ≤ 10000) {k : Nat} (hp : pos = k) {N : Int} (hx : K.p.xs[k]? = some (4, N)) {r : St × Int} {q' : Int}
    (HD : ∀ κ evv Y W, DM K κ evv Y s.tick ((k : Int) + 1) W → Calls Try.prog 89 #[.agg #[], .pointer (some ⟨K.g, 0, none⟩), .int .i64 N] W (DEnds K κ r q' W)) : Calls Try.prog 33 #[.pointer (some ⟨K.g, 0, none⟩)] W (DEnds K κ r q' W) :=
  denter_on h ho h0 hF hp (m := 4) hx (by decide) (fun _ _ _ _ => rfl) (fun n W => by kernel_rfl) (fun cs W => by kernel_rfl) HD
set_option maxRecDepth 100000 in
theorem ent_5 (h : DM K κ evv Y s pos W) (ho : s.over = false) (h0 : s.steps ≠ K.F) (hF : s.steps ≤ 10000) {k : Nat} (hp : pos = k) {N : Int} (hx : K.p.xs[k]? = some (5, N)) {r : St × Int} {q' : Int}
    (HD : ∀ κ evv Y W, DM K κ evv Y s.tick ((k : Int) + 1) W → Calls Try.prog 91 #[.agg #[], .pointer (some ⟨K.g, 0, none⟩), .int .i64 N] W (DEnds K κ r q' W)) : Calls Try.prog 33 #[.pointer (some ⟨K.g, 0, none⟩)] W (DEnds K κ r q' W) :=
  denter_on h ho h0 hF hp (m := 5) hx (by decide) (fun _ _ _ _ => rfl) (fun n W => by kernel_rfl) (fun cs W => by kernel_rfl) HD
set_option maxRecDepth 100000 in
theorem ent_6 (h : DM K κ evv Y s pos W) (ho : s.over = false) (h0 : s.steps ≠ K.F) (hF : s.steps ≤ 10000) {k : Nat} (hp : pos = k) {N : Int} (hx : K.p.xs[k]? = some (6, N)) {r : St × Int} {q' : Int}
    (HD : ∀ κ evv Y W, DM K κ evv Y s.tick ((k : Int) + 1) W → Calls Try.prog 92 #[.agg #[], .pointer (some ⟨K.g, 0, none⟩), .int .i64 N] W (DEnds K κ r q' W)) : Calls Try.prog 33 #[.pointer (some ⟨K.g, 0, none⟩)] W (DEnds K κ r q' W) :=
  denter_on h ho h0 hF hp (m := 6) hx (by decide) (fun _ _ _ _ => rfl) (fun n W => by kernel_rfl) (fun cs W => by kernel_rfl) HD
set_option maxRecDepth 100000 in
theorem ent_7 (h : DM K κ evv Y s pos W) (ho : s.over = false) (h0 : s.steps ≠ K.F) (hF : s.steps ≤ 10000) {k : Nat} (hp : pos = k) {N : Int} (hx : K.p.xs[k]? = some (7, N)) {r : St × Int} {q' : Int}
    (HD : ∀ κ evv Y W, DM K κ evv Y s.tick ((k : Int) + 1) W → Calls Try.prog 93 #[.agg #[], .pointer (some ⟨K.g, 0, none⟩), .int .i64 N] W (DEnds K κ r q' W)) : Calls Try.prog 33 #[.pointer (some ⟨K.g, 0, none⟩)] W (DEnds K κ r q' W) :=
  denter_on h ho h0 hF hp (m := 7) hx (by decide) (fun _ _ _ _ => rfl) (fun n W => by kernel_rfl) (fun cs W => by kernel_rfl) HD
set_option maxRecDepth 100000 in
theorem ent_8 (h : DM K κ evv Y s pos W) (ho : s.over = false) (h0 : s.steps ≠ K.F) (hF : s.steps ≤ 10000) {k : Nat} (hp : pos = k) {N : Int} (hx : K.p.xs[k]? = some (8, N)) {r : St × Int} {q' : Int}
    (HD : ∀ κ evv Y W, DM K κ evv Y s.tick ((k : Int) + 1) W → Calls Try.prog 94 #[.agg #[], .pointer (some ⟨K.g, 0, none⟩), .int .i64 N] W (DEnds K κ r q' W)) : Calls Try.prog 33 #[.pointer (some ⟨K.g, 0, none⟩)] W (DEnds K κ r q' W) :=
  denter_on h ho h0 hF hp (m := 8) hx (by decide) (fun _ _ _ _ => rfl) (fun n W => by kernel_rfl) (fun cs W => by kernel_rfl) HD
set_option maxRecDepth 100000 in
theorem ent_9 (h : DM K κ evv Y s pos W) (ho : s.over = false) (h0 : s.steps ≠ K.F) (hF : s.steps ≤ 10000) {k : Nat} (hp : pos = k) {N : Int} (hx : K.p.xs[k]? = some (9, N)) {r : St × Int} {q' : Int}
    (HD : ∀ κ evv Y W, DM K κ evv Y s.tick ((k : Int) + 1) W → Calls Try.prog 95 #[.agg #[], .pointer (some ⟨K.g, 0, none⟩), .int .i64 N] W (DEnds K κ r q' W)) : Calls Try.prog 33 #[.pointer (some ⟨K.g, 0, none⟩)] W (DEnds K κ r q' W) :=
  denter_on h ho h0 hF hp (m := 9) hx (by decide) (fun _ _ _ _ => rfl) (fun n W => by kernel_rfl) (fun cs W => by kernel_rfl) HD
set_option maxRecDepth 100000 in
theorem ent_10 (h : DM K κ evv Y s pos W) (ho : s.over = false) (h0 : s.steps ≠ K.F) (hF : s.steps ≤ 10000) {k : Nat} (hp : pos = k) {N : Int} (hx : K.p.xs[k]? = some (10, N)) {r : St × Int} {q' : Int}
    (HD : ∀ κ evv Y W, DM K κ evv Y s.tick ((k : Int) + 1) W → Calls Try.prog 96 #[.agg #[], .pointer (some ⟨K.g, 0, none⟩), .int .i64 N] W (DEnds K κ r q' W)) : Calls Try.prog 33 #[.pointer (some ⟨K.g, 0, none⟩)] W (DEnds K κ r q' W) :=
  denter_on h ho h0 hF hp (m := 10) hx (by decide) (fun _ _ _ _ => rfl) (fun n W => by kernel_rfl) (fun cs W => by kernel_rfl) HD
set_option maxRecDepth 100000 in
theorem ent_11 (h : DM K κ evv Y s pos W) (ho : s.over = false) (h0 : s.steps ≠ K.F) (hF : s.steps ≤ 10000) {k : Nat} (hp : pos = k) {N : Int} (hx : K.p.xs[k]? = some (11, N)) {r : St × Int} {q' : Int}
    (HD : ∀ κ evv Y W, DM K κ evv Y s.tick ((k : Int) + 1) W → Calls Try.prog 98 #[.agg #[], .pointer (some ⟨K.g, 0, none⟩), .int .i64 N] W (DEnds K κ r q' W)) : Calls Try.prog 33 #[.pointer (some ⟨K.g, 0, none⟩)] W (DEnds K κ r q' W) :=
  denter_on h ho h0 hF hp (m := 11) hx (by decide) (fun _ _ _ _ => rfl) (fun n W => by kernel_rfl) (fun cs W => by kernel_rfl) HD
set_option maxRecDepth 100000 in
theorem ent_12 (h : DM K κ evv Y s pos W) (ho : s.over = false) (h0 : s.steps ≠ K.F) (hF : s.steps ≤ 10000) {k : Nat} (hp : pos = k) {N : Int} (hx : K.p.xs[k]? = some (12, N)) {r : St × Int} {q' : Int}
    (HD : ∀ κ evv Y W, DM K κ evv Y s.tick ((k : Int) + 1) W → Calls Try.prog 99 #[.agg #[], .pointer (some ⟨K.g, 0, none⟩), .int .i64 N] W (DEnds K κ r q' W)) : Calls Try.prog 33 #[.pointer (some ⟨K.g, 0, none⟩)] W (DEnds K κ r q' W) :=
  denter_on h ho h0 hF hp (m := 12) hx (by decide) (fun _ _ _ _ => rfl) (fun n W => by kernel_rfl) (fun cs W => by kernel_rfl) HD
set_option maxRecDepth 100000 in
theorem ent_13 (h : DM K κ evv Y s pos W) (ho : s.over = false) (h0 : s.steps ≠ K.F) (hF : s.steps ≤ 10000) {k : Nat} (hp : pos = k) {N : Int} (hx : K.p.xs[k]? = some (13, N)) {r : St × Int} {q' : Int}
    (HD : ∀ κ evv Y W, DM K κ evv Y s.tick ((k : Int) + 1) W → Calls Try.prog 101 #[.agg #[], .pointer (some ⟨K.g, 0, none⟩), .int .i64 N] W (DEnds K κ r q' W)) : Calls Try.prog 33 #[.pointer (some ⟨K.g, 0, none⟩)] W (DEnds K κ r q' W) :=
  denter_on h ho h0 hF hp (m := 13) hx (by decide) (fun _ _ _ _ => rfl) (fun n W => by kernel_rfl) (fun cs W => by kernel_rfl) HD
set_option maxRecDepth 100000 in
theorem ent_14 (h : DM K κ evv Y s pos W) (ho : s.over = false) (h0 : s.steps ≠ K.F) (hF : s.steps ≤ 10000) {k : Nat} (hp : pos = k) {N : Int} (hx : K.p.xs[k]? = some (14, N)) {r : St × Int} {q' : Int}
    (HD : ∀ κ evv Y W, DM K κ evv Y s.tick ((k : Int) + 1) W → Calls Try.prog 102 #[.agg #[], .pointer (some ⟨K.g, 0, none⟩), .int .i64 N] W (DEnds K κ r q' W)) : Calls Try.prog 33 #[.pointer (some ⟨K.g, 0, none⟩)] W (DEnds K κ r q' W) :=
  denter_on h ho h0 hF hp (m := 14) hx (by decide) (fun _ _ _ _ => rfl) (fun n W => by kernel_rfl) (fun cs W => by kernel_rfl) HD
set_option maxRecDepth 100000 in
theorem ent_15 (h : DM K κ evv Y s pos W) (ho : s.over = false) (h0 : s.steps ≠ K.F) (hF : s.steps ≤ 10000) {k : Nat} (hp : pos = k) {N : Int} (hx : K.p.xs[k]? = some (15, N)) {r : St × Int} {q' : Int}
    (HD : ∀ κ evv Y W, DM K κ evv Y s.tick ((k : Int) + 1) W → Calls Try.prog 103 #[.agg #[], .pointer (some ⟨K.g, 0, none⟩), .int .i64 N] W (DEnds K κ r q' W)) : Calls Try.prog 33 #[.pointer (some ⟨K.g, 0, none⟩)] W (DEnds K κ r q' W) :=
  denter_on h ho h0 hF hp (m := 15) hx (by decide) (fun _ _ _ _ => rfl) (fun n W => by kernel_rfl) (fun cs W => by kernel_rfl) HD
set_option maxRecDepth 100000 in
theorem ent_16 (h : DM K κ evv Y s pos W) (ho : s.over = false) (h0 : s.steps ≠ K.F) (hF : s.steps ≤ 10000) {k : Nat} (hp : pos = k) {N : Int} (hx : K.p.xs[k]? = some (16, N)) {r : St × Int} {q' : Int}
    (HD : ∀ κ evv Y W, DM K κ evv Y s.tick ((k : Int) + 1) W → Calls Try.prog 104 #[.agg #[], .pointer (some ⟨K.g, 0, none⟩), .int .i64 N] W (DEnds K κ r q' W)) : Calls Try.prog 33 #[.pointer (some ⟨K.g, 0, none⟩)] W (DEnds K κ r q' W) :=
  denter_on h ho h0 hF hp (m := 16) hx (by decide) (fun _ _ _ _ => rfl) (fun n W => by kernel_rfl) (fun cs W => by kernel_rfl) HD
set_option maxRecDepth 100000 in
theorem ent_17 (h : DM K κ evv Y s pos W) (ho : s.over = false) (h0 : s.steps ≠ K.F) (hF : s.steps ≤ 10000) {k : Nat} (hp : pos = k) {N : Int} (hx : K.p.xs[k]? = some (17, N)) {r : St × Int} {q' : Int}
    (HD : ∀ κ evv Y W, DM K κ evv Y s.tick ((k : Int) + 1) W → Calls Try.prog 105 #[.agg #[], .pointer (some ⟨K.g, 0, none⟩), .int .i64 N] W (DEnds K κ r q' W)) : Calls Try.prog 33 #[.pointer (some ⟨K.g, 0, none⟩)] W (DEnds K κ r q' W) :=
  denter_on h ho h0 hF hp (m := 17) hx (by decide) (fun _ _ _ _ => rfl) (fun n W => by kernel_rfl) (fun cs W => by kernel_rfl) HD
set_option maxRecDepth 100000 in
theorem ent_18 (h : DM K κ evv Y s pos W) (ho : s.over = false) (h0 : s.steps ≠ K.F) (hF : s.steps ≤ 10000) {k : Nat} (hp : pos = k) {N : Int} (hx : K.p.xs[k]? = some (18, N)) {r : St × Int} {q' : Int}
    (HD : ∀ κ evv Y W, DM K κ evv Y s.tick ((k : Int) + 1) W → Calls Try.prog 106 #[.agg #[], .pointer (some ⟨K.g, 0, none⟩), .int .i64 N] W (DEnds K κ r q' W)) : Calls Try.prog 33 #[.pointer (some ⟨K.g, 0, none⟩)] W (DEnds K κ r q' W) :=
  denter_on h ho h0 hF hp (m := 18) hx (by decide) (fun _ _ _ _ => rfl) (fun n W => by kernel_rfl) (fun cs W => by kernel_rfl) HD
set_option maxRecDepth 100000 in
theorem ent_19 (h : DM K κ evv Y s pos W) (ho : s.over = false) (h0 : s.steps ≠ K.F) (hF : s.steps ≤ 10000) {k : Nat} (hp : pos = k) {N : Int} (hx : K.p.xs[k]? = some (19, N)) {r : St × Int} {q' : Int}
    (HD : ∀ κ evv Y W, DM K κ evv Y s.tick ((k : Int) + 1) W → Calls Try.prog 107 #[.agg #[], .pointer (some ⟨K.g, 0, none⟩), .int .i64 N] W (DEnds K κ r q' W)) : Calls Try.prog 33 #[.pointer (some ⟨K.g, 0, none⟩)] W (DEnds K κ r q' W) :=
  denter_on h ho h0 hF hp (m := 19) hx (by decide) (fun _ _ _ _ => rfl) (fun n W => by kernel_rfl) (fun cs W => by kernel_rfl) HD
set_option maxRecDepth 100000 in
theorem ent_20 (h : DM K κ evv Y s pos W) (ho : s.over = false) (h0 : s.steps ≠ K.F) (hF : s.steps ≤ 10000) {k : Nat} (hp : pos = k) {N : Int} (hx : K.p.xs[k]? = some (20, N)) {r : St × Int} {q' : Int}
    (HD : ∀ κ evv Y W, DM K κ evv Y s.tick ((k : Int) + 1) W → Calls Try.prog 108 #[.agg #[], .pointer (some ⟨K.g, 0, none⟩), .int .i64 N] W (DEnds K κ r q' W)) : Calls Try.prog 33 #[.pointer (some ⟨K.g, 0, none⟩)] W (DEnds K κ r q' W) :=
  denter_on h ho h0 hF hp (m := 20) hx (by decide) (fun _ _ _ _ => rfl) (fun n W => by kernel_rfl) (fun cs W => by kernel_rfl) HD
set_option maxRecDepth 100000 in
theorem ent_21 (h : DM K κ evv Y s pos W) (ho : s.over = false) (h0 : s.steps ≠ K.F) (hF : s.steps ≤ 10000) {k : Nat} (hp : pos = k) {N : Int} (hx : K.p.xs[k]? = some (21, N)) {r : St × Int} {q' : Int}
    (HD : ∀ κ evv Y W, DM K κ evv Y s.tick ((k : Int) + 1) W → Calls Try.prog 109 #[.agg #[], .pointer (some ⟨K.g, 0, none⟩), .int .i64 N] W (DEnds K κ r q' W)) : Calls Try.prog 33 #[.pointer (some ⟨K.g, 0, none⟩)] W (DEnds K κ r q' W) :=
  denter_on h ho h0 hF hp (m := 21) hx (by decide) (fun _ _ _ _ => rfl) (fun n W => by kernel_rfl) (fun cs W => by kernel_rfl) HD
set_option maxRecDepth 100000 in
theorem ent_22 (h : DM K κ evv Y s pos W) (ho : s.over = false) (h0 : s.steps ≠ K.F) (hF : s.steps ≤ 10000) {k : Nat} (hp : pos = k) {N : Int} (hx : K.p.xs[k]? = some (22, N)) {r : St × Int} {q' : Int}
    (HD : ∀ κ evv Y W, DM K κ evv Y s.tick ((k : Int) + 1) W → Calls Try.prog 111 #[.agg #[], .pointer (some ⟨K.g, 0, none⟩), .int .i64 N] W (DEnds K κ r q' W)) : Calls Try.prog 33 #[.pointer (some ⟨K.g, 0, none⟩)] W (DEnds K κ r q' W) :=
  denter_on h ho h0 hF hp (m := 22) hx (by decide) (fun _ _ _ _ => rfl) (fun n W => by kernel_rfl) (fun cs W => by kernel_rfl) HD
set_option maxRecDepth 100000 in
theorem ent_23 (h : DM K κ evv Y s pos W) (ho : s.over = false) (h0 : s.steps ≠ K.F) (hF : s.steps ≤ 10000) {k : Nat} (hp : pos = k) {N : Int} (hx : K.p.xs[k]? = some (23, N)) {r : St × Int} {q' : Int}
    (HD : ∀ κ evv Y W, DM K κ evv Y s.tick ((k : Int) + 1) W → Calls Try.prog 112 #[.agg #[], .pointer (some ⟨K.g, 0, none⟩), .int .i64 N] W (DEnds K κ r q' W)) : Calls Try.prog 33 #[.pointer (some ⟨K.g, 0, none⟩)] W (DEnds K κ r q' W) :=
  denter_on h ho h0 hF hp (m := 23) hx (by decide) (fun _ _ _ _ => rfl) (fun n W => by kernel_rfl) (fun cs W => by kernel_rfl) HD
set_option maxRecDepth 100000 in
theorem ent_24 (h : DM K κ evv Y s pos W) (ho : s.over = false) (h0 : s.steps ≠ K.F) (hF : s.steps ≤ 10000) {k : Nat} (hp : pos = k) {N : Int} (hx : K.p.xs[k]? = some (24, N)) {r : St × Int} {q' : Int}
    (HD : ∀ κ evv Y W, DM K κ evv Y s.tick ((k : Int) + 1) W → Calls Try.prog 113 #[.agg #[], .pointer (some ⟨K.g, 0, none⟩), .int .i64 N] W (DEnds K κ r q' W)) : Calls Try.prog 33 #[.pointer (some ⟨K.g, 0, none⟩)] W (DEnds K κ r q' W) :=
  denter_on h ho h0 hF hp (m := 24) hx (by decide) (fun _ _ _ _ => rfl) (fun n W => by kernel_rfl) (fun cs W => by kernel_rfl) HD
set_option maxRecDepth 100000 in
theorem ent_25 (h : DM K κ evv Y s pos W) (ho : s.over = false) (h0 : s.steps ≠ K.F) (hF : s.steps ≤ 10000) {k : Nat} (hp : pos = k) {N : Int} (hx : K.p.xs[k]? = some (25, N)) {r : St × Int} {q' : Int}
    (HD : ∀ κ evv Y W, DM K κ evv Y s.tick ((k : Int) + 1) W → Calls Try.prog 114 #[.agg #[], .pointer (some ⟨K.g, 0, none⟩), .int .i64 N] W (DEnds K κ r q' W)) : Calls Try.prog 33 #[.pointer (some ⟨K.g, 0, none⟩)] W (DEnds K κ r q' W) :=
  denter_on h ho h0 hF hp (m := 25) hx (by decide) (fun _ _ _ _ => rfl) (fun n W => by kernel_rfl) (fun cs W => by kernel_rfl) HD
set_option maxRecDepth 100000 in
theorem ent_26 (h : DM K κ evv Y s pos W) (ho : s.over = false) (h0 : s.steps ≠ K.F) (hF : s.steps ≤ 10000) {k : Nat} (hp : pos = k) {N : Int} (hx : K.p.xs[k]? = some (26, N)) {r : St × Int} {q' : Int}
    (HD : ∀ κ evv Y W, DM K κ evv Y s.tick ((k : Int) + 1) W → Calls Try.prog 115 #[.agg #[], .pointer (some ⟨K.g, 0, none⟩), .int .i64 N] W (DEnds K κ r q' W)) : Calls Try.prog 33 #[.pointer (some ⟨K.g, 0, none⟩)] W (DEnds K κ r q' W) :=
  denter_on h ho h0 hF hp (m := 26) hx (by decide) (fun _ _ _ _ => rfl) (fun n W => by kernel_rfl) (fun cs W => by kernel_rfl) HD
end
/-- A state that may be entered; one that has been. -/
structure Good (K : DK) (s : St) : Prop where
  on : s.over = false
  wt : WT K.p.vs s
  fits : Fits s
  sum : s.steps + s.fuel = K.F
structure Good1 (K : DK) (s : St) : Prop where
  on : s.over = false
  wt : WT K.p.vs s
  fits : Fits1 s
  sum : s.steps + s.fuel = K.F
section
variable {K : DK} {s : St}
theorem Good.le (h : Good K s) : s.steps ≤ 10000 := by have := h.fits.top; omega
theorem Good1.good (h : Good1 K s) : Good K s := ⟨h.on, h.wt, h.fits.fits, h.sum⟩
theorem Good.tick (h : Good K s) (h0 : s.fuel ≠ 0) : Good1 K s.tick := ⟨h.on, h.wt.tick, h.fits.tick h0, by have := h.sum; show s.steps + 1 + (s.fuel - 1) = K.F; omega⟩
/-- Behind a node. -/
theorem Good1.behind (h : Good1 K s) (hall : ∀ k n : Nat, scan 1 (K.p.xs.drop k) = some n → 0 ≤ okind K.p.vs K.p.xs k) {k n : Nat} (hn : scan 1 (K.p.xs.drop k) = some n) : s.steps ≤ (mean K.p.xs k s).1.steps ∧ ((mean K.p.xs k s).1.over = false → Good1 K (mean K.p.xs k s).1 ∧ Of1 (okind K.p.vs K.p.xs k) (mean K.p.xs k s).2) := by
  obtain ⟨a1, a2⟩ := sound_mean hall _ k n (Nat.le_refl _) hn s h.wt h.on
  exact ⟨(nice_mean K.p.xs k).grow s h.on, fun ho => ⟨⟨ho, a1, h.fits.mean h.on _ _, by rw [(nice_mean K.p.xs k).sum s h.on]; exact h.sum⟩, a2 ho⟩⟩
theorem rest_over {ms : List Mach.Sem} (hr : ∀ m ∈ ms, Rests m) {j : Nat} (ho : (runM (ms.take j) s).over = true) : ∀ d, j + d ≤ ms.length → runM (ms.take (j + d)) s = runM (ms.take j) s
  | 0, _ => rfl
  | d + 1, h => by
    have ih := rest_over hr ho d (by omega)
    obtain ⟨m, hm⟩ : ∃ m, ms[j + d]? = some m := ⟨_, List.getElem?_eq_getElem (by omega)⟩
    rw [← Nat.add_assoc, runM_succ hm, ih, hr m (List.mem_of_getElem? hm) _ ho]
theorem ar_none {t N : Int} (h : t = 1 ∨ t = 2 ∨ t = 3 ∨ t = 26) : (ar (t, N)).toNat = 0 := by
  rcases h with rfl | rfl | rfl | rfl
  all_goals
    unfold ar asks
    simp
  all_goals
    split <;> omega
theorem asz_flat {t : Int} (h : t = 0 ∨ t = 1) : asz t = 0 := by rcases h with rfl | rfl <;> rfl
/-- What a variable of one value has. -/
theorem dcell_flat {vs : List Int} {n : Nat} (h : vtyp vs n = 0 ∨ vtyp vs n = 1) : dcell vs s n = [s.vals.getD n 0] := by
  obtain ⟨-, -, h3⟩ := vtyp_nat (vs := vs) (i := (n : Int)) (by omega)
  rw [Int.toNat_natCast] at h3
  unfold dcell
  rw [if_pos (by rw [← h3]; exact asz_flat h)]
/-- What an array has. -/
theorem dcell_row {vs : List Int} {n : Nat} (h : 0 < asz (vtyp vs n)) : dcell vs s n = s.arrs.getD n [] ∧ asz (vs.getD n (-1)) ≠ 0 := by
  obtain ⟨-, -, h3⟩ := vtyp_nat (vs := vs) (i := (n : Int)) (asz_pos h)
  rw [Int.toNat_natCast] at h3
  rw [h3] at h
  unfold dcell
  rw [if_neg (by omega)]
  exact ⟨rfl, by omega⟩
set_option maxHeartbeats 2000000 in
/-- EVERY NODE, ENTERED, DOES WHAT IT MEANS. -/
theorem node_any (hlx : K.p.xs.length ≤ 1000000) (hall : ∀ k n : Nat, scan 1 (K.p.xs.drop k) = some n → 0 ≤ okind K.p.vs K.p.xs k) (hF : K.F ≤ 10000) (M : Nat) :
    ∀ (k n : Nat) (s : St), n ≤ M → scan 1 (K.p.xs.drop k) = some n → Good K s → NodeOk K k s (mean K.p.xs k s) ((k + n : Nat) : Int) := by
  induction M with
  | zero =>
    intro k n s hn h
    have := (scan_le _ _ _ h).1
    omega
  | succ M ih =>
    intro k n s hn h hg κ evv Y W hM
    obtain ⟨t, N, hx, hm, hl, hc⟩ := typed_cases h (hall k n h)
    have hnk : ∀ m ∈ (akids K.p.xs k).map (mean K.p.xs), Nice m := fun m hm => by
      obtain ⟨q, -, rfl⟩ := List.mem_map.1 hm
      exact nice_mean _ _
    have hsum := hg.sum
    by_cases h0 : s.fuel = 0
    · rw [hm, node_out hnk hg.on h0]
      have := denter_out (W := W) hM hg.on (by omega) 0 ((k + n : Nat) : Int)
      rw [stop_no hg.on] at this
      exact this
    have hst : s.steps ≠ K.F := by omega
    have hle := hg.le
    have g1 := hg.tick h0
    have ho := hg.on
    have hkl : (akids K.p.xs k).length ≤ 200 := by have := (ar_le (t, N)).2; omega
    -- a kid, in a state that has been entered
    have kid : ∀ (j n' : Nat) (s' : St), n' < n → scan 1 (K.p.xs.drop j) = some n' → Good1 K s' → NodeOk K j s' (mean K.p.xs j s') ((j + n' : Nat) : Int) := fun j n' s' h1 h2 h3 => ih j n' s' (by omega) h2 h3.good
    unfold Cases at hc
    rcases hc with ht | ⟨ht, hv⟩ | ht | ht | ⟨ht, hv, q, hq⟩ | ⟨ht, q, hq⟩ | ⟨ht1, ht2, q, q2, hq⟩ | ⟨ht, q, q2, hq⟩ | ⟨ht, q, q2, hq⟩ | ⟨ht, hv, q, hq⟩ | ⟨ht, hv, q, q2, hq⟩ | ⟨ht, q, q2, q3, hq, hk1⟩ | ⟨ht, q, q2, hq, hk1⟩ | ⟨ht, q, hq⟩
    -- a number
    · have e : mean K.p.xs k s = (s.tick, N) := by
        rw [hm, node_on (by omega) ho h0]
        unfold innerM
        simp only
        rw [if_pos ht]; rfl
      have h1 : n = 1 := kids_none h (List.length_eq_zero_iff.1 (by rw [hl]; exact ar_none (by omega)))
      subst h1
      rw [e]
      rcases ht with rfl | rfl
      · exact ent_1 hM ho hst hle rfl hx fun κ' evv' Y' W' h' => do_constant N h' g1.on
      · exact ent_2 hM ho hst hle rfl hx fun κ' evv' Y' W' h' => do_constant N h' g1.on
    -- a variable
    · subst ht
      have hvt : 0 ≤ vtyp K.p.vs N := by omega
      obtain ⟨v1, v2, -⟩ := vtyp_nat hvt
      obtain ⟨m, rfl⟩ := Int.eq_ofNat_of_zero_le v1
      have h1 : n = 1 := kids_none h (List.length_eq_zero_iff.1 (by rw [hl]; exact ar_none (by omega)))
      subst h1
      have e : mean K.p.xs k s = (s.tick, s.tick.vals.getD m 0) := by
        rw [hm, node_on (by omega) ho h0]
        rfl
      rw [e]
      exact ent_3 hM ho hst hle rfl hx fun κ' evv' Y' W' h' => do_variable h' g1.on (by omega) (dcell_flat hv)
    -- nothing
    · subst ht
      have h1 : n = 1 := kids_none h (List.length_eq_zero_iff.1 (by rw [hl]; exact ar_none (by omega)))
      subst h1
      have e : mean K.p.xs k s = (s.tick, 0) := by
        rw [hm, node_on (by omega) ho h0]
        rfl
      rw [e]
      exact ent_26 hM ho hst hle rfl hx fun κ' evv' Y' W' h' => do_skip N h' g1.on
    -- a block
    · subst ht
      have hrest : ∀ m ∈ (akids K.p.xs k).map (mean K.p.xs), Rests m := fun m hm => by
        obtain ⟨q, hq, rfl⟩ := List.mem_map.1 hm
        obtain ⟨j, n', rfl, hj⟩ := kid_node h hq
        exact fun s' hs => mean_over hj hs
      obtain ⟨P, hP0, hPn, hP⟩ := kids_many h
      obtain ⟨c, hcl⟩ : ∃ c, (akids K.p.xs k).length = c := ⟨_, rfl⟩
      have hN : N = (c : Int) := by
        obtain ⟨x, c', hx', har, -, hc', -⟩ := dkid_scan h
        rw [hx] at hx'
        obtain rfl := Option.some.inj hx'
        unfold ar asks at har
        simp at har
        split at har <;> omega
      rw [hcl] at hPn hP hkl
      subst hN
      have hml : ((akids K.p.xs k).map (mean K.p.xs)).length = c := by rw [List.length_map]; exact hcl
      have e : mean K.p.xs k s = (runM (((akids K.p.xs k).map (mean K.p.xs)).take c) s.tick, 0) := by
        rw [hm, node_on (by omega) ho h0, List.take_of_length_le (by rw [hml]; exact Nat.le_refl _)]
        exact seq_run _ hrest _
      have hgd : ∀ j, j ≤ c → (runM (((akids K.p.xs k).map (mean K.p.xs)).take j) s.tick).over = false → Good1 K (runM (((akids K.p.xs k).map (mean K.p.xs)).take j) s.tick) := fun j => by
        induction j with
        | zero => intro _ _; exact g1
        | succ j ihj =>
          intro hj hoj
          obtain ⟨hq, m, hm1, -, -⟩ := hP j (by omega)
          have hms : ((akids K.p.xs k).map (mean K.p.xs))[j]? = some (mean K.p.xs (P j)) := by rw [List.getElem?_map, hq]; rfl
          rw [runM_succ hms] at hoj ⊢
          by_cases hpo : (runM (((akids K.p.xs k).map (mean K.p.xs)).take j) s.tick).over = true
          · rw [hrest _ (List.mem_of_getElem? hms) _ hpo] at hoj
            rw [hoj] at hpo; cases hpo
          · exact (((ihj (by omega) (by simpa using hpo)).behind hall hm1).2 hoj).1
      rw [e]
      have hpk : ((k : Int) + 1) = ((P 0 : Nat) : Int) := by rw [hP0]; omega
      rw [← hPn]
      refine ent_20 hM ho hst hle rfl hx fun κ' evv' Y' W' h' => ?_
      rw [hpk] at h'
      refine do_block (P := fun j => ((P j : Nat) : Int)) (R := fun j => runM (((akids K.p.xs k).map (mean K.p.xs)).take j) s.tick) (n := c) (by omega) h' g1.on (fun j hj hoj => ?_) (fun j hj hoj => ?_)
      · obtain ⟨hq, m, hm1, hPj, hmn⟩ := hP j hj
        have hms : ((akids K.p.xs k).map (mean K.p.xs))[j]? = some (mean K.p.xs (P j)) := by rw [List.getElem?_map, hq]; rfl
        refine ⟨(mean K.p.xs (P j) (runM (((akids K.p.xs k).map (mean K.p.xs)).take j) s.tick)).2, ?_⟩
        have := kid (P j) m _ hmn hm1 (hgd j (by omega) hoj)
        rw [runM_succ hms, hPj]
        exact this
      · obtain ⟨d, rfl⟩ : ∃ d, c = j + d := ⟨c - j, by omega⟩
        exact rest_over hrest hoj d (by omega)
    -- a place of an array
    · subst ht
      have hvt : 0 ≤ vtyp K.p.vs N := asz_pos hv
      obtain ⟨v1, v2, v3⟩ := vtyp_nat hvt
      obtain ⟨m, rfl⟩ := Int.eq_ofNat_of_zero_le v1
      obtain ⟨n1, rfl, hs1, hnn⟩ := kids_one h hq
      have K1 := kid (k + 1) n1 s.tick (by omega) hs1 g1
      obtain ⟨-, B1⟩ := g1.behind hall hs1
      rw [hq] at hm
      simp only [List.map_cons, List.map_nil] at hm
      have hm := congrFun hm s
      rw [node_on (by omega) ho h0, inner_kid (by omega) (by omega) (by omega) (by omega) (by omega)] at hm
      obtain ⟨s1, a, hr1⟩ : ∃ s1 a, mean K.p.xs ((k + 1 : Nat) : Int) s.tick = (s1, a) := ⟨_, _, rfl⟩
      rw [hr1] at K1 B1
      simp only at B1
      rw [show (((k + 1 : Nat) : Int)) = (k : Int) + 1 by omega] at K1
      have hd := fun s' : St => dcell_row (s := s') hv
      have hdl : ∀ s' : St, WT K.p.vs s' → 0 < (s'.arrs.getD m []).length := fun s' w => by
        have := w.ta m (by omega)
        rw [Int.toNat_natCast] at v3
        rw [← v3] at this
        omega
      have e : mean K.p.xs k s = (if s1.over = true then (s1, 0) else if a < 0 ∨ ((dcell K.p.vs s1 m).length : Int) ≤ a then (s1.stop 2 0, 0) else (s1, (dcell K.p.vs s1 m).getD a.toNat 0)) := by
        rw [hm]
        by_cases z : s1.over = true
        · rw [bind_over (by rw [hr1]; exact z), hr1, if_pos z]
        · rw [bind_on (by rw [hr1]; simpa using z), hr1, if_neg z]
          rw [(hd s1).1]
          rfl
      rw [e, hnn, ← Nat.add_assoc]
      have hp0 : 0 < (dcell K.p.vs s1 m).length := by
        rw [(hd s1).1]
        by_cases z : s1.over = true
        · have hw := (sound_mean hall _ (k + 1) n1 (Nat.le_refl _) hs1 s.tick g1.wt g1.on).1
          rw [hr1] at hw
          exact hdl _ hw
        · exact hdl _ (B1 (by simpa using z)).1.wt
      exact ent_4 hM ho hst hle rfl hx fun κ' evv' Y' W' h' => do_element h' K1 (by omega) hp0
    -- of one value
    · have ht3 := ht
      obtain ⟨n1, rfl, hs1, hnn⟩ := kids_one h hq
      have K1 := kid (k + 1) n1 s.tick (by omega) hs1 g1
      obtain ⟨-, B1⟩ := g1.behind hall hs1
      rw [hq] at hm
      simp only [List.map_cons, List.map_nil] at hm
      have hm := congrFun hm s
      rw [node_on (by omega) ho h0, inner_kid (by omega) (by omega) (by omega) (by omega) (by omega)] at hm
      obtain ⟨s1, a, hr1⟩ : ∃ s1 a, mean K.p.xs ((k + 1 : Nat) : Int) s.tick = (s1, a) := ⟨_, _, rfl⟩
      rw [hr1] at K1 B1
      simp only at B1
      rw [show (((k + 1 : Nat) : Int)) = (k : Int) + 1 by omega] at K1
      rw [hnn, ← Nat.add_assoc]
      rcases ht with rfl | rfl
      · have e : mean K.p.xs k s = (if s1.over = true then (s1, 0) else (s1, IntKind.i64.wrap (0 - a))) := by
          rw [hm]
          by_cases z : s1.over = true
          · rw [bind_over (by rw [hr1]; exact z), hr1, if_pos z]
          · rw [bind_on (by rw [hr1]; simpa using z), hr1, if_neg z]
            rfl
        rw [e]
        exact ent_5 hM ho hst hle rfl hx fun κ' evv' Y' W' h' => do_neg N h' K1
      · have e : mean K.p.xs k s = (if s1.over = true then (s1, 0) else (s1, IntKind.i64.wrap (1 - a))) := by
          rw [hm]
          by_cases z : s1.over = true
          · rw [bind_over (by rw [hr1]; exact z), hr1, if_pos z]
          · rw [bind_on (by rw [hr1]; simpa using z), hr1, if_neg z]
            rfl
        rw [e]
        exact ent_6 hM ho hst hle rfl hx fun κ' evv' Y' W' h' => do_not N h' K1
    -- of two values
    · obtain ⟨n1, n2, rfl, hs1, rfl, hs2, hnn⟩ := kids_two h hq
      have K1 := kid (k + 1) n1 s.tick (by omega) hs1 g1
      obtain ⟨-, B1⟩ := g1.behind hall hs1
      rw [hq] at hm
      simp only [List.map_cons, List.map_nil] at hm
      have hm := congrFun hm s
      rw [node_on (by omega) ho h0, inner_kid (by omega) (by omega) (by omega) (by omega) (by omega)] at hm
      obtain ⟨s1, a, hr1⟩ : ∃ s1 a, mean K.p.xs ((k + 1 : Nat) : Int) s.tick = (s1, a) := ⟨_, _, rfl⟩
      rw [hr1] at K1 B1
      simp only at B1
      rw [show (((k + 1 : Nat) : Int)) = (k : Int) + 1 by omega] at K1
      obtain ⟨s2, b, hr2⟩ : ∃ s2 b, mean K.p.xs ((k + 1 + n1 : Nat) : Int) s1 = (s2, b) := ⟨_, _, rfl⟩
      have K2 : s1.over = false → NodeOk K ((k + 1 + n1 : Nat) : Int) s1 (s2, b) ((k + 1 + n1 + n2 : Nat) : Int) := fun z => by rw [← hr2]; exact kid (k + 1 + n1) n2 s1 (by omega) hs2 (B1 z).1
      rw [hnn, ← Nat.add_assoc, ← Nat.add_assoc]
      have hb : ∀ v : St × Int, (s1.over = false → s2.over = false → bin t a b s2 = v) → mean K.p.xs k s = (if s1.over = true then (s1, 0) else if s2.over = true then (s2, 0) else v) := fun v hv => by
        rw [hm]
        by_cases z : s1.over = true
        · rw [bind_over (by rw [hr1]; exact z), hr1, if_pos z]
        have z : s1.over = false := by simpa using z
        rw [bind_on (by rw [hr1]; exact z), hr1, if_neg (by rw [z]; decide)]
        show behindM _ _ a s1 = _
        rw [behind_two (by omega) (by omega) (by omega) (by omega) (by omega) (by omega) (by omega) (by omega)]
        by_cases z2 : s2.over = true
        · rw [bind_over (by rw [hr2]; exact z2), hr2, if_pos z2]
        have z2 : s2.over = false := by simpa using z2
        rw [bind_on (by rw [hr2]; exact z2), hr2, if_neg (show ¬ t = 22 by omega), if_neg (show ¬ s2.over = true by rw [z2]; decide)]
        exact hv z z2
      rcases (show t = 7 ∨ t = 8 ∨ t = 9 ∨ t = 10 ∨ t = 11 ∨ t = 12 ∨ t = 13 ∨ t = 14 ∨ t = 15 ∨ t = 16 ∨ t = 17 by omega) with rfl | rfl | rfl | rfl | rfl | rfl | rfl | rfl | rfl | rfl | rfl
      · rw [hb ((s2, IntKind.i64.wrap (a + b))) (fun _ _ => by unfold bin; simp [pureM])]
        exact ent_7 hM ho hst hle rfl hx fun κ' evv' Y' W' h' => do_add N h' K1 K2
      · rw [hb ((s2, IntKind.i64.wrap (a - b))) (fun _ _ => by unfold bin; simp [pureM])]
        exact ent_8 hM ho hst hle rfl hx fun κ' evv' Y' W' h' => do_sub N h' K1 K2
      · rw [hb ((s2, IntKind.i64.wrap (a * b))) (fun _ _ => by unfold bin; simp [pureM])]
        exact ent_9 hM ho hst hle rfl hx fun κ' evv' Y' W' h' => do_mul N h' K1 K2
      · rw [hb (if b = 0 then (s2.stop 1 0, 0) else (s2, IntKind.i64.wrap (a.tdiv b))) (fun _ _ => by unfold bin; simp only; by_cases z : b = 0 <;> simp [z, stopM, pureM])]
        exact ent_10 hM ho hst hle rfl hx fun κ' evv' Y' W' h' => do_div N h' K1 K2
      · rw [hb (if b = 0 then (s2.stop 1 0, 0) else (s2, a.tmod b)) (fun _ _ => by unfold bin; simp only; by_cases z : b = 0 <;> simp [z, stopM, pureM])]
        exact ent_11 hM ho hst hle rfl hx fun κ' evv' Y' W' h' => do_mod N h' K1 K2
      · rw [hb ((s2, b01 (a == b))) (fun _ _ => by unfold bin; simp [pureM])]
        exact ent_12 hM ho hst hle rfl hx fun κ' evv' Y' W' h' => do_eq N h' K1 K2
      · rw [hb ((s2, b01 (a != b))) (fun _ _ => by unfold bin; simp [pureM])]
        exact ent_13 hM ho hst hle rfl hx fun κ' evv' Y' W' h' => do_ne N h' K1 K2
      · rw [hb ((s2, b01 (decide (a < b)))) (fun _ _ => by unfold bin; simp [pureM])]
        exact ent_14 hM ho hst hle rfl hx fun κ' evv' Y' W' h' => do_lt N h' K1 K2
      · rw [hb ((s2, b01 (decide (a ≤ b)))) (fun _ _ => by unfold bin; simp [pureM])]
        exact ent_15 hM ho hst hle rfl hx fun κ' evv' Y' W' h' => do_le N h' K1 K2
      · rw [hb ((s2, b01 (decide (b < a)))) (fun _ _ => by unfold bin; simp [pureM])]
        exact ent_16 hM ho hst hle rfl hx fun κ' evv' Y' W' h' => do_gt N h' K1 K2
      · rw [hb ((s2, b01 (decide (b ≤ a)))) (fun _ _ => by unfold bin; simp [pureM])]
        exact ent_17 hM ho hst hle rfl hx fun κ' evv' Y' W' h' => do_ge N h' K1 K2
    · subst ht
      obtain ⟨n1, n2, rfl, hs1, rfl, hs2, hnn⟩ := kids_two h hq
      have K1 := kid (k + 1) n1 s.tick (by omega) hs1 g1
      obtain ⟨-, B1⟩ := g1.behind hall hs1
      rw [hq] at hm
      simp only [List.map_cons, List.map_nil] at hm
      have hm := congrFun hm s
      rw [node_on (by omega) ho h0, inner_kid (by omega) (by omega) (by omega) (by omega) (by omega)] at hm
      obtain ⟨s1, a, hr1⟩ : ∃ s1 a, mean K.p.xs ((k + 1 : Nat) : Int) s.tick = (s1, a) := ⟨_, _, rfl⟩
      rw [hr1] at K1 B1
      simp only at B1
      rw [show (((k + 1 : Nat) : Int)) = (k : Int) + 1 by omega] at K1
      obtain ⟨s2, b, hr2⟩ : ∃ s2 b, mean K.p.xs ((k + 1 + n1 : Nat) : Int) s1 = (s2, b) := ⟨_, _, rfl⟩
      have K2 : s1.over = false → NodeOk K ((k + 1 + n1 : Nat) : Int) s1 (s2, b) ((k + 1 + n1 + n2 : Nat) : Int) := fun z => by rw [← hr2]; exact kid (k + 1 + n1) n2 s1 (by omega) hs2 (B1 z).1
      have e : mean K.p.xs k s = (if s1.over = true then (s1, 0) else if a = 0 then (s1, 0) else (s2, b)) := by
        rw [hm]
        by_cases z : s1.over = true
        · rw [bind_over (by rw [hr1]; exact z), hr1, if_pos z]
        · rw [bind_on (by rw [hr1]; simpa using z), hr1, if_neg z]
          show (if a = 0 then pureM 0 else mean K.p.xs ((k + 1 + n1 : Nat) : Int)) s1 = _
          by_cases y : a = 0
          · rw [if_pos y, if_pos y]; rfl
          · rw [if_neg y, if_neg y]; exact hr2
      rw [e, hnn, ← Nat.add_assoc, ← Nat.add_assoc]
      exact ent_18 hM ho hst hle rfl hx fun κ' evv' Y' W' h' => do_and N h' K1 hs2 (fun z _ => K2 z)
    · subst ht
      obtain ⟨n1, n2, rfl, hs1, rfl, hs2, hnn⟩ := kids_two h hq
      have K1 := kid (k + 1) n1 s.tick (by omega) hs1 g1
      obtain ⟨-, B1⟩ := g1.behind hall hs1
      rw [hq] at hm
      simp only [List.map_cons, List.map_nil] at hm
      have hm := congrFun hm s
      rw [node_on (by omega) ho h0, inner_kid (by omega) (by omega) (by omega) (by omega) (by omega)] at hm
      obtain ⟨s1, a, hr1⟩ : ∃ s1 a, mean K.p.xs ((k + 1 : Nat) : Int) s.tick = (s1, a) := ⟨_, _, rfl⟩
      rw [hr1] at K1 B1
      simp only at B1
      rw [show (((k + 1 : Nat) : Int)) = (k : Int) + 1 by omega] at K1
      obtain ⟨s2, b, hr2⟩ : ∃ s2 b, mean K.p.xs ((k + 1 + n1 : Nat) : Int) s1 = (s2, b) := ⟨_, _, rfl⟩
      have K2 : s1.over = false → NodeOk K ((k + 1 + n1 : Nat) : Int) s1 (s2, b) ((k + 1 + n1 + n2 : Nat) : Int) := fun z => by rw [← hr2]; exact kid (k + 1 + n1) n2 s1 (by omega) hs2 (B1 z).1
      have e : mean K.p.xs k s = (if s1.over = true then (s1, 0) else if a = 1 then (s1, 1) else (s2, b)) := by
        rw [hm]
        by_cases z : s1.over = true
        · rw [bind_over (by rw [hr1]; exact z), hr1, if_pos z]
        · rw [bind_on (by rw [hr1]; simpa using z), hr1, if_neg z]
          show (if a = 1 then pureM 1 else mean K.p.xs ((k + 1 + n1 : Nat) : Int)) s1 = _
          by_cases y : a = 1
          · rw [if_pos y, if_pos y]; rfl
          · rw [if_neg y, if_neg y]; exact hr2
      rw [e, hnn, ← Nat.add_assoc, ← Nat.add_assoc]
      exact ent_19 hM ho hst hle rfl hx fun κ' evv' Y' W' h' => do_or N h' K1 hs2 (fun z _ => K2 z)
    -- a variable is set
    · subst ht
      have hvt : 0 ≤ vtyp K.p.vs N := by omega
      obtain ⟨v1, v2, v3⟩ := vtyp_nat hvt
      obtain ⟨m, rfl⟩ := Int.eq_ofNat_of_zero_le v1
      obtain ⟨n1, rfl, hs1, hnn⟩ := kids_one h hq
      have K1 := kid (k + 1) n1 s.tick (by omega) hs1 g1
      obtain ⟨-, B1⟩ := g1.behind hall hs1
      rw [hq] at hm
      simp only [List.map_cons, List.map_nil] at hm
      have hm := congrFun hm s
      rw [node_on (by omega) ho h0, inner_kid (by omega) (by omega) (by omega) (by omega) (by omega)] at hm
      obtain ⟨s1, a, hr1⟩ : ∃ s1 a, mean K.p.xs ((k + 1 : Nat) : Int) s.tick = (s1, a) := ⟨_, _, rfl⟩
      rw [hr1] at K1 B1
      simp only at B1
      rw [show (((k + 1 : Nat) : Int)) = (k : Int) + 1 by omega] at K1
      have e : mean K.p.xs k s = (if s1.over = true then (s1, 0) else ({ s1 with vals := s1.vals.set m a, ev := s1.ev ++ [((m : Int), -1, a)] }, 0)) := by
        rw [hm]
        by_cases z : s1.over = true
        · rw [bind_over (by rw [hr1]; exact z), hr1, if_pos z]
        · rw [bind_on (by rw [hr1]; simpa using z), hr1, if_neg z]
          rfl
      rw [e, hnn, ← Nat.add_assoc]
      obtain ⟨hw, he⟩ : WT K.p.vs s1 ∧ s1.ev.length < 1000000 := by
        have hw := (sound_mean hall _ (k + 1) n1 (Nat.le_refl _) hs1 s.tick g1.wt g1.on).1
        have hf := g1.fits.mean g1.on K.p.xs ((k + 1 : Nat) : Int)
        rw [hr1] at hw hf
        have h1 : s1.ev.length + 1 ≤ s1.steps := hf.ev
        have h2 : s1.steps + s1.fuel ≤ 10000 := hf.top
        exact ⟨hw, by omega⟩
      rw [Int.toNat_natCast] at v3
      exact ent_21 hM ho hst hle rfl hx fun κ' evv' Y' W' h' => do_set h' K1 he (by omega) (dcell_flat hv) (dcells_setV a (by omega) hw.nv (by rw [← v3]; exact asz_flat hv) rfl rfl) rfl rfl (fun z => z)
    -- a place of an array is set
    · subst ht
      have hvt : 0 ≤ vtyp K.p.vs N := asz_pos hv
      obtain ⟨v1, v2, v3⟩ := vtyp_nat hvt
      obtain ⟨m, rfl⟩ := Int.eq_ofNat_of_zero_le v1
      obtain ⟨n1, n2, rfl, hs1, rfl, hs2, hnn⟩ := kids_two h hq
      have K1 := kid (k + 1) n1 s.tick (by omega) hs1 g1
      obtain ⟨-, B1⟩ := g1.behind hall hs1
      rw [hq] at hm
      simp only [List.map_cons, List.map_nil] at hm
      have hm := congrFun hm s
      rw [node_on (by omega) ho h0, inner_kid (by omega) (by omega) (by omega) (by omega) (by omega)] at hm
      obtain ⟨s1, a, hr1⟩ : ∃ s1 a, mean K.p.xs ((k + 1 : Nat) : Int) s.tick = (s1, a) := ⟨_, _, rfl⟩
      rw [hr1] at K1 B1
      simp only at B1
      rw [show (((k + 1 : Nat) : Int)) = (k : Int) + 1 by omega] at K1
      obtain ⟨s2, b, hr2⟩ : ∃ s2 b, mean K.p.xs ((k + 1 + n1 : Nat) : Int) s1 = (s2, b) := ⟨_, _, rfl⟩
      have K2 : s1.over = false → NodeOk K ((k + 1 + n1 : Nat) : Int) s1 (s2, b) ((k + 1 + n1 + n2 : Nat) : Int) := fun z => by rw [← hr2]; exact kid (k + 1 + n1) n2 s1 (by omega) hs2 (B1 z).1
      have hd := fun s' : St => dcell_row (s := s') hv
      rw [Int.toNat_natCast] at v3
      have e : mean K.p.xs k s = (if s1.over = true then (s1, 0) else if s2.over = true then (s2, 0) else if a < 0 ∨ ((dcell K.p.vs s2 m).length : Int) ≤ a then (s2.stop 2 0, 0) else ({ s2 with arrs := s2.arrs.set m ((dcell K.p.vs s2 m).set a.toNat b), ev := s2.ev ++ [((m : Int), a, b)] }, 0)) := by
        rw [hm]
        by_cases z : s1.over = true
        · rw [bind_over (by rw [hr1]; exact z), hr1, if_pos z]
        have z : s1.over = false := by simpa using z
        rw [bind_on (by rw [hr1]; exact z), hr1, if_neg (by rw [z]; decide)]
        show behindM _ _ a s1 = _
        rw [behind_two (by omega) (by omega) (by omega) (by omega) (by omega) (by omega) (by omega) (by omega)]
        by_cases z2 : s2.over = true
        · rw [bind_over (by rw [hr2]; exact z2), hr2, if_pos z2]
        have z2 : s2.over = false := by simpa using z2
        rw [bind_on (by rw [hr2]; exact z2), hr2, if_pos rfl, if_neg (show ¬ s2.over = true by rw [z2]; decide), (hd s2).1]
        rfl
      rw [e, hnn, ← Nat.add_assoc, ← Nat.add_assoc]
      have hg2 : s1.over = false → WT K.p.vs s2 ∧ s2.ev.length < 1000000 := fun z => by
        have hw := (sound_mean hall _ (k + 1 + n1) n2 (Nat.le_refl _) hs2 s1 (B1 z).1.wt z).1
        have hf := (B1 z).1.fits.mean z K.p.xs ((k + 1 + n1 : Nat) : Int)
        rw [hr2] at hw hf
        have h1 : s2.ev.length + 1 ≤ s2.steps := hf.ev
        have h2 : s2.steps + s2.fuel ≤ 10000 := hf.top
        exact ⟨hw, by omega⟩
      have hdl : s1.over = false → 0 < (s2.arrs.getD m []).length := fun z => by
        have := (hg2 z).1.ta m (by omega)
        rw [← v3] at this
        omega
      exact ent_22 hM ho hst hle rfl hx fun κ' evv' Y' W' h' => do_put h' K1 K2 (by omega) (fun z => ⟨(hg2 z).2, by rw [(hd s2).1]; exact hdl z, fun y => ⟨dcells_setA (by omega) (hg2 z).1.na (hd s2).2 rfl rfl, rfl, rfl, fun q => q⟩⟩)
    -- an If
    · subst ht
      obtain ⟨tg2, tg3⟩ := if_tags h hx (hall k n h) hq
      obtain ⟨n1, n2, n3, rfl, hs1, rfl, hs2, rfl, hs3, hnn⟩ := kids_three h hq
      have K1 := kid (k + 1) n1 s.tick (by omega) hs1 g1
      obtain ⟨-, B1⟩ := g1.behind hall hs1
      rw [hq] at hm
      simp only [List.map_cons, List.map_nil] at hm
      have hm := congrFun hm s
      rw [node_on (by omega) ho h0, inner_kid (by omega) (by omega) (by omega) (by omega) (by omega)] at hm
      obtain ⟨s1, a, hr1⟩ : ∃ s1 a, mean K.p.xs ((k + 1 : Nat) : Int) s.tick = (s1, a) := ⟨_, _, rfl⟩
      rw [hr1] at K1 B1
      simp only at B1
      rw [show (((k + 1 : Nat) : Int)) = (k : Int) + 1 by omega] at K1
      obtain ⟨s2, b, hr2⟩ : ∃ s2 b, (if a = 1 then mean K.p.xs ((k + 1 + n1 : Nat) : Int) else mean K.p.xs ((k + 1 + n1 + n2 : Nat) : Int)) s1 = (s2, b) := ⟨_, _, rfl⟩
      have hb0 : b = 0 := by
        by_cases y : a = 1
        · rw [if_pos y] at hr2
          have := blk_zero hs2 tg2 s1
          rw [hr2] at this
          exact this
        · rw [if_neg y] at hr2
          have := blk_zero hs3 tg3 s1
          rw [hr2] at this
          exact this
      have e : mean K.p.xs k s = (if s1.over = true then (s1, 0) else (s2, 0)) := by
        rw [hm]
        by_cases z : s1.over = true
        · rw [bind_over (by rw [hr1]; exact z), hr1, if_pos z]
        · rw [bind_on (by rw [hr1]; simpa using z), hr1, if_neg z]
          subst hb0
          rw [← hr2]
          show Mach.kid [mean K.p.xs ((k + 1 : Nat) : Int), mean K.p.xs ((k + 1 + n1 : Nat) : Int), mean K.p.xs ((k + 1 + n1 + n2 : Nat) : Int)] (if a = 1 then 1 else 2) s1 = _
          by_cases y : a = 1
          · rw [if_pos y, if_pos y]; rfl
          · rw [if_neg y, if_neg y]; rfl
      rw [e, hnn, ← Nat.add_assoc, ← Nat.add_assoc, ← Nat.add_assoc]
      refine ent_23 hM ho hst hle rfl hx fun κ' evv' Y' W' h' => do_branch (q2 := k + 1 + n1) (b := b) N h' K1 hs2 hs3 (fun z => ⟨fun y => ?_, fun y => ?_⟩)
      · rw [if_pos y] at hr2
        rw [← hr2]
        exact kid (k + 1 + n1) n2 s1 (by omega) hs2 (B1 z).1
      · rw [if_neg y] at hr2
        rw [← hr2]
        exact kid (k + 1 + n1 + n2) n3 s1 (by omega) hs3 (B1 z).1
    -- a While
    · subst ht
      obtain ⟨n1, n2, rfl, hs1, rfl, hs2, hnn⟩ := kids_two h hq
      rw [hq] at hm
      simp only [List.map_cons, List.map_nil] at hm
      have e : mean K.p.xs k s = againM (mean K.p.xs ((k + 1 : Nat) : Int)) (mean K.p.xs ((k + 1 + n1 : Nat) : Int)) s.tick := by
        rw [hm]
        show whileM (mean K.p.xs ((k + 1 : Nat) : Int)) (mean K.p.xs ((k + 1 + n1 : Nat) : Int)) s = _
        rw [while_is (nice_mean _ _) (nice_mean _ _), Mach.enter_on ho h0]
        rfl
      rw [e, hnn, ← Nat.add_assoc, ← Nat.add_assoc]
      have hL : LoopOk K (mean K.p.xs ((k + 1 : Nat) : Int)) (mean K.p.xs ((k + 1 + n1 : Nat) : Int)) ((k : Int) + 1) ((k + 1 + n1 : Nat) : Int) (k + 1 + n1 + n2) (Good1 K) := {
        nc := nice_mean _ _
        nb := nice_mean _ _
        on := fun s' g => ⟨g.on, g.sum⟩
        top := hF
        tick := fun s' g z => g.good.tick z
        cond := fun s' g => by
          have B := g.behind hall hs1
          refine ⟨?_, fun z => ⟨(B.2 z).1, ?_, B.1⟩⟩
          · have := kid (k + 1) n1 s' (by omega) hs1 g
            rw [show (k : Int) + 1 = (((k + 1 : Nat) : Int)) by omega]
            exact this
          · have := (B.2 z).2
            rw [hk1] at this
            exact this rfl
        body := fun s' g => by
          have B := g.behind hall hs2
          exact ⟨kid (k + 1 + n1) n2 s' (by omega) hs2 g, fun z => ⟨(B.2 z).1, B.1⟩⟩ }
      exact ent_24 hM ho hst hle rfl hx fun κ' evv' Y' W' h' => do_loop (q2 := k + 1 + n1) N h' hs2 hL g1
    -- a Return
    · subst ht
      obtain ⟨n1, rfl, hs1, hnn⟩ := kids_one h hq
      have K1 := kid (k + 1) n1 s.tick (by omega) hs1 g1
      obtain ⟨-, B1⟩ := g1.behind hall hs1
      rw [hq] at hm
      simp only [List.map_cons, List.map_nil] at hm
      have hm := congrFun hm s
      rw [node_on (by omega) ho h0, inner_kid (by omega) (by omega) (by omega) (by omega) (by omega)] at hm
      obtain ⟨s1, a, hr1⟩ : ∃ s1 a, mean K.p.xs ((k + 1 : Nat) : Int) s.tick = (s1, a) := ⟨_, _, rfl⟩
      rw [hr1] at K1 B1
      simp only at B1
      rw [show (((k + 1 : Nat) : Int)) = (k : Int) + 1 by omega] at K1
      have e : mean K.p.xs k s = (if s1.over = true then (s1, 0) else (s1.stop 0 a, 0)) := by
        rw [hm]
        by_cases z : s1.over = true
        · rw [bind_over (by rw [hr1]; exact z), hr1, if_pos z]
        · rw [bind_on (by rw [hr1]; simpa using z), hr1, if_neg z]
          rfl
      rw [e]
      exact ent_25 hM ho hst hle rfl hx fun κ' evv' Y' W' h' => do_giveBack N h' K1 ((k + n : Nat) : Int)
end
end Go.Proofs.Ytodejloonfkkmaa.Dir
