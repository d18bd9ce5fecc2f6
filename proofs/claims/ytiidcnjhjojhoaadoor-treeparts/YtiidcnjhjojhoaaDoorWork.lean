/-
  What sha.work answers: the eight words behind a block whose words are W, for all words.
-/
import Derived.Test.YtiidcnjhjojhoaaDoorSig
import Derived.Test.YtiidcnjhjojhoaaDoorArr
namespace Go.Proofs.YtiidcnjhjojhoaaDoor
open Go.RowKit
theorem t1W_eq (y x A B C D E F G H : Int) : t1W y x ⟨A, B, C, D, E, F, G, H⟩ = (H + bS1 E + chW E F G + y + x) % 4294967296 := by
  unfold t1W add32; simp only; generalize bS1 E = p; generalize chW E F G = q; omega
theorem t2W_eq (A B C D E F G H : Int) : t2W ⟨A, B, C, D, E, F, G, H⟩ = (bS0 A + majW A B C) % 4294967296 := rfl
theorem rnd_eq (y x A B C D E F G H : Int) : rnd y x ⟨A, B, C, D, E, F, G, H⟩ = ⟨((H + bS1 E + chW E F G + y + x) % 4294967296 + (bS0 A + majW A B C) % 4294967296) % 4294967296, A, B, C, (D + (H + bS1 E + chW E F G + y + x) % 4294967296) % 4294967296, E, F, G⟩ := by
  unfold rnd; rw [t1W_eq, t2W_eq]; rfl
theorem Tryd.agg29 : AggType Tryd.prog 57 8 := ⟨_, Tryd.underlying57, rfl, by kernel_rfl⟩
theorem Tryd.agg50 : AggType Tryd.prog 63 64 := ⟨_, Tryd.underlying63, rfl, by kernel_rfl⟩
set_option maxRecDepth 100000 in
set_option maxHeartbeats 1000000 in
theorem work_any (a b c d e f g h : Int) (W : List Int) (hl : W.length = 64) (w : World) (hT : Tab 1 w) (hok : S8.ok ⟨a, b, c, d, e, f, g, h⟩) :
    Calls Tryd.prog 33 #[.agg #[.int .u32 a, .int .u32 b, .int .u32 c, .int .u32 d, .int .u32 e, .int .u32 f, .int .u32 g, .int .u32 h], .agg (wcells W)] w fun en w' => en = .returned (v8 (workS ⟨a, b, c, d, e, f, g, h⟩ W)) ∧ Below w.heap.size w w' := by
  have HT := Lib.hid hT
  have HL := Lib.hid hl
  have HO := Lib.hid hok
  clear hT hl hok
  go_enter Tryd.func33, Tryd.ntmps33
  go_wp2_with fail
  go_quiet (fail)
  go_wp2_with fail
  go_loopw [5, 6, 7, 8, 9, 10, 11, 12, 32] (fun ra rb rc rd re rf rg rh i wr => ∃ (k : Nat) (A B C D E F G H : Int), k ≤ 64 ∧ i = .int .i64 (k : Int) ∧ ra = .int .u32 A ∧ rb = .int .u32 B ∧ rc = .int .u32 C ∧ rd = .int .u32 D ∧ re = .int .u32 E ∧ rf = .int .u32 F ∧ rg = .int .u32 G ∧ rh = .int .u32 H ∧ Hid (rounds W ⟨a, b, c, d, e, f, g, h⟩ k = ⟨A, B, C, D, E, F, G, H⟩) ∧ Below w.heap.size w wr ∧ Row wr w.heap.size 57 #[.int .u32 a, .int .u32 b, .int .u32 c, .int .u32 d, .int .u32 e, .int .u32 f, .int .u32 g, .int .u32 h] ∧ Row wr (w.heap.size + 1) 63 (wcells W) ∧ Row wr (w.heap.size + 1 + 1) 57 #[.int .u32 0, .int .u32 0, .int .u32 0, .int .u32 0, .int .u32 0, .int .u32 0, .int .u32 0, .int .u32 0]) (fun _ _ _ _ _ _ _ _ i _ => 64 - (intOf i).toNat)
  case atStart =>
    refine ⟨0, a, b, c, d, e, f, g, h, Nat.zero_le _, rfl, rfl, rfl, rfl, rfl, rfl, rfl, rfl, rfl, Lib.hid rfl, ?_, ?_, ?_, ?_⟩
    · exact below_drewN' ((((Below.refl _ _).alloc (Nat.le_refl _) _).alloc (by simp) _).alloc (by simp; omega) _) _
    · exact (((Row.new _ _ _).alloc _).alloc _).drewN _
    · exact ((Row.new1 w _ _ _).alloc _).drewN _
    · exact (Row.new2 w _ _ _ _).drewN _
  case round =>
    obtain ⟨k, A, B, C, D, E, F, G, H, hk, rfl, rfl, rfl, rfl, rfl, rfl, rfl, rfl, rfl, HR, hbel, hr0, hr1, hr2⟩ := hrel
    have hsok := rounds_ok W _ HO.out k
    rw [HR.out] at hsok
    obtain ⟨⟨a1, a2⟩, ⟨b1, b2⟩, ⟨c1, c2⟩, ⟨d1, d2⟩, ⟨e1, e2⟩, ⟨f1, f2⟩, ⟨g1, g2⟩, ⟨h1, h2⟩⟩ := hsok
    by_cases hlt : k < 64
    · have hcW := (hr1.cell k).trans (wcells_get W k (by rw [HL.out]; exact hlt))
      have hcK := (HT.out.below hbel).2 k hlt
      have HS := Lib.hid (show rounds W ⟨a, b, c, d, e, f, g, h⟩ (k + 1) = rnd (kAt k) (W.getD k 0) (rounds W ⟨a, b, c, d, e, f, g, h⟩ k) from rfl)
      have HR0 := Lib.hid hr0
      have HR1 := Lib.hid hr1
      have HR2 := Lib.hid hr2
      have hi0 : (0 : Int) ≤ (k : Int) := by omega
      have hi1 : (k : Int) < 64 := by omega
      clear hr0 hr1 hr2
      generalize W.getD k 0 = x at *
      generalize kAt k = y at *
      go_wp2_with fail
      go_quiet (first | (go_at_call 39; exact quiet_same (bS1_any _ _ e1 e2)) | (go_at_call 40; exact quiet_same (choose_any _ _ _ _)))
      go_wp2_with (first | (go_at_call 41; refine (bS0_any _ _ a1 a2).mono ?_; rintro e w' ⟨rfl, rfl⟩) | (go_at_call 42; refine (majority_any _ _ _ _).mono ?_; rintro e w' ⟨rfl, rfl⟩))
      go_roundw
      case rel =>
        refine ⟨k + 1, _, A, B, C, _, E, F, G, by omega, by go_num, rfl, rfl, rfl, rfl, rfl, rfl, rfl, rfl, Lib.hid ?_, below_drewN' hbel _, HR0.out.drewN _, HR1.out.drewN _, HR2.out.drewN _⟩
        rw [HS.out, HR.out, rnd_eq]
      case measure => simp [intOf]; omega
    · have HR0 := Lib.hid hr0
      have HR1 := Lib.hid hr1
      have HR2 := Lib.hid hr2
      have q0 : wr.cell? ⟨w.heap.size, 0, none⟩ = some (.int .u32 a) := hr0.cell 0
      have q1 : wr.cell? ⟨w.heap.size, 1, none⟩ = some (.int .u32 b) := hr0.cell 1
      have q2 : wr.cell? ⟨w.heap.size, 2, none⟩ = some (.int .u32 c) := hr0.cell 2
      have q3 : wr.cell? ⟨w.heap.size, 3, none⟩ = some (.int .u32 d) := hr0.cell 3
      have q4 : wr.cell? ⟨w.heap.size, 4, none⟩ = some (.int .u32 e) := hr0.cell 4
      have q5 : wr.cell? ⟨w.heap.size, 5, none⟩ = some (.int .u32 f) := hr0.cell 5
      have q6 : wr.cell? ⟨w.heap.size, 6, none⟩ = some (.int .u32 g) := hr0.cell 6
      have q7 : wr.cell? ⟨w.heap.size, 7, none⟩ = some (.int .u32 h) := hr0.cell 7
      have z0 : wr.cell? ⟨w.heap.size + 1 + 1, 0, none⟩ = some (.int .u32 0) := hr2.cell 0
      have z1 : wr.cell? ⟨w.heap.size + 1 + 1, 1, none⟩ = some (.int .u32 0) := hr2.cell 1
      have z2 : wr.cell? ⟨w.heap.size + 1 + 1, 2, none⟩ = some (.int .u32 0) := hr2.cell 2
      have z3 : wr.cell? ⟨w.heap.size + 1 + 1, 3, none⟩ = some (.int .u32 0) := hr2.cell 3
      have z4 : wr.cell? ⟨w.heap.size + 1 + 1, 4, none⟩ = some (.int .u32 0) := hr2.cell 4
      have z5 : wr.cell? ⟨w.heap.size + 1 + 1, 5, none⟩ = some (.int .u32 0) := hr2.cell 5
      have z6 : wr.cell? ⟨w.heap.size + 1 + 1, 6, none⟩ = some (.int .u32 0) := hr2.cell 6
      have z7 : wr.cell? ⟨w.heap.size + 1 + 1, 7, none⟩ = some (.int .u32 0) := hr2.cell 7
      have y0 := hr2.frozen 0
      have y1 := hr2.frozen 1
      have y2 := hr2.frozen 2
      have y3 := hr2.frozen 3
      have y4 := hr2.frozen 4
      have y5 := hr2.frozen 5
      have y6 := hr2.frozen 6
      have y7 := hr2.frozen 7
      clear hr0 hr1 hr2
      go_wp2
      obtain rfl : k = 64 := by omega
      refine bodyPost_ret (v := v8 (workS ⟨a, b, c, d, e, f, g, h⟩ W)) ?_ rfl ⟨rfl, (((((((hbel.setCell (by simp; omega) _).setCell (by simp; omega) _).setCell (by simp; omega) _).setCell (by simp; omega) _).setCell (by simp; omega) _).setCell (by simp; omega) _).setCell (by simp; omega) _).setCell (by simp; omega) _⟩
      have hv : v8 (workS ⟨a, b, c, d, e, f, g, h⟩ W) = .agg #[.int .u32 ((a + A) % 4294967296), .int .u32 ((b + B) % 4294967296), .int .u32 ((c + C) % 4294967296), .int .u32 ((d + D) % 4294967296), .int .u32 ((e + E) % 4294967296), .int .u32 ((f + F) % 4294967296), .int .u32 ((g + G) % 4294967296), .int .u32 ((h + H) % 4294967296)] := by
        unfold workS; rw [HR.out]; rfl
      rw [hv]
      exact results_row1 Tryd.agg29 Tryd.results33 rfl ((((((((HR2.out.set 0 _).set 1 _).set 2 _).set 3 _).set 4 _).set 5 _).set 6 _).set 7 _) rfl
end Go.Proofs.YtiidcnjhjojhoaaDoor
