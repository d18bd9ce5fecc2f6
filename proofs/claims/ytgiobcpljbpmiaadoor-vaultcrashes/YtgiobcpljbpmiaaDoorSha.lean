/-
  Sha: ported texts, joined.
-/
import Derived.Test.YtgiobcpljbpmiaaDoorBase
import Derived.Deep.RegionHeld3
import Derived.IntWalk
import Derived.BigRegion
import Derived.Laws.CopyOwn
import Derived.Test.YtgiobcpljbpmiaaDoorRows
import Derived.Lib.LaidTab
import Derived.MakeChecks
import Derived.Lay
import Derived.LaidLaws
import Derived.ProofKit
import Derived.Deep.RegionLaw
import Derived.Deep.RegionWith
import Derived.ChangeKeysEq
namespace Go.Proofs.YtgiobcpljbpmiaaDoor
section
open Go.RowKit
theorem t1W_eq (y x A B C D E F G H : Int) : t1W y x ⟨A, B, C, D, E, F, G, H⟩ = (H + bS1 E + chW E F G + y + x) % 4294967296 := by
  unfold t1W add32; simp only; generalize bS1 E = p; generalize chW E F G = q; omega
theorem t2W_eq (A B C D E F G H : Int) : t2W ⟨A, B, C, D, E, F, G, H⟩ = (bS0 A + majW A B C) % 4294967296 := rfl
theorem rnd_eq (y x A B C D E F G H : Int) : rnd y x ⟨A, B, C, D, E, F, G, H⟩ = ⟨((H + bS1 E + chW E F G + y + x) % 4294967296 + (bS0 A + majW A B C) % 4294967296) % 4294967296, A, B, C, (D + (H + bS1 E + chW E F G + y + x) % 4294967296) % 4294967296, E, F, G⟩ := by
  unfold rnd; rw [t1W_eq, t2W_eq]; rfl
theorem Tryd.agg29 : AggType Tryd.prog 115 8 := ⟨_, Tryd.underlying115, rfl, by kernel_rfl⟩
theorem Tryd.agg50 : AggType Tryd.prog 131 64 := ⟨_, Tryd.underlying131, rfl, by kernel_rfl⟩
set_option maxRecDepth 100000 in
set_option maxHeartbeats 1000000 in
theorem work_any (a b c d e f g h : Int) (W : List Int) (hl : W.length = 64) (w : World) (hT : Tab 2 w) (hok : S8.ok ⟨a, b, c, d, e, f, g, h⟩) :
    Calls Tryd.prog 97 #[.agg #[.int .u32 a, .int .u32 b, .int .u32 c, .int .u32 d, .int .u32 e, .int .u32 f, .int .u32 g, .int .u32 h], .agg (wcells W)] w fun en w' => en = .returned (v8 (workS ⟨a, b, c, d, e, f, g, h⟩ W)) ∧ Below w.heap.size w w' := by
  have HT := Lib.hid hT
  have HL := Lib.hid hl
  have HO := Lib.hid hok
  clear hT hl hok
  go_enter Tryd.func97, Tryd.ntmps97
  go_wp2_with fail
  go_quiet (fail)
  go_wp2_with fail
  go_loopw [5, 6, 7, 8, 9, 10, 11, 12, 32] (fun ra rb rc rd re rf rg rh i wr => ∃ (k : Nat) (A B C D E F G H : Int), k ≤ 64 ∧ i = .int .i64 (k : Int) ∧ ra = .int .u32 A ∧ rb = .int .u32 B ∧ rc = .int .u32 C ∧ rd = .int .u32 D ∧ re = .int .u32 E ∧ rf = .int .u32 F ∧ rg = .int .u32 G ∧ rh = .int .u32 H ∧ Hid (rounds W ⟨a, b, c, d, e, f, g, h⟩ k = ⟨A, B, C, D, E, F, G, H⟩) ∧ Below w.heap.size w wr ∧ Row wr w.heap.size 115 #[.int .u32 a, .int .u32 b, .int .u32 c, .int .u32 d, .int .u32 e, .int .u32 f, .int .u32 g, .int .u32 h] ∧ Row wr (w.heap.size + 1) 131 (wcells W) ∧ Row wr (w.heap.size + 1 + 1) 115 #[.int .u32 0, .int .u32 0, .int .u32 0, .int .u32 0, .int .u32 0, .int .u32 0, .int .u32 0, .int .u32 0]) (fun _ _ _ _ _ _ _ _ i _ => 64 - (intOf i).toNat)
  case atStart =>
    refine ⟨0, a, b, c, d, e, f, g, h, Nat.zero_le _, rfl, rfl, rfl, rfl, rfl, rfl, rfl, rfl, rfl, Lib.hid rfl, ?_, ?_, ?_, ?_⟩
    · exact below_drewN' ((((Below.refl _ _).alloc (Nat.le_refl _) _).alloc (by simp) _).alloc (by simp; omega) _) _
    · exact (((Row.new _ _ _).alloc _).alloc _).drewN _
    · exact ((Row.new1 w _ _ _).alloc _).drewN _
    · exact (Row.new2 w _ _ _ _).drewN _
  case round =>
    obtain ⟨k, A, B, C, D, E, F, G, H, hk, rfl, rfl, rfl, rfl, rfl, rfl, rfl, rfl, rfl, HR, hbel, hr0, hr1, hr2⟩ := hrel
    have hsok := rounds_ok W _ HO.out k
    rw [HR.out] at hsok
    obtain ⟨⟨a1, a2⟩, ⟨b1, b2⟩, ⟨c1, c2⟩, ⟨d1, d2⟩, ⟨e1, e2⟩, ⟨f1, f2⟩, ⟨g1, g2⟩, ⟨h1, h2⟩⟩ := hsok
    by_cases hlt : k < 64
    · have hcW := (hr1.cell k).trans (wcells_get W k (by rw [HL.out]; exact hlt))
      have hcK := (HT.out.below hbel).2 k hlt
      have HS := Lib.hid (show rounds W ⟨a, b, c, d, e, f, g, h⟩ (k + 1) = rnd (kAt k) (W.getD k 0) (rounds W ⟨a, b, c, d, e, f, g, h⟩ k) from rfl)
      have HR0 := Lib.hid hr0
      have HR1 := Lib.hid hr1
      have HR2 := Lib.hid hr2
      have hi0 : (0 : Int) ≤ (k : Int) := by omega
      have hi1 : (k : Int) < 64 := by omega
      clear hr0 hr1 hr2
      generalize W.getD k 0 = x at *
      generalize kAt k = y at *
      go_wp2_with fail
      go_quiet (first | (go_at_call 101; exact quiet_same (bS1_any _ _ e1 e2)) | (go_at_call 102; exact quiet_same (choose_any _ _ _ _)))
      go_wp2_with (first | (go_at_call 103; refine (bS0_any _ _ a1 a2).mono ?_; rintro e w' ⟨rfl, rfl⟩) | (go_at_call 104; refine (majority_any _ _ _ _).mono ?_; rintro e w' ⟨rfl, rfl⟩))
      go_roundw
      case rel =>
        refine ⟨k + 1, _, A, B, C, _, E, F, G, by omega, by go_num, rfl, rfl, rfl, rfl, rfl, rfl, rfl, rfl, Lib.hid ?_, below_drewN' hbel _, HR0.out.drewN _, HR1.out.drewN _, HR2.out.drewN _⟩
        rw [HS.out, HR.out, rnd_eq]
      case measure => simp [intOf]; omega
    · have HR0 := Lib.hid hr0
      have HR1 := Lib.hid hr1
      have HR2 := Lib.hid hr2
      have q0 : wr.cell? ⟨w.heap.size, 0, none⟩ = some (.int .u32 a) := hr0.cell 0
      have q1 : wr.cell? ⟨w.heap.size, 1, none⟩ = some (.int .u32 b) := hr0.cell 1
      have q2 : wr.cell? ⟨w.heap.size, 2, none⟩ = some (.int .u32 c) := hr0.cell 2
      have q3 : wr.cell? ⟨w.heap.size, 3, none⟩ = some (.int .u32 d) := hr0.cell 3
      have q4 : wr.cell? ⟨w.heap.size, 4, none⟩ = some (.int .u32 e) := hr0.cell 4
      have q5 : wr.cell? ⟨w.heap.size, 5, none⟩ = some (.int .u32 f) := hr0.cell 5
      have q6 : wr.cell? ⟨w.heap.size, 6, none⟩ = some (.int .u32 g) := hr0.cell 6
      have q7 : wr.cell? ⟨w.heap.size, 7, none⟩ = some (.int .u32 h) := hr0.cell 7
      have z0 : wr.cell? ⟨w.heap.size + 1 + 1, 0, none⟩ = some (.int .u32 0) := hr2.cell 0
      have z1 : wr.cell? ⟨w.heap.size + 1 + 1, 1, none⟩ = some (.int .u32 0) := hr2.cell 1
      have z2 : wr.cell? ⟨w.heap.size + 1 + 1, 2, none⟩ = some (.int .u32 0) := hr2.cell 2
      have z3 : wr.cell? ⟨w.heap.size + 1 + 1, 3, none⟩ = some (.int .u32 0) := hr2.cell 3
      have z4 : wr.cell? ⟨w.heap.size + 1 + 1, 4, none⟩ = some (.int .u32 0) := hr2.cell 4
      have z5 : wr.cell? ⟨w.heap.size + 1 + 1, 5, none⟩ = some (.int .u32 0) := hr2.cell 5
      have z6 : wr.cell? ⟨w.heap.size + 1 + 1, 6, none⟩ = some (.int .u32 0) := hr2.cell 6
      have z7 : wr.cell? ⟨w.heap.size + 1 + 1, 7, none⟩ = some (.int .u32 0) := hr2.cell 7
      have y0 := hr2.frozen 0
      have y1 := hr2.frozen 1
      have y2 := hr2.frozen 2
      have y3 := hr2.frozen 3
      have y4 := hr2.frozen 4
      have y5 := hr2.frozen 5
      have y6 := hr2.frozen 6
      have y7 := hr2.frozen 7
      clear hr0 hr1 hr2
      go_wp2
      obtain rfl : k = 64 := by omega
      refine bodyPost_ret (v := v8 (workS ⟨a, b, c, d, e, f, g, h⟩ W)) ?_ rfl ⟨rfl, (((((((hbel.setCell (by simp; omega) _).setCell (by simp; omega) _).setCell (by simp; omega) _).setCell (by simp; omega) _).setCell (by simp; omega) _).setCell (by simp; omega) _).setCell (by simp; omega) _).setCell (by simp; omega) _⟩
      have hv : v8 (workS ⟨a, b, c, d, e, f, g, h⟩ W) = .agg #[.int .u32 ((a + A) % 4294967296), .int .u32 ((b + B) % 4294967296), .int .u32 ((c + C) % 4294967296), .int .u32 ((d + D) % 4294967296), .int .u32 ((e + E) % 4294967296), .int .u32 ((f + F) % 4294967296), .int .u32 ((g + G) % 4294967296), .int .u32 ((h + H) % 4294967296)] := by
        unfold workS; rw [HR.out]; rfl
      rw [hv]
      exact results_row1 Tryd.agg29 Tryd.results97 rfl ((((((((HR2.out.set 0 _).set 1 _).set 2 _).set 3 _).set 4 _).set 5 _).set 6 _).set 7 _) rfl
end
section
open Go.RowKit
theorem cell_set_ne {w : World} {b o o' : Nat} {u v : Value} (h : o ≠ o') (hc : w.cell? ⟨b, o', none⟩ = some v) : (w.setCell ⟨b, o, none⟩ u).drew.cell? ⟨b, o', none⟩ = some v := by
  show (w.setCell ⟨b, o, none⟩ u).cell? ⟨b, o', none⟩ = some v
  rw [World.cell?_setCell_other _ _ _ _ (by intro e; injection e with _ e; exact h e)]; exact hc
theorem wcells_one (l : List Int) : (wcells l).all (·.oneCell') = true := by
  unfold wcells
  exact all_oneCell_toArray fun v hv => by
    obtain ⟨x, _, rfl⟩ := List.mem_map.1 hv
    rfl
/-- the first k words stand -/
def Filled (l : List UInt8) (k : Nat) (cs : Array Value) : Prop := cs.size = 64 ∧ ∀ j, j < k → cs[j]? = some (.int .u32 ((wList l k).getD j 0))
theorem Filled.step {l : List UInt8} {k : Nat} {cs : Array Value} (h : Filled l k cs) (hk : k < 64) : Filled l (k + 1) (cs.setIfInBounds k (.int .u32 (nextW l k (wList l k)))) := by
  refine ⟨by rw [Array.size_setIfInBounds]; exact h.1, fun j hj => ?_⟩
  rw [Array.getElem?_setIfInBounds]
  by_cases e : k = j
  · subst e; rw [if_pos rfl, if_pos (by rw [h.1]; exact hk), wList_last]
  · rw [if_neg e, h.2 j (by omega), wList_get l k j (by omega)]
theorem Filled.all {l : List UInt8} {cs : Array Value} (h : Filled l 64 cs) : cs = wcells (wList l 64) := by
  apply Array.ext_getElem?
  intro j
  by_cases hj : j < 64
  · rw [h.2 j hj, wcells_get _ _ (by rw [wList_length]; exact hj)]
  · rw [Array.getElem?_eq_none (by rw [h.1]; omega), Array.getElem?_eq_none (by rw [wcells_size, wList_length]; omega)]
set_option maxRecDepth 100000 in
set_option maxHeartbeats 1000000 in
theorem spread_any (A : Option Addr) (c : Nat) (l : List UInt8) (w : World) (hB : Bs w A 64 l) (hc : 64 ≤ c) :
    Calls Tryd.prog 98 #[.slice A 64 c] w fun en w' => en = .returned (.agg (wcells (wList l 64))) ∧ Below w.heap.size w w' := by
  have HB := Lib.hid hB
  clear hB
  go_enter Tryd.func98, Tryd.ntmps98
  go_wp2_with fail
  go_loopw [5] (fun i wr => ∃ (k : Nat) (cs zs : Array Value), k ≤ 64 ∧ i = .int .i64 (k : Int) ∧ Below w.heap.size w wr ∧ Row wr w.heap.size 131 zs ∧ Hid (zs.size = 64) ∧ Row wr (w.heap.size + 1) 131 cs ∧ Filled l k cs) (fun i _ => 64 - (intOf i).toNat)
  case atStart =>
    exact ⟨0, _, _, Nat.zero_le _, rfl, ((Below.refl _ _).alloc (Nat.le_refl _) _).alloc (by simp) _, (Row.new _ _ _).alloc _, Lib.hid rfl, Row.new1 _ _ _ _, rfl, fun j hj => by omega⟩
  case round =>
    obtain ⟨k, cs, zs, hk, rfl, hbel, hz, HZ, hr, hf⟩ := hrel
    have HF := Lib.hid hf
    have HR := Lib.hid hr
    have hbs := hbel.size
    have HZR := Lib.hid hz
    clear hz
    by_cases h16 : k < 16
    · have hcell := hr.cell k
      have hfz := hr.frozen k
      have hin : k < cs.size := by rw [hf.1]; omega
      rw [Array.getElem?_eq_getElem hin] at hcell
      clear hf hr
      have hw4 : wordV l ((k : Int) * 4) = nextW l k (wList l k) := by
        unfold wordV nextW
        rw [if_pos h16, if_pos (by rw [HB.out.1]; omega), show ((k : Int) * 4).toNat = 4 * k by omega]
      have HW4 := Lib.hid hw4
      clear hw4
      go_wp2_with (go_at_call 105; refine (Word_any _ _ _ l _ _ (HB.out.below hbel) hc (by omega)).mono ?_; rintro e w' ⟨rfl, rfl⟩)
      go_roundw
      case rel =>
        refine ⟨k + 1, _, zs, by omega, by go_num, hbel.setCell (by simp) _, HZR.out.far (by simp) _, HZ, HR.out.set _ _, ?_⟩
        rw [HW4.out]
        exact HF.out.step (by omega)
      case measure => simp [intOf]; omega
    · by_cases hlt : k < 64
      · obtain ⟨x, hx⟩ : ∃ x, (wList l k).getD (k - 2) 0 = x := ⟨_, rfl⟩
        obtain ⟨y, hy⟩ : ∃ y, (wList l k).getD (k - 7) 0 = y := ⟨_, rfl⟩
        obtain ⟨z, hz⟩ : ∃ z, (wList l k).getD (k - 15) 0 = z := ⟨_, rfl⟩
        obtain ⟨v, hv⟩ : ∃ v, (wList l k).getD (k - 16) 0 = v := ⟨_, rfl⟩
        have c2 := (hr.cell (k - 2)).trans (hf.2 (k - 2) (by omega))
        have c7 := (hr.cell (k - 7)).trans (hf.2 (k - 7) (by omega))
        have c15 := (hr.cell (k - 15)).trans (hf.2 (k - 15) (by omega))
        have c16 := (hr.cell (k - 16)).trans (hf.2 (k - 16) (by omega))
        obtain ⟨x1, x2⟩ := wList_W32 l k (k - 2)
        obtain ⟨y1, y2⟩ := wList_W32 l k (k - 7)
        obtain ⟨z1, z2⟩ := wList_W32 l k (k - 15)
        obtain ⟨v1, v2⟩ := wList_W32 l k (k - 16)
        rw [hx] at c2 x1 x2
        rw [hy] at c7 y1 y2
        rw [hz] at c15 z1 z2
        rw [hv] at c16 v1 v2
        have HN := Lib.hid (show nextW l k (wList l k) = (((sS1 x + y) % 4294967296 + sS0 z) % 4294967296 + v) % 4294967296 by
          unfold nextW; rw [if_neg h16, hx, hy, hz, hv]; rfl)
        have hcell := hr.cell k
        have hfz := hr.frozen k
        have hin : k < cs.size := by rw [hf.1]; omega
        rw [Array.getElem?_eq_getElem hin] at hcell
        have i0 : (0 : Int) ≤ (k : Int) := by omega
        have i64 : (k : Int) < 64 := by omega
        have j2 : ((k : Int) - 2).toNat = k - 2 := by omega
        have j7 : ((k : Int) - 7).toNat = k - 7 := by omega
        have j15 : ((k : Int) - 15).toNat = k - 15 := by omega
        have j16 : ((k : Int) - 16).toNat = k - 16 := by omega
        have w2 : IntKind.i64.wrap ((k : Int) - 2) = (k : Int) - 2 := IntWalk.i64_in _ (by omega)
        have p2 : (0 : Int) ≤ (k : Int) - 2 := by omega
        have pp2 : (2 : Int) ≤ (k : Int) := by omega
        have r2 : (k : Int) - 2 < 64 := by omega
        have w7 : IntKind.i64.wrap ((k : Int) - 7) = (k : Int) - 7 := IntWalk.i64_in _ (by omega)
        have p7 : (0 : Int) ≤ (k : Int) - 7 := by omega
        have pp7 : (7 : Int) ≤ (k : Int) := by omega
        have r7 : (k : Int) - 7 < 64 := by omega
        have w15 : IntKind.i64.wrap ((k : Int) - 15) = (k : Int) - 15 := IntWalk.i64_in _ (by omega)
        have p15 : (0 : Int) ≤ (k : Int) - 15 := by omega
        have pp15 : (15 : Int) ≤ (k : Int) := by omega
        have r15 : (k : Int) - 15 < 64 := by omega
        have w16 : IntKind.i64.wrap ((k : Int) - 16) = (k : Int) - 16 := IntWalk.i64_in _ (by omega)
        have p16 : (0 : Int) ≤ (k : Int) - 16 := by omega
        have pp16 : (16 : Int) ≤ (k : Int) := by omega
        have r16 : (k : Int) - 16 < 64 := by omega
        have n2 : k ≠ k - 2 := by omega
        have n7 : k ≠ k - 7 := by omega
        have n15 : k ≠ k - 15 := by omega
        have n16 : k ≠ k - 16 := by omega
        clear hf hr hx hy hz hv
        go_wp2_with fail
        go_region_held3 (fun w' => w'.cell? ⟨w.heap.size + 1, k - 2, none⟩ = some (.int .u32 x) ∧ w'.cell? ⟨w.heap.size + 1, k - 7, none⟩ = some (.int .u32 y) ∧ w'.cell? ⟨w.heap.size + 1, k - 15, none⟩ = some (.int .u32 z) ∧ w'.cell? ⟨w.heap.size + 1, k - 16, none⟩ = some (.int .u32 v)) (first | exact ⟨c2, c7, c15, c16⟩ | exact ⟨cell_set_ne n2 c2, cell_set_ne n7 c7, cell_set_ne n15 c15, cell_set_ne n16 c16⟩ | go_keep) (first | (go_at_call 106; refine (sS1_any _ _ x1 x2).mono ?_; rintro e w' ⟨rfl, rfl⟩) | (go_at_call 107; refine (sS0_any _ _ z1 z2).mono ?_; rintro e w' ⟨rfl, rfl⟩))
        go_wp2_with fail
        go_roundw
        case rel =>
          refine ⟨k + 1, _, zs, by omega, by go_num, (hbel.setCell (by simp) _).drew, (HZR.out.far (by simp) _).drewN 1, HZ, (HR.out.set _ _).drewN 1, ?_⟩
          rw [← HN.out]
          exact HF.out.step (by omega)
        case measure => simp [intOf]; omega
      · obtain rfl : k = 64 := by omega
        have hcs := hf.all
        have h64 := hf.1
        subst hcs
        have H64 := Lib.hid h64
        clear hf hr h64
        go_wp2_with (first | (with_reducible refine wpList_load_row Tryd.agg50 rfl (.tmp 3) rfl _ rfl 131 _ HR.out H64.out ?_) | (with_reducible refine wpList_store_row Tryd.agg50 rfl (.tmp 2) (.tmp 43) rfl _ _ rfl rfl 131 zs HZR.out H64.out HZ.out (wcells_one _) ?_; intro w9 hr9 ho9; have HR9 := Lib.hid hr9; clear hr9))
        exact bodyPost_ret (results_row1 Tryd.agg50 Tryd.results98 rfl HR9.out H64.out) rfl ⟨rfl, hbel.trans (ho9.below (Nat.le_refl _) hbs)⟩
end
section
open Go.RowKit
theorem gen_world (w : World) (n : Nat) : ∃ w2, w2 = w.drewN n ∧ ∀ a, w2.cell? a = w.cell? a := ⟨_, rfl, fun _ => rfl⟩
theorem size8 (a b c d e f g h : Value) : #[a, b, c, d, e, f, g, h].size = 8 := rfl
theorem one8 (a b c d e f g h : Int) : (#[.int .u32 a, .int .u32 b, .int .u32 c, .int .u32 d, .int .u32 e, .int .u32 f, .int .u32 g, .int .u32 h] : Array Value).all (·.oneCell') = true := by simp [Value.oneCell']
theorem rnd_eq2 (y x A B C D E F G H : Int) : rnd y x ⟨A, B, C, D, E, F, G, H⟩ = ⟨(H + bS1 E + chW E F G + y + x + (bS0 A + majW A B C)) % 4294967296, A, B, C, (D + (H + bS1 E + chW E F G + y + x)) % 4294967296, E, F, G⟩ := by
  rw [rnd_eq]; generalize bS1 E = p; generalize chW E F G = q; generalize bS0 A = r; generalize majW A B C = t
  congr 1 <;> omega
def S8.at (s : S8) : Nat → Int
  | 0 => s.a | 1 => s.b | 2 => s.c | 3 => s.d | 4 => s.e | 5 => s.f | 6 => s.g | 7 => s.h | _ => 0
theorem v8_get (s : S8) (k : Nat) (h : k < 8) : (#[.int .u32 s.a, .int .u32 s.b, .int .u32 s.c, .int .u32 s.d, .int .u32 s.e, .int .u32 s.f, .int .u32 s.g, .int .u32 s.h] : Array Value)[k]? = some (.int .u32 (s.at k)) := by
  match k, h with
  | 0, _ | 1, _ | 2, _ | 3, _ | 4, _ | 5, _ | 6, _ | 7, _ => rfl
/-- the first k words are added up -/
def Mixed (s r : S8) (k : Nat) (cs : Array Value) : Prop := cs.size = 8 ∧ ∀ j, j < 8 → cs[j]? = some (.int .u32 (if j < k then add32 (s.at j) (r.at j) else s.at j))
theorem Mixed.zero (s r : S8) : Mixed s r 0 #[.int .u32 s.a, .int .u32 s.b, .int .u32 s.c, .int .u32 s.d, .int .u32 s.e, .int .u32 s.f, .int .u32 s.g, .int .u32 s.h] :=
  ⟨rfl, fun j hj => by rw [v8_get s j hj]; simp⟩
theorem Mixed.get_old {s r : S8} {k : Nat} {cs : Array Value} (h : Mixed s r k cs) (hk : k < 8) : cs[k]? = some (.int .u32 (s.at k)) := by
  rw [h.2 k hk]; simp
theorem Mixed.step {s r : S8} {k : Nat} {cs : Array Value} (h : Mixed s r k cs) (hk : k < 8) : Mixed s r (k + 1) (cs.setIfInBounds k (.int .u32 (add32 (s.at k) (r.at k)))) := by
  refine ⟨by rw [Array.size_setIfInBounds]; exact h.1, fun j hj => ?_⟩
  rw [Array.getElem?_setIfInBounds]
  by_cases e : k = j
  · subst e; rw [if_pos rfl, if_pos (by rw [h.1]; exact hk), if_pos (by omega)]
  · rw [if_neg e, h.2 j hj]
    by_cases h2 : j < k
    · rw [if_pos h2, if_pos (by omega)]
    · rw [if_neg h2, if_neg (by omega)]
theorem Mixed.all {s r : S8} {cs : Array Value} (h : Mixed s r 8 cs) : cs = #[.int .u32 (add32 s.a r.a), .int .u32 (add32 s.b r.b), .int .u32 (add32 s.c r.c), .int .u32 (add32 s.d r.d), .int .u32 (add32 s.e r.e), .int .u32 (add32 s.f r.f), .int .u32 (add32 s.g r.g), .int .u32 (add32 s.h r.h)] := by
  apply Array.ext_getElem?
  intro j
  by_cases hj : j < 8
  · rw [h.2 j hj, if_pos hj]
    match j, hj with
    | 0, _ | 1, _ | 2, _ | 3, _ | 4, _ | 5, _ | 6, _ | 7, _ => rfl
  · rw [Array.getElem?_eq_none (by rw [h.1]; omega), Array.getElem?_eq_none (by simp; omega)]
set_option maxRecDepth 100000 in
set_option maxHeartbeats 2000000 in
theorem RefBlock_any (a b c d e f g h : Int) (A : Option Addr) (cap : Nat) (l : List UInt8) (w : World) (hB : Bs w A 64 l) (hT : Tab 1 w) (hok : S8.ok ⟨a, b, c, d, e, f, g, h⟩) :
    Calls Tryd.prog 74 #[.agg #[.int .u32 a, .int .u32 b, .int .u32 c, .int .u32 d, .int .u32 e, .int .u32 f, .int .u32 g, .int .u32 h], .slice A 64 cap] w fun en w' => en = .returned (v8 (blockS ⟨a, b, c, d, e, f, g, h⟩ l)) ∧ Below w.heap.size w w' := by
  have HT := Lib.hid hT
  have HB := Lib.hid hB
  have HO := Lib.hid hok
  clear hT hB hok
  go_enter Tryd.func74, Tryd.ntmps74
  go_wp2_with fail
  go_loopw [6] (fun i wr => ∃ (k : Nat) (cs : Array Value), k ≤ 64 ∧ i = .int .i64 (k : Int) ∧ Below w.heap.size w wr ∧ Row wr w.heap.size 115 #[.int .u32 a, .int .u32 b, .int .u32 c, .int .u32 d, .int .u32 e, .int .u32 f, .int .u32 g, .int .u32 h] ∧ Row wr (w.heap.size + 1) 115 #[.int .u32 0, .int .u32 0, .int .u32 0, .int .u32 0, .int .u32 0, .int .u32 0, .int .u32 0, .int .u32 0] ∧ Row wr (w.heap.size + 1 + 1) 131 cs ∧ Filled l k cs) (fun i _ => 64 - (intOf i).toNat)
  case atStart =>
    exact ⟨0, _, Nat.zero_le _, rfl, (((Below.refl _ _).alloc (Nat.le_refl _) _).alloc (by simp) _).alloc (by simp; omega) _, ((Row.new _ _ _).alloc _).alloc _, (Row.new1 _ _ _ _).alloc _, Row.new2 _ _ _ _ _, rfl, fun j hj => by omega⟩
  case round =>
    obtain ⟨k, cs, hk, rfl, hbel, hr0, hr1, hr, hf⟩ := hrel
    have HF := Lib.hid hf
    have HR := Lib.hid hr
    have HR0 := Lib.hid hr0
    have HR1 := Lib.hid hr1
    have hbs := hbel.size
    clear hr0 hr1
    by_cases h16 : k < 16
    · have hcell := hr.cell k
      have hfz := hr.frozen k
      have hin : k < cs.size := by rw [hf.1]; omega
      rw [Array.getElem?_eq_getElem hin] at hcell
      clear hf hr
      have hw4 : wordV l (4 * (k : Int)) = nextW l k (wList l k) := by
        unfold wordV nextW
        rw [if_pos h16, if_pos (by rw [HB.out.1]; omega), show (4 * (k : Int)).toNat = 4 * k by omega]
      have HW4 := Lib.hid hw4
      clear hw4
      go_wp2_with (go_at_call 86; refine (RefWord_any _ _ _ l _ _ (HB.out.below hbel) (by omega)).mono ?_; rintro e w' ⟨rfl, m1, rfl⟩)
      go_roundw
      case rel =>
        refine ⟨k + 1, _, by omega, by go_num, (below_drewN' hbel _).setCell (by simp; omega) _, (HR0.out.drewN _).far (by simp; omega) _, (HR1.out.drewN _).far (by simp) _, (HR.out.drewN _).set _ _, ?_⟩
        rw [HW4.out]
        exact HF.out.step (by omega)
      case measure => simp [intOf]; omega
    · by_cases hlt : k < 64
      · obtain ⟨x, hx⟩ : ∃ x, (wList l k).getD (k - 2) 0 = x := ⟨_, rfl⟩
        obtain ⟨y, hy⟩ : ∃ y, (wList l k).getD (k - 7) 0 = y := ⟨_, rfl⟩
        obtain ⟨z, hz⟩ : ∃ z, (wList l k).getD (k - 15) 0 = z := ⟨_, rfl⟩
        obtain ⟨v, hv⟩ : ∃ v, (wList l k).getD (k - 16) 0 = v := ⟨_, rfl⟩
        have c2 := (hr.cell (k - 2)).trans (hf.2 (k - 2) (by omega))
        have c7 := (hr.cell (k - 7)).trans (hf.2 (k - 7) (by omega))
        have c15 := (hr.cell (k - 15)).trans (hf.2 (k - 15) (by omega))
        have c16 := (hr.cell (k - 16)).trans (hf.2 (k - 16) (by omega))
        obtain ⟨x1, x2⟩ := wList_W32 l k (k - 2)
        obtain ⟨y1, y2⟩ := wList_W32 l k (k - 7)
        obtain ⟨z1, z2⟩ := wList_W32 l k (k - 15)
        obtain ⟨v1, v2⟩ := wList_W32 l k (k - 16)
        rw [hx] at c2 x1 x2
        rw [hy] at c7 y1 y2
        rw [hz] at c15 z1 z2
        rw [hv] at c16 v1 v2
        have HN := Lib.hid (show nextW l k (wList l k) = (((sS1 x + y) % 4294967296 + sS0 z) % 4294967296 + v) % 4294967296 by
          unfold nextW; rw [if_neg h16, hx, hy, hz, hv]; rfl)
        have hcell := hr.cell k
        have hfz := hr.frozen k
        have hin : k < cs.size := by rw [hf.1]; omega
        rw [Array.getElem?_eq_getElem hin] at hcell
        have i0 : (0 : Int) ≤ (k : Int) := by omega
        have i64 : (k : Int) < 64 := by omega
        have j2 : ((k : Int) - 2).toNat = k - 2 := by omega
        have j7 : ((k : Int) - 7).toNat = k - 7 := by omega
        have j15 : ((k : Int) - 15).toNat = k - 15 := by omega
        have j16 : ((k : Int) - 16).toNat = k - 16 := by omega
        have w2 : IntKind.i64.wrap ((k : Int) - 2) = (k : Int) - 2 := IntWalk.i64_in _ (by omega)
        have p2 : (0 : Int) ≤ (k : Int) - 2 := by omega
        have pp2 : (2 : Int) ≤ (k : Int) := by omega
        have r2 : (k : Int) - 2 < 64 := by omega
        have w7 : IntKind.i64.wrap ((k : Int) - 7) = (k : Int) - 7 := IntWalk.i64_in _ (by omega)
        have p7 : (0 : Int) ≤ (k : Int) - 7 := by omega
        have pp7 : (7 : Int) ≤ (k : Int) := by omega
        have r7 : (k : Int) - 7 < 64 := by omega
        have w15 : IntKind.i64.wrap ((k : Int) - 15) = (k : Int) - 15 := IntWalk.i64_in _ (by omega)
        have p15 : (0 : Int) ≤ (k : Int) - 15 := by omega
        have pp15 : (15 : Int) ≤ (k : Int) := by omega
        have r15 : (k : Int) - 15 < 64 := by omega
        have w16 : IntKind.i64.wrap ((k : Int) - 16) = (k : Int) - 16 := IntWalk.i64_in _ (by omega)
        have p16 : (0 : Int) ≤ (k : Int) - 16 := by omega
        have pp16 : (16 : Int) ≤ (k : Int) := by omega
        have r16 : (k : Int) - 16 < 64 := by omega
        have n7 : k ≠ k - 7 := by omega
        have n16 : k ≠ k - 16 := by omega
        clear hf hr hx hy hz hv
        go_wp2_with fail
        go_quiet (fail)
        go_wp2_with (first | (go_at_call_of 87 (Value.int .u32 z); refine (RefRot_any _ _ _ z1 z2).mono ?_; rintro e w' ⟨rfl, rfl⟩) | (go_at_call 87; refine (RefRot_any _ _ _ x1 x2).mono ?_; rintro e w' ⟨rfl, rfl⟩))
        go_region_held3 (fun w' => w'.cell? ⟨w.heap.size + 1 + 1, k - 7, none⟩ = some (.int .u32 y) ∧ w'.cell? ⟨w.heap.size + 1 + 1, k - 16, none⟩ = some (.int .u32 v)) (first | exact ⟨c7, c16⟩ | exact ⟨cell_set_ne n7 c7, cell_set_ne n16 c16⟩ | go_keep) (first | fail)
        go_wp2_with fail
        go_roundw
        case rel =>
          refine ⟨k + 1, _, by omega, by go_num, (below_drewN' hbel _).setCell (by simp; omega) _, (HR0.out.drewN _).far (by simp; omega) _, (HR1.out.drewN _).far (by simp) _, (HR.out.drewN _).set _ _, ?_⟩
          have hst := HF.out.step (by omega)
          rw [HN.out] at hst
          exact hst
        case measure => simp [intOf]; omega
      · obtain rfl : k = 64 := by omega
        have hcs := hf.all
        have h64 := hf.1
        subst hcs
        have H64 := Lib.hid h64
        clear hf hr h64 HF
        go_wp2_with (first | (with_reducible refine wpList_load_row Tryd.agg29 rfl (.tmp 2) rfl _ rfl 115 _ HR0.out rfl ?_))
        obtain ⟨w1, hw1⟩ : ∃ w1, w1 = wr := ⟨wr, rfl⟩
        subst hw1
        have hlt2 := HR.out.lt
        go_loopw [14] (fun i wr => ∃ (k : Nat) (A1 B1 C1 D1 E1 F1 G1 H1 : Int), k ≤ 64 ∧ i = .int .i64 (k : Int) ∧ Hid (rounds (wList l 64) ⟨a, b, c, d, e, f, g, h⟩ k = ⟨A1, B1, C1, D1, E1, F1, G1, H1⟩) ∧ Below w1.heap.size w1 wr ∧ Row wr w1.heap.size 115 #[.int .u32 A1, .int .u32 B1, .int .u32 C1, .int .u32 D1, .int .u32 E1, .int .u32 F1, .int .u32 G1, .int .u32 H1]) (fun i _ => 64 - (intOf i).toNat)
        case atStart => exact ⟨0, _, _, _, _, _, _, _, _, Nat.zero_le _, rfl, Lib.hid rfl, (Below.refl _ _).alloc (Nat.le_refl _) _, Row.new _ _ _⟩
        case round =>
          obtain ⟨k, A1, B1, C1, D1, E1, F1, G1, H1, hk, rfl, HRn, hb1, hv⟩ := hrel
          have HV := Lib.hid hv
          have hsok := rounds_ok (wList l 64) _ HO.out k
          rw [HRn.out] at hsok
          obtain ⟨⟨a1, a2⟩, ⟨b1, b2⟩, ⟨c1, c2⟩, ⟨d1, d2⟩, ⟨e1, e2⟩, ⟨f1, f2⟩, ⟨g1, g2⟩, ⟨h1, h2⟩⟩ := hsok
          have q0 : wr.cell? ⟨w1.heap.size, 0, none⟩ = some (.int .u32 A1) := hv.cell 0
          have q1 : wr.cell? ⟨w1.heap.size, 1, none⟩ = some (.int .u32 B1) := hv.cell 1
          have q2 : wr.cell? ⟨w1.heap.size, 2, none⟩ = some (.int .u32 C1) := hv.cell 2
          have q3 : wr.cell? ⟨w1.heap.size, 3, none⟩ = some (.int .u32 D1) := hv.cell 3
          have q4 : wr.cell? ⟨w1.heap.size, 4, none⟩ = some (.int .u32 E1) := hv.cell 4
          have q5 : wr.cell? ⟨w1.heap.size, 5, none⟩ = some (.int .u32 F1) := hv.cell 5
          have q6 : wr.cell? ⟨w1.heap.size, 6, none⟩ = some (.int .u32 G1) := hv.cell 6
          have q7 : wr.cell? ⟨w1.heap.size, 7, none⟩ = some (.int .u32 H1) := hv.cell 7
          clear hv
          by_cases hlt : k < 64
          · have qW := ((HR.out.below hb1 hlt2).cell k).trans (wcells_get _ k (by rw [wList_length]; exact hlt))
            have qK := ((HT.out.below hbel).below hb1).2 k hlt
            have HS := Lib.hid (show rounds (wList l 64) ⟨a, b, c, d, e, f, g, h⟩ (k + 1) = rnd (kAt k) ((wList l 64).getD k 0) (rounds (wList l 64) ⟨a, b, c, d, e, f, g, h⟩ k) from rfl)
            have i0 : (0 : Int) ≤ (k : Int) := by omega
            have i64 : (k : Int) < 64 := by omega
            have hs : IntKind.u32.signed = false := rfl
            generalize (wList l 64).getD k 0 = x at *
            generalize kAt k = y at *
            go_wp2_with fail
            go_big_quiet (fail)
            go_wp2_with fail
            obtain ⟨w2, hw2, hc2⟩ := gen_world wr nq
            rw [← hw2]
            have r0 : w2.cell? ⟨w1.heap.size, 0, none⟩ = some (.int .u32 A1) := (hc2 _).trans q0
            have r1 : w2.cell? ⟨w1.heap.size, 1, none⟩ = some (.int .u32 B1) := (hc2 _).trans q1
            have r2 : w2.cell? ⟨w1.heap.size, 2, none⟩ = some (.int .u32 C1) := (hc2 _).trans q2
            have r3 : w2.cell? ⟨w1.heap.size, 3, none⟩ = some (.int .u32 D1) := (hc2 _).trans q3
            have r4 : w2.cell? ⟨w1.heap.size, 4, none⟩ = some (.int .u32 E1) := (hc2 _).trans q4
            have r5 : w2.cell? ⟨w1.heap.size, 5, none⟩ = some (.int .u32 F1) := (hc2 _).trans q5
            have r6 : w2.cell? ⟨w1.heap.size, 6, none⟩ = some (.int .u32 G1) := (hc2 _).trans q6
            have r7 : w2.cell? ⟨w1.heap.size, 7, none⟩ = some (.int .u32 H1) := (hc2 _).trans q7
            have rW := (hc2 _).trans qW
            have rK := (hc2 _).trans qK
            have Hw2 := Lib.hid hw2
            clear hw2 hc2 q0 q1 q2 q3 q4 q5 q6 q7 qW qK
            go_big_quiet ((go_at_call 87; exact quiet_same (RefRot_any _ _ _ e1 e2)))
            go_wp2_with fail
            obtain ⟨w3, hw2, hc2⟩ := gen_world w2 nq
            rw [← hw2]
            have s0 : w3.cell? ⟨w1.heap.size, 0, none⟩ = some (.int .u32 A1) := (hc2 _).trans r0
            have s1 : w3.cell? ⟨w1.heap.size, 1, none⟩ = some (.int .u32 B1) := (hc2 _).trans r1
            have s2 : w3.cell? ⟨w1.heap.size, 2, none⟩ = some (.int .u32 C1) := (hc2 _).trans r2
            have s3 : w3.cell? ⟨w1.heap.size, 3, none⟩ = some (.int .u32 D1) := (hc2 _).trans r3
            have s4 : w3.cell? ⟨w1.heap.size, 4, none⟩ = some (.int .u32 E1) := (hc2 _).trans r4
            have s5 : w3.cell? ⟨w1.heap.size, 5, none⟩ = some (.int .u32 F1) := (hc2 _).trans r5
            have s6 : w3.cell? ⟨w1.heap.size, 6, none⟩ = some (.int .u32 G1) := (hc2 _).trans r6
            have s7 : w3.cell? ⟨w1.heap.size, 7, none⟩ = some (.int .u32 H1) := (hc2 _).trans r7
            have sW := (hc2 _).trans rW
            have sK := (hc2 _).trans rK
            have Hw3 := Lib.hid hw2
            clear hw2 hc2 r0 r1 r2 r3 r4 r5 r6 r7 rW rK
            go_big_quiet ((go_at_call 87; exact quiet_same (RefRot_any _ _ _ a1 a2)))
            obtain ⟨w4, hw2, hc2⟩ := gen_world w3 nq
            rw [← hw2]
            have t0 : w4.cell? ⟨w1.heap.size, 0, none⟩ = some (.int .u32 A1) := (hc2 _).trans s0
            have t1 : w4.cell? ⟨w1.heap.size, 1, none⟩ = some (.int .u32 B1) := (hc2 _).trans s1
            have t2 : w4.cell? ⟨w1.heap.size, 2, none⟩ = some (.int .u32 C1) := (hc2 _).trans s2
            have t3 : w4.cell? ⟨w1.heap.size, 3, none⟩ = some (.int .u32 D1) := (hc2 _).trans s3
            have t4 : w4.cell? ⟨w1.heap.size, 4, none⟩ = some (.int .u32 E1) := (hc2 _).trans s4
            have t5 : w4.cell? ⟨w1.heap.size, 5, none⟩ = some (.int .u32 F1) := (hc2 _).trans s5
            have t6 : w4.cell? ⟨w1.heap.size, 6, none⟩ = some (.int .u32 G1) := (hc2 _).trans s6
            have t7 : w4.cell? ⟨w1.heap.size, 7, none⟩ = some (.int .u32 H1) := (hc2 _).trans s7
            have tW := (hc2 _).trans sW
            have tK := (hc2 _).trans sK
            have Hw4 := Lib.hid hw2
            clear hw2 hc2 s0 s1 s2 s3 s4 s5 s6 s7 sW sK
            have HV4 := Lib.hid (show Row w4 w1.heap.size 115 _ by rw [Hw4.out, Hw3.out, Hw2.out]; exact ((HV.out.drewN _).drewN _).drewN _)
            go_wp2_with (with_reducible refine wpList_store_row Tryd.agg29 rfl (.tmp 13) (.tmp 157) rfl _ _ rfl rfl 115 _ HV4.out (size8 _ _ _ _ _ _ _ _) (size8 _ _ _ _ _ _ _ _) (one8 _ _ _ _ _ _ _ _) ?_; intro w9 hr9 ho9; have HR9 := Lib.hid hr9; clear hr9)
            go_roundw
            case rel =>
              refine ⟨k + 1, _, A1, B1, C1, _, E1, F1, G1, by omega, by go_num, Lib.hid ?_, ?_, HR9.out⟩
              · rw [HS.out, HRn.out]
                exact rnd_eq2 _ _ _ _ _ _ _ _ _ _
              · have hb4 : Below w1.heap.size w1 w4 := by rw [Hw4.out, Hw3.out, Hw2.out]; exact below_drewN' (below_drewN' (below_drewN' hb1 _) _) _
                exact hb4.trans (ho9.below (Nat.le_refl _) hb4.size)
            case measure => simp [intOf]; omega
          · obtain rfl : k = 64 := by omega
            obtain ⟨w5, hw5⟩ : ∃ w5, w5 = wr := ⟨wr, rfl⟩
            subst hw5
            have h1s := hb1.size
            go_wp2_with fail
            go_loopw [19] (fun i wr => ∃ (k : Nat) (cs : Array Value), k ≤ 8 ∧ i = .int .i64 (k : Int) ∧ Below w.heap.size w wr ∧ Row wr w.heap.size 115 cs ∧ Mixed ⟨a, b, c, d, e, f, g, h⟩ ⟨A1, B1, C1, D1, E1, F1, G1, H1⟩ k cs ∧ Row wr w1.heap.size 115 #[.int .u32 A1, .int .u32 B1, .int .u32 C1, .int .u32 D1, .int .u32 E1, .int .u32 F1, .int .u32 G1, .int .u32 H1] ∧ Row wr (w.heap.size + 1) 115 #[.int .u32 0, .int .u32 0, .int .u32 0, .int .u32 0, .int .u32 0, .int .u32 0, .int .u32 0, .int .u32 0]) (fun i _ => 8 - (intOf i).toNat)
            case atStart => exact ⟨0, _, Nat.zero_le _, rfl, hbel.trans (hb1.mono hbs), HR0.out.below hb1 HR0.out.lt, Mixed.zero _ _, HV.out, HR1.out.below hb1 HR1.out.lt⟩
            case round =>
              obtain ⟨k, cs, hk, rfl, hb8, hr, hm, hv, hz⟩ := hrel
              have HRr := Lib.hid hr
              have HM := Lib.hid hm
              have HV9 := Lib.hid hv
              have HZ := Lib.hid hz
              by_cases hlt : k < 8
              · have x1 := (hr.cell k).trans (hm.get_old hlt)
                have x2 := (hv.cell k).trans (v8_get ⟨A1, B1, C1, D1, E1, F1, G1, H1⟩ k hlt)
                have x3 := hr.frozen k
                have i0 : (0 : Int) ≤ (k : Int) := by omega
                have i8 : (k : Int) < 8 := by omega
                clear hr hm hv hz q0 q1 q2 q3 q4 q5 q6 q7
                generalize HX : S8.at ⟨a, b, c, d, e, f, g, h⟩ k = X at *
                generalize HY : S8.at ⟨A1, B1, C1, D1, E1, F1, G1, H1⟩ k = Y at *
                have HXh := Lib.hid HX
                have HYh := Lib.hid HY
                clear HX HY
                go_wp2_with fail
                go_big_region
                all_goals (try go_wp2_with fail)
                all_goals go_roundw
                case rel =>
                  refine ⟨k + 1, _, by omega, by go_num, (hb8.setCell (by simp) _).drew, (HRr.out.set _ _).drewN 1, ?_, (HV9.out.far (by simp; omega) _).drewN 1, (HZ.out.far (by simp) _).drewN 1⟩
                  have hst := HM.out.step hlt
                  rw [HXh.out, HYh.out] at hst
                  exact hst
                case measure => simp [intOf]; omega
              · obtain rfl : k = 8 := by omega
                have hcs := hm.all
                subst hcs
                clear hr hm hv hz q0 q1 q2 q3 q4 q5 q6 q7
                go_wp2_with (first | (with_reducible refine wpList_load_row Tryd.agg29 rfl (.tmp 2) rfl _ rfl 115 _ HRr.out (size8 _ _ _ _ _ _ _ _) ?_) | (with_reducible refine wpList_store_row Tryd.agg29 rfl (.tmp 4) (.tmp 170) rfl _ _ rfl rfl 115 _ HZ.out (size8 _ _ _ _ _ _ _ _) (size8 _ _ _ _ _ _ _ _) (one8 _ _ _ _ _ _ _ _) ?_; intro w9 hr9 ho9; have HR9 := Lib.hid hr9; clear hr9))
                refine bodyPost_ret (v := v8 (blockS ⟨a, b, c, d, e, f, g, h⟩ l)) ?_ rfl ⟨rfl, hb8.trans (ho9.below (by omega) hb8.size)⟩
                have hv : v8 (blockS ⟨a, b, c, d, e, f, g, h⟩ l) = v8 (plus ⟨a, b, c, d, e, f, g, h⟩ ⟨A1, B1, C1, D1, E1, F1, G1, H1⟩) := by
                  unfold blockS workS; rw [HRn.out]
                rw [hv]
                exact results_row1 Tryd.agg29 Tryd.results74 rfl HR9.out rfl
end
section
open Go.RowKit
/-- a byte's cell -/
def bcell (x : UInt8) : Value := .int .u8 (x.toNat : Int)
/-- bytes, as cells -/
def bcells (l : List UInt8) : Array Value := (l.map bcell).toArray
theorem bcells_size (l : List UInt8) : (bcells l).size = l.length := by simp [bcells]
theorem bcells_get? (l : List UInt8) (t : Nat) : (bcells l)[t]? = (l[t]?).map bcell := by simp [bcells]
theorem bcells_get (l : List UInt8) (t : Nat) (h : t < l.length) : (bcells l)[t]? = some (.int .u8 ((l.getD t 0).toNat : Int)) := by
  simp [bcells, h, bcell]
theorem bcells_one (l : List UInt8) : (bcells l).all (·.oneCell') = true := by
  unfold bcells
  exact all_oneCell_toArray fun v hv => by
    obtain ⟨x, _, rfl⟩ := List.mem_map.1 hv
    rfl
/-- the cells with bytes laid over them from off on -/
def spl (cur : Array Value) (off : Nat) (l : List UInt8) : Array Value := (splice cur.toList off (l.map bcell)).toArray
theorem spl_size (cur : Array Value) (off : Nat) (l : List UInt8) (h : off + l.length ≤ cur.size) : (spl cur off l).size = cur.size := by
  have := length_splice cur.toList off (l.map bcell) (by simpa using h)
  simpa [spl] using this
theorem spl_get (cur : Array Value) (off : Nat) (l : List UInt8) (h : off + l.length ≤ cur.size) (j : Nat) :
    (spl cur off l)[j]? = if off ≤ j ∧ j < off + l.length then (l[j - off]?).map bcell else cur[j]? := by
  unfold spl splice
  rw [List.getElem?_toArray]
  by_cases h1 : j < off
  · rw [if_neg (by omega), List.getElem?_append_left (by simp; omega), List.getElem?_take, if_pos h1]; simp
  · rw [List.getElem?_append_right (by simp; omega)]
    have e : (cur.toList.take off).length = off := by simp; omega
    rw [e]
    by_cases h2 : j < off + l.length
    · rw [if_pos (by omega), List.getElem?_append_left (by simp; omega), List.getElem?_map]
    · rw [if_neg (by omega), List.getElem?_append_right (by simp; omega), List.getElem?_drop]
      simp only [List.length_map]
      rw [show off + l.length + (j - off - l.length) = j by omega]; simp
section
variable {P : Program}
theorem run_copyB {t e : TypeId} (T : ByteTypes P t e) (rt : TypeId) (w : World) (g off dLen dCap : Nat) (A : Option Addr) (m c : Nat) (l : List UInt8) (ty : TypeId) (cur : Array Value)
    (hr : Row w g ty cur) (hb : Bs w A m l) (hfit : off + Nat.min m dLen ≤ cur.size) :
    ∃ w', (Builtin.copy_ #[t, t] rt #[.slice (some ⟨g, off, none⟩) dLen dCap, .slice A m c]).run P w = .ok (goInt (Nat.min m dLen : Nat)) w' ∧ Row w' g ty (spl cur off (l.take (Nat.min m dLen))) ∧ Only g w w' := by
  obtain ⟨i, hi, hz, hsize, hby⟩ := info_parts T.hi
  have hsz : (P.info? e).map (·.size) = some 1 := by rw [hi]; simp [hsize]
  by_cases h0 : Nat.min m dLen = 0
  · refine ⟨w, ?_, ?_, Only.refl _ _⟩
    · rw [run_copy_none (P := P) w t t rt e _ A dLen dCap m c T.ht hsz h0, h0]; rfl
    · rw [h0]
      have : spl cur off (l.take 0) = cur := by
        apply Array.ext_getElem?
        intro j
        rw [spl_get _ _ _ (by simp; omega), if_neg (by simp)]
      rw [this]; exact hr
  · have hmin : Nat.min m dLen ≤ m := Nat.min_le_left _ _
    obtain ⟨b, o, x, hA, hbl, _⟩ := hb.get (k := 0) (by omega)
    subst hA
    have hlen : (l.take (Nat.min m dLen)).length = Nat.min m dLen := by rw [List.length_take, hb.1]; omega
    have hrun := run_copy_row (P := P) w t t rt e g off dLen dCap ⟨b, o, none⟩ m c cur ty ((l.take (Nat.min m dLen)).map bcell) T.ht hsz hr (by rw [List.length_map, hlen])
      (fun j v hv => by
        rw [List.getElem?_map, List.getElem?_take] at hv
        split at hv
        · rename_i hj
          cases hx : l[j]? with
          | none => rw [hx] at hv; cases hv
          | some y =>
            rw [hx] at hv
            injection hv with hv
            subst hv
            obtain ⟨b', o', e1, _, hc⟩ := hb.2 j y hx
            injection e1 with e1
            injection e1 with e1 e2
            subst e1 e2
            rw [Addr.add_mid]; exact hc
        · cases hv)
      (by rw [List.length_map, hlen]; exact hfit) (fun v hv => by obtain ⟨x, _, rfl⟩ := List.mem_map.1 hv; rfl)
    refine ⟨_, by rw [hrun, List.length_map, hlen], ?_, Only.setRow g w _⟩
    have e2 : spl cur off (l.take (Nat.min m dLen)) = (cur.toList.take off ++ (l.take (Nat.min m dLen)).map bcell ++ cur.toList.drop (off + Nat.min m dLen)).toArray := by
      unfold spl splice; rw [List.length_map, hlen, List.append_assoc]
    rw [e2]; exact hr.setRow _
theorem wpList_copyB {t e : TypeId} (T : ByteTypes P t e) {ops : Array Oper} {rest : List Oper} {o : Oper} {a : Act} {w : World} {Q : Exit → Act → World → Prop} (hgd : o.guard = none) (d s : Operand)
    (ho : o.op = .call { callee := .builtin .copy, args := #[d, s], argTypes := #[t, t] }) (g off dLen dCap : Nat) (A : Option Addr) (m c : Nat)
    (hd : a.eval d = .slice (some ⟨g, off, none⟩) dLen dCap) (hs : a.eval s = .slice A m c) (l : List UInt8) (ty : TypeId) (cur : Array Value) (hr : Row w g ty cur) (hb : Bs w A m l) (hfit : off + Nat.min m dLen ≤ cur.size)
    (h : ∀ w', Row w' g ty (spl cur off (l.take (Nat.min m dLen))) → Only g w w' → wpList P ops Q rest (a.put o.dst (goInt (Nat.min m dLen : Nat))) w') :
    wpList P ops Q (o :: rest) a w := by
  refine wpList_plain hgd fun K hK => ?_
  obtain ⟨w', hrun, h1, h2⟩ := run_copyB T o.type w g off dLen dCap A m c l ty cur hr hb hfit
  unfold Oper.wp
  simp [execOp, ho, resolve, invoke, builtin, hd, hs, hrun, Result.andThen]
  exact hK _ _ (h w' h1 h2)
/-- the same as one step of a region that draws its order -/
theorem step_copyB {t e : TypeId} (T : ByteTypes P t e) {ops : Array Oper} {o : Oper} {a : Act} {w : World} {K : Act → World → Prop} {Q : Exit → Act → World → Prop} {E : Prop} (hgd : o.guard = none) (d s : Operand)
    (ho : o.op = .call { callee := .builtin .copy, args := #[d, s], argTypes := #[t, t] }) (g off dLen dCap : Nat) (A : Option Addr) (m c : Nat)
    (hd : a.eval d = .slice (some ⟨g, off, none⟩) dLen dCap) (hs : a.eval s = .slice A m c) (l : List UInt8) (ty : TypeId) (cur : Array Value) (hr : Row w g ty cur) (hb : Bs w A m l) (hfit : off + Nat.min m dLen ≤ cur.size)
    (h : ∀ w', Row w' g ty (spl cur off (l.take (Nat.min m dLen))) → Only g w w' → K (a.put o.dst (goInt (Nat.min m dLen : Nat))) w') :
    if Region.wanted o (yielded ops a.tmps) = true then Oper.wp P o a w K Q else E := by
  have hw : Region.wanted o (yielded ops a.tmps) = true := by simp [Region.wanted, hgd]
  rw [if_pos hw]
  obtain ⟨w', hrun, h1, h2⟩ := run_copyB T o.type w g off dLen dCap A m c l ty cur hr hb hfit
  unfold Oper.wp
  simp [execOp, ho, resolve, invoke, builtin, hd, hs, hrun, Result.andThen]
  exact h w' h1 h2
theorem step_copyK {t e : TypeId} (T : ByteTypes P t e) {ops : Array Oper} {o : Oper} {a : Act} {w : World} {K : Act → World → Prop} {Q : Exit → Act → World → Prop} {E : Prop} (hgd : o.guard = none) (d s : Operand)
    (ho : o.op = .call { callee := .builtin .copy, args := #[d, s], argTypes := #[t, t] }) (g off dLen dCap : Nat) (A : Option Addr) (m c : Nat)
    (hd : a.eval d = .slice (some ⟨g, off, none⟩) dLen dCap) (hs : a.eval s = .slice A m c) (l : List UInt8) (ty : TypeId) (cur : Array Value) (hr : Row w g ty cur) (hb : Bs w A m l) (k : Nat) (hk : Nat.min m dLen = k) (hfit : off + k ≤ cur.size)
    (h : ∀ w', Row w' g ty (spl cur off (l.take k)) → Only g w w' → K (a.put o.dst (.int .i64 (k : Int))) w') :
    if Region.wanted o (yielded ops a.tmps) = true then Oper.wp P o a w K Q else E := by
  subst hk
  exact step_copyB T hgd d s ho g off dLen dCap A m c hd hs l ty cur hr hb hfit h
/-- 'x[k:]' of a slice of bytes, whatever its capacity -/
theorem cut_tail {t e : TypeId} (T : ByteTypes P t e) (A : Option Addr) (n c k : Nat) (hk : k ≤ n) (hnc : n ≤ c) :
    ∃ A', (∀ w, (Instr.sliceAt t (.slice A n c) (some (.int .i64 (k : Int))) none none).run P w = .ok (.slice A' (n - k) (c - k)) w) ∧ (∀ w l, Bs w A n l → Bs w A' (n - k) (l.drop k)) ∧ (∀ g, Apart A n g → Apart A' (n - k) g) := by
  obtain ⟨i, hi, hz, hsize, hby⟩ := info_parts T.hi
  refine ⟨if c = k then A else A.map (·.add (k * 1)), fun w => ?_, fun w l hb => ?_, fun g ha => ?_⟩
  · have hs : (sizeOf e).run P w = .ok 1 w := by simp [sizeOf, typeInfo, hi, hsize]
    have h1 : (k : Int) ≤ n := by omega
    simp [Instr.sliceAt, Instr.slice, run_underlying T.ht, Instr.sliceBounds, run_sliceBound, hs, h1]
  · by_cases hck : c = k
    · obtain rfl : n = k := by omega
      rw [List.drop_eq_nil_of_le (by rw [hb.1]; exact Nat.le_refl _), Nat.sub_self]
      exact Bs.nil _ _
    · rw [if_neg hck]
      by_cases hn : n = 0
      · subst hn
        obtain rfl : k = 0 := by omega
        rw [hb.empty rfl]; exact Bs.nil _ _
      · obtain ⟨b, off, x, hA, _⟩ := hb.get (k := 0) (by omega)
        subst hA
        rw [Nat.mul_one, Option.map_some, Addr.add_mid]
        exact hb.drop
  · rcases ha with h0 | ⟨b, off, rfl, hne⟩
    · exact .inl (by omega)
    · by_cases hck : c = k
      · exact .inl (by omega)
      · rw [if_neg hck, Option.map_some, Addr.add_mid]
        exact .inr ⟨b, _, rfl, hne⟩
theorem wpList_tail {t e : TypeId} (T : ByteTypes P t e) {ops : Array Oper} {rest : List Oper} {o : Oper} {a : Act} {w : World} {Q : Exit → Act → World → Prop} (hgd : o.guard = none) (x y : Operand)
    (ho : o.op = .slice t x (some y) none none) (A : Option Addr) (n c k : Nat) (hx : a.eval x = .slice A n c) (hy : a.eval y = .int .i64 (k : Int)) (hk : k ≤ n) (hnc : n ≤ c)
    (h : ∀ A', (∀ w l, Bs w A n l → Bs w A' (n - k) (l.drop k)) → (∀ g, Apart A n g → Apart A' (n - k) g) → wpList P ops Q rest (a.put o.dst (.slice A' (n - k) (c - k))) w) : wpList P ops Q (o :: rest) a w := by
  obtain ⟨A', hrun, h1, h2⟩ := cut_tail T A n c k hk hnc
  refine wpList_plain hgd fun K hK => ?_
  unfold Oper.wp execOp
  simp [ho, hx, hy, hrun, Result.andThen]
  exact hK _ _ (h A' h1 h2)
/-- 'arr[l:]' of an array of bytes that lies at ⟨G, o⟩ -/
theorem run_cut {t e : TypeId} {n : Nat} (ht : P.underlying t = some (.array n e)) (he : (P.info? e).map (·.size) = some 1) (G o l : Nat) (z : Int) (hz : z = l) (hl : l < n) (w : World) :
    (Instr.sliceAt t (.pointer (some ⟨G, o, none⟩)) (some (.int .i64 z)) none none).run P w = .ok (.slice (some ⟨G, o + l, none⟩) (n - l) (n - l)) w := by
  subst hz
  have hs : (sizeOf e).run P w = .ok 1 w := by
    cases hq : P.info? e with
    | none => simp [hq] at he
    | some i => simp [hq] at he; simp [sizeOf, typeInfo, hq, he]
  have h1 : (l : Int) ≤ n := by omega
  have hne : ¬ n = l := by omega
  simp [Instr.sliceAt, Instr.sureAddr, run_underlying ht, Instr.sliceBounds, run_sliceBound, hs, h1, hne, Addr.add_mid]
/-- 'arr[:]' -/
theorem run_cut_all {t e : TypeId} {n : Nat} (ht : P.underlying t = some (.array n e)) (he : (P.info? e).map (·.size) = some 1) (G o : Nat) (w : World) :
    (Instr.sliceAt t (.pointer (some ⟨G, o, none⟩)) none none none).run P w = .ok (.slice (some ⟨G, o, none⟩) n n) w := by
  have hs : (sizeOf e).run P w = .ok 1 w := by
    cases hq : P.info? e with
    | none => simp [hq] at he
    | some i => simp [hq] at he; simp [sizeOf, typeInfo, hq, he]
  simp [Instr.sliceAt, Instr.sureAddr, run_underlying ht, Instr.sliceBounds, hs, Addr.add_mid]
end
end
section
open Go.RowKit
theorem Tryd.agg25 : AggType Tryd.prog 104 32 := ⟨_, Tryd.underlying104, rfl, by kernel_rfl⟩
theorem Tryd.underlying24' : Tryd.prog.underlying 104 = some (.array 32 5) := by kernel_rfl
theorem Tryd.size5 : (Tryd.prog.info? 5).map (·.size) = some 1 := by kernel_rfl
theorem S8.at_W32 (s : S8) (h : s.ok) (k : Nat) : W32 (s.at k) := by
  obtain ⟨h1, h2, h3, h4, h5, h6, h7, h8⟩ := h
  unfold S8.at; split <;> first | assumption | exact ⟨by decide, by decide⟩
theorem bytesOf4_get (N j : Nat) (h : j < 4) : (bytesOf N 4).getD j 0 = UInt8.ofNat (N / 256 ^ (3 - j)) := by
  rw [List.getD_eq_getElem?_getD, bytesOf_get N 4 j h]; rfl
theorem digestS_get (s : S8) (j : Nat) (h : j < 32) : (digestS s).getD j 0 = (bytesOf (s.at (j / 4)).toNat 4).getD (j % 4) 0 := by
  match j, h with
  | 0, _ | 1, _ | 2, _ | 3, _ | 4, _ | 5, _ | 6, _ | 7, _ | 8, _ | 9, _ | 10, _ | 11, _ | 12, _ | 13, _ | 14, _ | 15, _ | 16, _ | 17, _ | 18, _ | 19, _ | 20, _ | 21, _ | 22, _ | 23, _ | 24, _ | 25, _ | 26, _ | 27, _ | 28, _ | 29, _ | 30, _ | 31, _ => rfl
  | n + 32, h => exact absurd h (by omega)
/-- the bytes of the first k words stand -/
def Dig (s : S8) (k : Nat) (cs : Array Value) : Prop := cs.size = 32 ∧ ∀ j, j < 4 * k → cs[j]? = some (bcell ((digestS s).getD j 0))
theorem Dig.step {s : S8} {k : Nat} {cs : Array Value} (h : Dig s k cs) (hk : k < 8) : Dig s (k + 1) (spl cs (4 * k) (bytesOf (s.at k).toNat 4)) := by
  have hl := bytesOf_length (s.at k).toNat 4
  refine ⟨by rw [spl_size _ _ _ (by rw [hl, h.1]; omega)]; exact h.1, fun j hj => ?_⟩
  rw [spl_get _ _ _ (by rw [hl, h.1]; omega), hl]
  by_cases h1 : 4 * k ≤ j
  · rw [if_pos (by omega), digestS_get s j (by omega), show j / 4 = k by omega, show j - 4 * k = j % 4 by omega, bytesOf4_get _ _ (by omega), bytesOf_get _ _ _ (by omega)]; rfl
  · rw [if_neg (by omega), h.2 j (by omega)]
theorem Dig.all {s : S8} {cs : Array Value} (h : Dig s 8 cs) : cs = bcells (digestS s) := by
  apply Array.ext_getElem?
  intro j
  by_cases hj : j < 32
  · rw [h.2 j (by omega), bcells_get _ _ (by rw [digestS_length]; exact hj)]; rfl
  · rw [Array.getElem?_eq_none (by rw [h.1]; omega), Array.getElem?_eq_none (by rw [bcells_size, digestS_length]; omega)]
set_option maxRecDepth 100000 in
set_option maxHeartbeats 1000000 in
theorem join8_any (s : S8) (w : World) (hok : s.ok) :
    Calls Tryd.prog 100 #[v8 s] w fun en w' => en = .returned (.agg (bcells (digestS s))) ∧ Below w.heap.size w w' := by
  obtain ⟨a, b, c, d, e, f, g, h⟩ := s
  have HO := Lib.hid hok
  clear hok
  unfold v8
  simp only
  go_enter Tryd.func100, Tryd.ntmps100
  go_wp2_with fail
  go_loopw [7] (fun i wr => ∃ (k : Nat) (cs zs : Array Value), k ≤ 8 ∧ i = .int .i64 (k : Int) ∧ Below w.heap.size w wr ∧ Row wr w.heap.size 115 #[.int .u32 a, .int .u32 b, .int .u32 c, .int .u32 d, .int .u32 e, .int .u32 f, .int .u32 g, .int .u32 h] ∧ Row wr (w.heap.size + 1) 104 zs ∧ Hid (zs.size = 32) ∧ Row wr (w.heap.size + 1 + 1) 104 cs ∧ Dig ⟨a, b, c, d, e, f, g, h⟩ k cs) (fun i _ => 8 - (intOf i).toNat)
  case atStart =>
    exact ⟨0, _, _, Nat.zero_le _, rfl, (((Below.refl _ _).alloc (Nat.le_refl _) _).alloc (by simp) _).alloc (by simp; omega) _, ((Row.new _ _ _).alloc _).alloc _, (Row.new1 _ _ _ _).alloc _, Lib.hid rfl, Row.new2 _ _ _ _ _, rfl, fun j hj => by omega⟩
  case round =>
    obtain ⟨k, cs, zs, hk, rfl, hbel, hr0, hz, HZ, hr, hd⟩ := hrel
    have HR0 := Lib.hid hr0
    have HZR := Lib.hid hz
    have HR := Lib.hid hr
    have HD := Lib.hid hd
    have hbs := hbel.size
    by_cases hlt : k < 8
    · have x1 := (hr0.cell k).trans (v8_get ⟨a, b, c, d, e, f, g, h⟩ k hlt)
      have hX := S8.at_W32 _ HO.out k
      have i0 : (0 : Int) ≤ (k : Int) := by omega
      have i8 : (k : Int) < 8 := by omega
      have HX := Lib.hid (S8.at_W32 _ HO.out k)
      generalize hxe : S8.at ⟨a, b, c, d, e, f, g, h⟩ k = X at *
      have HXe := Lib.hid hxe
      obtain ⟨g1, g2⟩ := hX
      have hsz : cs.size = 32 := hd.1
      have HSZ := Lib.hid hsz
      have hne : ¬ 32 = k * 4 := by omega
      have hcut := run_cut (P := Tryd.prog) Tryd.underlying24' Tryd.size5 (w.heap.size + 1 + 1) 0 (k * 4) ((k : Int) * 4) (by omega) (by omega)
      rw [Nat.zero_add] at hcut
      clear hr0 hz hr hd hxe hsz
      go_wp2_with (first
        | (go_at_call 84; refine (Bytes_any _ _ _ (by omega) (by omega)).mono ?_; rintro e2 w2 ⟨A2, k2, c2, rfl, hB2, hc2, hb2, ho2⟩; have HB2 := Lib.hid hB2; have hb2' := hbel.trans (hb2.mono hbs); have HR2 := Lib.hid (HR.out.below hb2 HR.out.lt); clear hB2 ho2)
        | (refine wpList_copyB Tryd.byteTypes rfl (.tmp 20) (.tmp 21) rfl _ _ _ _ _ _ _ rfl rfl (bytesL X 4) 104 cs HR2.out HB2.out ?hfit ?_; rotate_left; intro w3 hr3 ho3; have HR3 := Lib.hid hr3; clear hr3))
      · have hk2 : k2 = 4 := by rw [← HB2.out.1]; exact bytesOf_length _ _
        have hm : Nat.min k2 (32 - k * 4) = 4 := by rw [hk2]; exact Nat.min_eq_left (by omega)
        refine ⟨⟨k + 1, _, zs, by omega, by go_num, hb2'.trans (ho3.below (by omega) hb2'.size), (HR0.out.below hb2 HR0.out.lt).only ho3 (by omega), (HZR.out.below hb2 HZR.out.lt).only ho3 (by omega), HZ, HR3.out, ?_⟩, by simp [intOf]; omega⟩
        rw [hm, List.take_of_length_le (by rw [HB2.out.1, hk2]; exact Nat.le_refl _), Nat.mul_comm]
        have hst := HD.out.step hlt
        rw [HXe.out] at hst
        exact hst
      case hfit => rw [HSZ.out]; have hle : Nat.min k2 (32 - k * 4) ≤ 32 - k * 4 := Nat.min_le_right _ _; omega
    · obtain rfl : k = 8 := by omega
      have hcs := hd.all
      have h32 := hd.1
      subst hcs
      have H32 := Lib.hid h32
      clear hr0 hz hr hd h32
      go_wp2_with (first | (with_reducible refine wpList_load_row Tryd.agg25 rfl (.tmp 3) rfl _ rfl 104 _ HR.out H32.out ?_) | (with_reducible refine wpList_store_row Tryd.agg25 rfl (.tmp 2) (.tmp 24) rfl _ _ rfl rfl 104 zs HZR.out H32.out HZ.out (bcells_one _) ?_; intro w9 hr9 ho9; have HR9 := Lib.hid hr9; clear hr9))
      exact bodyPost_ret (results_row1 Tryd.agg25 Tryd.results100 rfl HR9.out H32.out) rfl ⟨rfl, hbel.trans (ho9.below (by omega) hbs)⟩
end
section
open Go.RowKit
set_option maxHeartbeats 400000 in
theorem Pad_no (n : Int) (w : World) (h : n < 0 ∨ 1152921504606846976 < n) :
    Calls Tryd.prog 99 #[.int .i64 n] w fun e w' => e = .returned (.tuple #[.slice none 0 0, .int .i64 1]) ∧ w = w' := by
  by_cases h1 : n < 0
  · have hd : decide (n < 0) = true := by simpa using h1
    clear h
    go_enter Tryd.func99, Tryd.ntmps99
    go_wp2
    go_ret2
    exact ⟨rfl, rfl⟩
  · have hd : decide (n < 0) = false := by simpa using h1
    have h2 : 1152921504606846976 < n := by omega
    clear h
    go_enter Tryd.func99, Tryd.ntmps99
    go_wp2
    go_ret2
    exact ⟨rfl, rfl⟩
/-- a row that holds bytes, with room behind them -/
theorem Row.ownCap {w : World} {base g n cap : Nat} {t : TypeId} {cs : Array Value} {l : List UInt8} (h : Row w g t cs) (hb : base ≤ g) (hl : l.length = n) (hs : cs.size = cap) (hnc : n ≤ cap) (hn : cap ≤ 9223372036854775807)
    (hc : ∀ (j : Nat) (x : UInt8), l[j]? = some x → cs[j]? = some (.int .u8 (x.toNat : Int))) : Own w base t (.slice (some ⟨g, 0, none⟩) n cap) n l := by
  refine ⟨by simp [hl], .inr ⟨g, cap, cs, rfl, hb, h, hnc, by simp only [maxLen]; omega, by omega, ?_⟩⟩
  apply List.ext_getElem?
  intro j
  rw [Nat.mul_one, List.getElem?_take, List.getElem?_map]
  rcases hj : l[j]? with _ | x
  · have hge : l.length ≤ j := List.getElem?_eq_none_iff.1 hj
    rw [if_neg (by omega)]; rfl
  · have hlt : j < l.length := (List.getElem?_eq_some_iff.1 hj).1
    rw [if_pos (by omega), Array.getElem?_toList, hc j x hj]; rfl
theorem made_bytes2 (P : Program) {t e : TypeId} (T : ByteTypes P t e) (n c : Nat) (L C : Int) (hL : L = n) (hC : C = c) (hnc : n ≤ c) (hc : c ≤ 140737488355328) (w : World) :
    (Instr.makeSlice t (.int .i64 L) (.int .i64 C)).run P w = .ok (.slice (some ⟨w.heap.size, 0, none⟩) n c) (w.alloc (.cells (madeCells #[.int .u8 0] c) e)) := by
  obtain ⟨i, hi, hz, hsize, hby⟩ := info_parts T.hi
  have hr := run_make (P := P) w t e i (.int .u8 0) T.ht hi hz .i64 .i64 L C (by omega) (by omega) (by rw [hby]; omega) (by omega)
  rw [hr, hsize, hL, hC]
  simp only [Int.toNat_natCast, Nat.mul_one]
  rfl
theorem made_get (c j : Nat) (h : j < c) : (madeCells #[.int .u8 0] c)[j]? = some (.int .u8 0) := by
  rw [← Array.getElem?_toList, toList_madeCells_one, List.getElem?_replicate, if_pos h]
theorem pad_own (w : World) (z : Nat) (w2 : World) (hb : Below (w.alloc (.cells ((madeCells #[.int .u8 0] (1 + z + 8)).setIfInBounds 0 (.int .u8 128)) 5)).heap.size (w.alloc (.cells ((madeCells #[.int .u8 0] (1 + z + 8)).setIfInBounds 0 (.int .u8 128)) 5)) w2) (hz : z ≤ 63) :
    Own w2 w.heap.size 5 (.slice (some ⟨w.heap.size, 0, none⟩) (1 + z) (1 + z + 8)) (1 + z) (128 :: List.replicate z 0) := by
  have hr := (Row.new w 5 ((madeCells #[.int .u8 0] (1 + z + 8)).setIfInBounds 0 (.int .u8 128))).below hb (by simp)
  refine hr.ownCap (Nat.le_refl _) (by simp; omega) (by simp [size_madeCells]) (by omega) (by omega) ?_
  intro j x hx
  rw [Array.getElem?_setIfInBounds]
  rcases j with _ | j
  · simp at hx
    subst hx
    rw [if_pos rfl, if_pos (by rw [size_madeCells]; omega)]; rfl
  · rw [List.getElem?_cons_succ, List.getElem?_replicate] at hx
    split at hx
    · injection hx with hx
      subst hx
      rw [if_neg (by omega), made_get _ _ (by omega)]; rfl
    · cases hx
theorem pad_size {w w2 : World} {o : Obj} (hb : Below (w.alloc o).heap.size (w.alloc o) w2) : w.heap.size ≤ w2.heap.size := by
  have := hb.size
  simp at this
  omega
theorem pad_split (n : Nat) : padL n = (128 :: List.replicate (padZ n) 0) ++ bytesOf (8 * n) 8 := rfl
set_option maxHeartbeats 1000000 in
theorem Pad_ok (n : Nat) (w : World) (h : n ≤ 1152921504606846976) :
    Calls Tryd.prog 99 #[.int .i64 (n : Int)] w (NewBytesE w 5 (padL n) 0) := by
  have hd : decide ((n : Int) < 0) = false := by simp
  have hz : padZ n ≤ 63 := by unfold padZ; omega
  obtain ⟨z, hzz⟩ : ∃ z, padZ n = z := ⟨_, rfl⟩
  have hzi : 63 - ((n : Int) + 8) % 64 = (z : Int) := by rw [← hzz]; unfold padZ; omega
  rw [hzz] at hz
  have HZ := Lib.hid hzz
  have HZI := Lib.hid hzi
  clear hzz hzi
  have hmk := made_bytes2 Tryd.prog Tryd.byteTypes (1 + z) (1 + z + 8) (1 + (63 - ((n : Int) + 8) % 64)) (1 + (63 - ((n : Int) + 8) % 64) + 8) (by have := HZI.out; omega) (by have := HZI.out; omega) (by omega) (by omega)
  have hm0 := made_get (1 + z + 8) 0 (by omega)
  go_enter Tryd.func99, Tryd.ntmps99
  go_wp2_with (first
    | (go_at_call 84; (refine (Bytes_any _ _ _ (by omega) (by omega)).mono ?_; rintro e2 w2 ⟨A2, k2, c2, rfl, hB2, hc2, hb2, ho2⟩; have HB2 := Lib.hid hB2; have HO := Lib.hid (pad_own w z w2 hb2 hz); have hk2 : k2 ≤ 8 := Nat.le_trans (Nat.le_of_eq hB2.1.symm) (bytesL_length _ _); clear hB2 ho2))
    | (at_builtin; refine wpList_app Tryd.byteTypes rfl (.tmp 33) (.tmp 34) rfl w.heap.size _ (1 + z) (128 :: List.replicate z 0) rfl HO.out A2 k2 c2 _ rfl HB2.out (by omega) (pad_size hb2) ?_; intro A3 c3 w3 ho3 hb3 hg3; have HO3 := Lib.hid ho3; clear ho3 hg3))
  go_ret2
  have hz0 : bytesE 8 = 0 := rfl
  have hk8 : k2 = 8 := by rw [← HB2.out.1]; exact bytesOf_length _ _
  have hL : 128 :: List.replicate z 0 ++ bytesL (8 * (n : Int)) 8 = padL n := by
    rw [pad_split, HZ.out]; unfold bytesL; rw [if_pos (by omega)]
    congr 2
  obtain ⟨A4, c4, e4, hc4⟩ := HO3.out.form
  injection e4 with e5 e6 e7
  subst e5 e7
  rw [hL] at HO3
  exact ⟨_, _, _, rfl, HO3.out.bs, hc4, ((Below.refl _ _).alloc (Nat.le_refl _) _).trans ((hb2.mono (by simp)).trans hb3), HO3.out⟩
def lenOf : Value → Nat | .slice _ n _ => n | _ => 0
theorem own_alloc {w : World} {base : Nat} {e : TypeId} {v : Value} {n : Nat} {l : List UInt8} (h : Own w base e v n l) (o : Obj) : Own (w.alloc o) base e v n l := by
  refine ⟨h.1, ?_⟩
  rcases h.2 with h0 | ⟨g, cap, cur, hv, hge, hg, hr⟩
  · exact .inl h0
  · exact .inr ⟨g, cap, cur, hv, hge, (Below.heap_alloc w o g ((Array.getElem?_eq_some_iff.1 hg).1)).trans hg, hr⟩
theorem own_below {w w' : World} {base : Nat} {e : TypeId} {v : Value} {n : Nat} {l : List UInt8} (h : Own w base e v n l) (hb : Below w.heap.size w w') : Own w' base e v n l := by
  refine ⟨h.1, ?_⟩
  rcases h.2 with h0 | ⟨g, cap, cur, hv, hge, hg, hr⟩
  · exact .inl h0
  · exact .inr ⟨g, cap, cur, hv, hge, (hb.block g ((Array.getElem?_eq_some_iff.1 hg).1)).trans hg, hr⟩
/-- a slice of bytes in new memory -/
def NewSlice (w : World) (t : TypeId) (l : List UInt8) (e : Ending) (w' : World) : Prop :=
  ∃ A n c, e = .returned (.slice A n c) ∧ Bs w' A n l ∧ n ≤ c ∧ Below w.heap.size w w' ∧ Own w' w.heap.size t (.slice A n c) n l
theorem one_of (w : World) (x : UInt8) (t : TypeId) : Own (w.alloc (.cells #[.int .u8 (x.toNat : Int)] t)) w.heap.size t (.slice (some ⟨w.heap.size, 0, none⟩) 1 1) 1 [x] := by
  refine (Row.new w t _).own (Nat.le_refl _) rfl rfl (by omega) ?_
  intro j y hy
  rcases j with _ | j
  · simp at hy
    subst hy
    rfl
  · simp at hy
set_option maxHeartbeats 1000000 in
theorem RefPad_ok (n : Nat) (w : World) (h : n ≤ 1152921504606846976) :
    Calls Tryd.prog 73 #[.int .i64 (n : Int)] w (NewSlice w 5 (padL n)) := by
  have hz : padZ n ≤ 63 := by unfold padZ; omega
  obtain ⟨z, hzz⟩ : ∃ z, padZ n = z := ⟨_, rfl⟩
  have hzi : 63 - (n + 8) % 64 = z := hzz
  rw [hzz] at hz
  have HZ := Lib.hid hzz
  have HZI := Lib.hid hzi
  clear hzz hzi
  go_enter Tryd.func73, Tryd.ntmps73
  go_wp2_with fail
  go_loopw [3] (fun o wr => ∃ (k : Nat) (A : Option Addr) (c : Nat), k ≤ z ∧ o = .slice A (1 + k) c ∧ Below w.heap.size w wr ∧ Own wr w.heap.size 5 (.slice A (1 + k) c) (1 + k) (128 :: List.replicate k 0)) (fun o _ => 64 - lenOf o)
  case atStart => exact ⟨0, _, _, Nat.zero_le _, rfl, (Below.refl _ _).alloc (Nat.le_refl _) _, one_of w 128 5⟩
  case round =>
    obtain ⟨k, A, c, hk, rfl, hbel, hown⟩ := hrel
    have HO := Lib.hid hown
    have hbs := hbel.size
    clear hown
    by_cases hlt : k < z
    · have hne : ¬ ((n : Int) + (1 + (k : Int))) % 64 = 56 := by have := HZI.out; omega
      go_wp2_with (at_builtin; refine wpList_app Tryd.byteTypes rfl (.tmp 13) (.tmp 14) rfl w.heap.size _ (1 + k) _ rfl (own_alloc HO.out _) _ 1 1 [0] rfl (one_of wr 0 5).bs (by omega) (by simp; omega) ?_; intro A3 c3 w3 ho3 hb3 hg3; have HO3 := Lib.hid ho3; clear ho3 hg3)
      go_roundw
      case rel =>
        refine ⟨k + 1, A3, c3, by omega, by rw [Nat.add_assoc], (hbel.alloc hbs _).trans hb3, ?_⟩
        have e : (128 :: List.replicate (k + 1) 0 : List UInt8) = 128 :: List.replicate k 0 ++ [0] := by
          rw [List.replicate_succ']; rfl
        rw [e, ← Nat.add_assoc]
        exact HO3.out
      case measure => simp [lenOf]; omega
    · obtain rfl : k = z := by omega
      have heq : ((n : Int) + (1 + (k : Int))) % 64 = 56 := by have := HZI.out; omega
      go_wp2_with (first
        | (go_at_call 85; (refine (RefBytes_any _ _ _ (by omega) (by omega)).mono ?_; rintro e2 w2 ⟨A2, k2, c2, rfl, hB2, hc2, hb2, ho2⟩; have HB2 := Lib.hid hB2; have HO2 := Lib.hid (own_below HO.out hb2); have hk2 : k2 ≤ 8 := Nat.le_trans (Nat.le_of_eq hB2.1.symm) (bytesL_length _ _); have hb2s := hb2.size; clear hB2 ho2))
        | (at_builtin; refine wpList_app Tryd.byteTypes rfl (.tmp 23) (.tmp 24) rfl w.heap.size _ (1 + k) _ rfl HO2.out A2 k2 c2 _ rfl HB2.out (by omega) (by omega) ?_; intro A3 c3 w3 ho3 hb3 hg3; have HO3 := Lib.hid ho3; clear ho3 hg3))
      go_ret
      have hL : 128 :: List.replicate k 0 ++ bytesL ((n : Int) * 8) 8 = padL n := by
        rw [pad_split, HZ.out]; unfold bytesL; rw [if_pos (by omega)]
        congr 2
        omega
      obtain ⟨A4, c4, e4, hc4⟩ := HO3.out.form
      injection e4 with e5 e6 e7
      subst e5 e7
      rw [hL] at HO3
      exact ⟨_, _, _, rfl, HO3.out.bs, hc4, (hbel.trans (hb2.mono hbs)).trans hb3, HO3.out⟩
end
section
open Go.ChangeShapes Go.WideShapes Go.ChangeAt Go.RowKit
theorem g0 : Tryd.prog.globalNamed "jurat/juratref02.first" = some 0 := by kernel_rfl
theorem g1 : Tryd.prog.globalNamed "jurat/juratref02.constants" = some 1 := by kernel_rfl
theorem g2 : Tryd.prog.globalNamed "jurat/sha.constants" = some 2 := by kernel_rfl
theorem t0 : (Tryd.prog.globals[0]?).map (·.type) = some 115 := by kernel_rfl
theorem t1 : (Tryd.prog.globals[1]?).map (·.type) = some 131 := by kernel_rfl
theorem t2 : (Tryd.prog.globals[2]?).map (·.type) = some 131 := by kernel_rfl
theorem c28 : Tryd.prog.cellsOf 114 = 1 := by kernel_rfl
theorem c29 : Tryd.prog.cellsOf 115 = 8 := by kernel_rfl
theorem c50 : Tryd.prog.cellsOf 131 = 64 := by kernel_rfl
def firstL : List Int := [1779033703, 3144134277, 1013904242, 2773480762, 1359893119, 2600822924, 528734635, 1541459225]
theorem first_at (j : Nat) (h : j < 8) : firstL.getD j 0 = firstS.at j := by
  match j, h with
  | 0, _ | 1, _ | 2, _ | 3, _ | 4, _ | 5, _ | 6, _ | 7, _ => rfl
/-- the first words stand in block 0 -/
def First (w : World) : Prop := 0 < w.heap.size ∧ ∀ t, t < 8 → w.cell? ⟨0, t, none⟩ = some (.int .u32 (firstS.at t))
theorem First.below {w w' : World} (h : First w) (hb : Below w.heap.size w w') : First w' :=
  ⟨Nat.lt_of_lt_of_le h.1 hb.size, fun t ht => (hb.cell (p := ⟨0, t, none⟩) h.1).trans (h.2 t ht)⟩
theorem tab_of {W : World} {name : String} {g : Nat} (hg : Tryd.prog.globalNamed name = some g) (h : Lib.TabIs Tryd.prog W name .u32 kList) : Tab g W := by
  have hc := fun t ht => h.cell hg t (show t < kList.length from ht)
  exact ⟨World.block_lt_of_cell? W _ (hc 0 (by decide)), fun t ht => hc t ht⟩
theorem laidK {W : World} {rest : List (String × DataW Unit)} {name : String} {g : Nat} (hg : Tryd.prog.globalNamed name = some g) (ht : (Tryd.prog.globals[g]?).map (·.type) = some 131)
    (h : laidMet Tryd.prog ((name, Lib.tabData .u32 kList) :: rest) W) : Tab g W :=
  tab_of hg (Lib.tabIs_of_head hg ht Tryd.underlying131 Tryd.underlying114 c28 c50 h)
theorem laidF {W : World} {rest : List (String × DataW Unit)} (h : laidMet Tryd.prog (("jurat/juratref02.first", Lib.tabData .u32 firstL) :: rest) W) : First W := by
  have hT := Lib.tabIs_of_head g0 t0 Tryd.underlying115 Tryd.underlying114 c28 c29 h
  have hc := fun t ht => hT.cell g0 t (show t < firstL.length from ht)
  refine ⟨World.block_lt_of_cell? W _ (hc 0 (by decide)), fun t ht => ?_⟩
  rw [← first_at t ht]; exact hc t ht
theorem laid_tail {P : Program} {W : World} {x : String × DataW Unit} {rest : List (String × DataW Unit)} (h : laidMet P (x :: rest) W) : laidMet P rest W := by
  obtain ⟨ps, ⟨g', t', cs, fuel, p, q, hg', ht', hvar, hd, hq, rfl⟩, hn, hx⟩ := h
  exact ⟨q, hq, (List.nodup_append.1 hn).2.1, fun b off hm => hx b off (List.mem_append_right _ hm)⟩
abbrev lay1 : List (String × DataW Unit) := [("jurat/sha.constants", Rows.laid_jurat_sha_constants)]
abbrev lay2 : List (String × DataW Unit) := [("jurat/juratref02.constants", Rows.laid_jurat_juratref02_constants), ("jurat/sha.constants", Rows.laid_jurat_sha_constants)]
abbrev lay3 : List (String × DataW Unit) := [("jurat/juratref02.first", Rows.laid_jurat_juratref02_first), ("jurat/juratref02.constants", Rows.laid_jurat_juratref02_constants), ("jurat/sha.constants", Rows.laid_jurat_sha_constants)]
theorem of_lay1 {W : World} (h : laidMetH Tryd.prog lay1 W) : Tab 2 W := by
  rw [MakeChecks.laidMetH_plain _ _ _ (by kernel_rfl)] at h
  exact laidK g2 t2 h
theorem of_lay2 {W : World} (h : laidMetH Tryd.prog lay2 W) : Tab 1 W ∧ Tab 2 W := by
  rw [MakeChecks.laidMetH_plain _ _ _ (by kernel_rfl)] at h
  exact ⟨laidK g1 t1 h, laidK g2 t2 (laid_tail h)⟩
theorem of_lay3 {W : World} (h : laidMetH Tryd.prog lay3 W) : First W ∧ Tab 1 W ∧ Tab 2 W := by
  rw [MakeChecks.laidMetH_plain _ _ _ (by kernel_rfl)] at h
  exact ⟨laidF h, laidK g1 t1 (laid_tail h), laidK g2 t2 (laid_tail (laid_tail h))⟩
theorem met1 (os : Os) (args : Array Value) : laidMetH Tryd.prog lay1 ((World.laidAll Tryd.prog os lay1).forCall (fun _ _ => 0) ⟨#[], args, []⟩).memory := by
  rw [MakeChecks.laidMetH_plain _ _ _ (by kernel_rfl)]
  exact laidMet_laidAll _ (by kernel_rfl) (by kernel_rfl)
theorem met2 (os : Os) (args : Array Value) : laidMetH Tryd.prog lay2 ((World.laidAll Tryd.prog os lay2).forCall (fun _ _ => 0) ⟨#[], args, []⟩).memory := by
  rw [MakeChecks.laidMetH_plain _ _ _ (by kernel_rfl)]
  exact laidMet_laidAll _ (by kernel_rfl) (by kernel_rfl)
theorem met3 (os : Os) (args : Array Value) : laidMetH Tryd.prog lay3 ((World.laidAll Tryd.prog os lay3).forCall (fun _ _ => 0) ⟨#[], args, []⟩).memory := by
  rw [MakeChecks.laidMetH_plain _ _ _ (by kernel_rfl)]
  exact laidMet_laidAll _ (by kernel_rfl) (by kernel_rfl)
end
section
open Go.RowKit
def hcells (s : S8) (P : List UInt8) (n : Nat) : Array Value :=
  (([.int .u32 s.a, .int .u32 s.b, .int .u32 s.c, .int .u32 s.d, .int .u32 s.e, .int .u32 s.f, .int .u32 s.g, .int .u32 s.h] : List Value) ++ (P.map bcell ++ [Value.int .i64 (n : Int)])).toArray
theorem hcells_size (s : S8) (P : List UInt8) (n : Nat) : (hcells s P n).size = P.length + 9 := by simp [hcells]
theorem list8_get (s : S8) (j : Nat) (h : j < 8) : ([.int .u32 s.a, .int .u32 s.b, .int .u32 s.c, .int .u32 s.d, .int .u32 s.e, .int .u32 s.f, .int .u32 s.g, .int .u32 s.h] : List Value)[j]? = some (.int .u32 (s.at j)) := by
  have := v8_get s j h
  rwa [List.getElem?_toArray] at this
theorem hcells_word (s : S8) (P : List UInt8) (n j : Nat) (h : j < 8) : (hcells s P n)[j]? = some (.int .u32 (s.at j)) := by
  unfold hcells
  rw [List.getElem?_toArray, List.getElem?_append_left (by simp; omega)]
  exact list8_get s j h
theorem hcells_byte (s : S8) (P : List UInt8) (n j : Nat) (h : j < P.length) : (hcells s P n)[8 + j]? = (P[j]?).map bcell := by
  unfold hcells
  rw [List.getElem?_toArray, List.getElem?_append_right (by simp)]
  rw [List.getElem?_append_left (by simp; omega), List.getElem?_map]
  congr 2
  simp
theorem hcells_count (s : S8) (P : List UInt8) (n : Nat) : (hcells s P n)[8 + P.length]? = some (.int .i64 (n : Int)) := by
  unfold hcells
  rw [List.getElem?_toArray, List.getElem?_append_right (by simp)]
  rw [List.getElem?_append_right (by simp)]
  simp
theorem hcells_one (s : S8) (P : List UInt8) (n : Nat) : (hcells s P n).all (·.oneCell') = true := by
  unfold hcells
  refine all_oneCell_toArray fun v hv => ?_
  rcases List.mem_append.1 hv with h | h
  · simp at h
    rcases h with rfl | rfl | rfl | rfl | rfl | rfl | rfl | rfl <;> rfl
  · rcases List.mem_append.1 h with h | h
    · obtain ⟨x, _, rfl⟩ := List.mem_map.1 h; rfl
    · simp at h; subst h; rfl
/-- bytes laid over the part -/
theorem hcells_spl (s : S8) (P l : List UInt8) (n r : Nat) (h : r + l.length ≤ P.length) : spl (hcells s P n) (8 + r) l = hcells s (splice P r l) n := by
  unfold spl hcells splice
  simp only [List.map_append, List.map_take, List.map_drop, List.length_map]
  congr 1
  have e8 : ([.int .u32 s.a, .int .u32 s.b, .int .u32 s.c, .int .u32 s.d, .int .u32 s.e, .int .u32 s.f, .int .u32 s.g, .int .u32 s.h] : List Value).length = 8 := rfl
  generalize ([.int .u32 s.a, .int .u32 s.b, .int .u32 s.c, .int .u32 s.d, .int .u32 s.e, .int .u32 s.f, .int .u32 s.g, .int .u32 s.h] : List Value) = L at *
  rw [List.take_append, List.drop_append, List.take_append, List.drop_append]
  simp only [e8, List.length_map]
  rw [List.take_of_length_le (by omega), List.drop_eq_nil_of_le (by omega)]
  rw [show 8 + r - 8 = r by omega, show 8 + r + l.length - 8 = r + l.length by omega]
  rw [show r - P.length = 0 by omega, show r + l.length - P.length = 0 by omega]
  simp
/-- the count set anew -/
theorem hcells_set_count (s : S8) (P : List UInt8) (n m : Nat) (z : Int) (hz : z = m) : (hcells s P n).setIfInBounds (8 + P.length) (.int .i64 z) = hcells s P m := by
  subst hz
  apply Array.ext_getElem?
  intro j
  rw [Array.getElem?_setIfInBounds]
  by_cases e : 8 + P.length = j
  · subst e; rw [if_pos rfl, if_pos (by rw [hcells_size]; omega), hcells_count]
  · rw [if_neg e]
    by_cases h8 : j < 8
    · rw [hcells_word _ _ _ _ h8, hcells_word _ _ _ _ h8]
    · by_cases hp : j < 8 + P.length
      · obtain ⟨i, rfl⟩ : ∃ i, j = 8 + i := ⟨j - 8, by omega⟩
        rw [hcells_byte _ _ _ _ (by omega), hcells_byte _ _ _ _ (by omega)]
      · rw [Array.getElem?_eq_none (by rw [hcells_size]; omega), Array.getElem?_eq_none (by rw [hcells_size]; omega)]
/-- the words set anew -/
theorem hcells_set_words (s r : S8) (P : List UInt8) (n : Nat) :
    ((((((((hcells s P n).setIfInBounds 0 (.int .u32 r.a)).setIfInBounds 1 (.int .u32 r.b)).setIfInBounds 2 (.int .u32 r.c)).setIfInBounds 3 (.int .u32 r.d)).setIfInBounds 4 (.int .u32 r.e)).setIfInBounds 5 (.int .u32 r.f)).setIfInBounds 6 (.int .u32 r.g)).setIfInBounds 7 (.int .u32 r.h) = hcells r P n := by
  unfold hcells
  simp
/-- block g is a hash of the message m -/
def HashAt (w : World) (g : Nat) (m : List UInt8) : Prop :=
  ∃ P : List UInt8, P.length = 64 ∧ Row w g 149 (hcells (compN m (m.length / 64)) P m.length) ∧ P.take (m.length % 64) = m.drop (64 * (m.length / 64))
theorem HashAt.lt {w : World} {g : Nat} {m : List UInt8} (h : HashAt w g m) : g < w.heap.size := by obtain ⟨P, _, hr, _⟩ := h; exact hr.lt
theorem HashAt.only {w w' : World} {g k : Nat} {m : List UInt8} (h : HashAt w g m) (ho : Only k w w') (hne : g ≠ k) : HashAt w' g m := by
  obtain ⟨P, hp, hr, ht⟩ := h; exact ⟨P, hp, hr.only ho hne, ht⟩
theorem HashAt.below {w w' : World} {g : Nat} {m : List UInt8} (h : HashAt w g m) (hb : Below w.heap.size w w') : HashAt w' g m := by
  obtain ⟨P, hp, hr, ht⟩ := h; exact ⟨P, hp, hr.below hb hr.lt, ht⟩
theorem HashAt.alloc {w : World} {g : Nat} {m : List UInt8} (h : HashAt w g m) (o : Obj) : HashAt (w.alloc o) g m := by
  obtain ⟨P, hp, hr, ht⟩ := h; exact ⟨P, hp, hr.alloc o, ht⟩
/-- the part, with as many bytes as fit, or as there are, laid over it -/
theorem part_step (m l P : List UInt8) (k : Nat) (hP : P.length = 64) (ht : P.take (m.length % 64) = m.drop (64 * (m.length / 64))) (hk : k = Nat.min l.length (64 - m.length % 64)) :
    (splice P (m.length % 64) (l.take k)).length = 64 ∧ (splice P (m.length % 64) (l.take k)).take (m.length % 64 + k) = m.drop (64 * (m.length / 64)) ++ l.take k := by
  have h1 : k ≤ l.length := by rw [hk]; exact Nat.min_le_left _ _
  have h2 : k ≤ 64 - m.length % 64 := by rw [hk]; exact Nat.min_le_right _ _
  have hl : (l.take k).length = k := by rw [List.length_take]; omega
  refine ⟨by rw [length_splice _ _ _ (by omega)]; exact hP, ?_⟩
  unfold splice
  rw [← List.append_assoc, List.take_append_of_le_length (by simp; omega)]
  rw [List.take_of_length_le (by simp; omega), ht]
theorem hash_mid {w : World} {g : Nat} {m l P : List UInt8} {k : Nat} (hP : P.length = 64) (ht : P.take (m.length % 64) = m.drop (64 * (m.length / 64))) (hk : k = Nat.min l.length (64 - m.length % 64))
    (h0 : ¬ (m.length + k) % 64 = 0) (hr : Row w g 149 (hcells (compN m (m.length / 64)) (splice P (m.length % 64) (l.take k)) (m.length + k))) : HashAt w g (m ++ l.take k) := by
  obtain ⟨h1, h2⟩ := part_step m l P k hP ht hk
  have hkl : k ≤ l.length := by rw [hk]; exact Nat.min_le_left _ _
  have hk6 : k ≤ 64 - m.length % 64 := by rw [hk]; exact Nat.min_le_right _ _
  have hlen : (m ++ l.take k).length = m.length + k := by rw [List.length_append, List.length_take]; omega
  refine ⟨_, h1, ?_, ?_⟩
  · rw [hlen, show (m.length + k) / 64 = m.length / 64 by omega, compN_append _ _ _ (by omega)]; exact hr
  · rw [hlen, show (m.length + k) / 64 = m.length / 64 by omega, show (m.length + k) % 64 = m.length % 64 + k by omega, h2, List.drop_append_of_le_length (by omega)]
theorem hash_end {w : World} {g : Nat} {m l P : List UInt8} {k : Nat} (hP : P.length = 64) (ht : P.take (m.length % 64) = m.drop (64 * (m.length / 64))) (hk : k = Nat.min l.length (64 - m.length % 64)) (hpos : 0 < k)
    (h0 : (m.length + k) % 64 = 0) (hr : Row w g 149 (hcells (blockS (compN m (m.length / 64)) (splice P (m.length % 64) (l.take k))) (splice P (m.length % 64) (l.take k)) (m.length + k))) : HashAt w g (m ++ l.take k) := by
  obtain ⟨h1, h2⟩ := part_step m l P k hP ht hk
  have hkl : k ≤ l.length := by rw [hk]; exact Nat.min_le_left _ _
  have hk6 : k ≤ 64 - m.length % 64 := by rw [hk]; exact Nat.min_le_right _ _
  have hlen : (m ++ l.take k).length = m.length + k := by rw [List.length_append, List.length_take]; omega
  have hq : (m.length + k) / 64 = m.length / 64 + 1 := by omega
  have hall : m.length % 64 + k = 64 := by omega
  rw [hall, List.take_of_length_le (by omega)] at h2
  refine ⟨_, h1, ?_, ?_⟩
  · rw [hlen, hq, compN, compN_append _ _ _ (by omega), List.drop_append_of_le_length (by omega), ← h2, List.take_of_length_le (by omega)]; exact hr
  · rw [hlen, hq, h0, List.take_zero, List.drop_eq_nil_of_le (by omega)]
end
section
open Go.RowKit
theorem Tryd.under61 : Tryd.prog.underlying 147 = some (.array 64 5) := by kernel_rfl
theorem Tryd.agg63 : AggType Tryd.prog 149 73 := ⟨_, Tryd.underlying149, rfl, by kernel_rfl⟩
theorem Tab.only {b g : Nat} {w w' : World} (h : Tab b w) (ho : Only g w w') (hb : b ≠ g) : Tab b w' :=
  ⟨Nat.lt_of_lt_of_le h.1 ho.size, fun t ht => (World.cell?_of_block (w := w) (a := ⟨b, t, none⟩) (ho.block b h.1 hb)).trans (h.2 t ht)⟩
theorem bs_part {w : World} {g : Nat} {s : S8} {P : List UInt8} {n : Nat} (h : Row w g 149 (hcells s P n)) (hP : P.length = 64) : Bs w (some ⟨g, 8, none⟩) 64 P := by
  refine ⟨hP, fun k x hx => ⟨g, 8, rfl, h.lt, ?_⟩⟩
  rw [h.cell, hcells_byte _ _ _ _ ((List.getElem?_eq_some_iff.1 hx).1), hx]; rfl
theorem row_words {w : World} {g : Nat} {s : S8} {P : List UInt8} {n : Nat} (h : Row w g 149 (hcells s P n)) (r : S8) :
    Row ((((((((w.setCell ⟨g, 0, none⟩ (.int .u32 r.a)).setCell ⟨g, 1, none⟩ (.int .u32 r.b)).setCell ⟨g, 2, none⟩ (.int .u32 r.c)).setCell ⟨g, 3, none⟩ (.int .u32 r.d)).setCell ⟨g, 4, none⟩ (.int .u32 r.e)).setCell ⟨g, 5, none⟩ (.int .u32 r.f)).setCell ⟨g, 6, none⟩ (.int .u32 r.g)).setCell ⟨g, 7, none⟩ (.int .u32 r.h)) g 149 (hcells r P n) := by
  have h8 := (((((((h.set 0 (.int .u32 r.a)).set 1 (.int .u32 r.b)).set 2 (.int .u32 r.c)).set 3 (.int .u32 r.d)).set 4 (.int .u32 r.e)).set 5 (.int .u32 r.f)).set 6 (.int .u32 r.g)).set 7 (.int .u32 r.h)
  rwa [hcells_set_words] at h8
theorem only_words (w : World) (g : Nat) (r : S8) :
    Only g w ((((((((w.setCell ⟨g, 0, none⟩ (.int .u32 r.a)).setCell ⟨g, 1, none⟩ (.int .u32 r.b)).setCell ⟨g, 2, none⟩ (.int .u32 r.c)).setCell ⟨g, 3, none⟩ (.int .u32 r.d)).setCell ⟨g, 4, none⟩ (.int .u32 r.e)).setCell ⟨g, 5, none⟩ (.int .u32 r.f)).setCell ⟨g, 6, none⟩ (.int .u32 r.g)).setCell ⟨g, 7, none⟩ (.int .u32 r.h)) :=
  (((((((Only.setCell g 0 _ _).trans (Only.setCell g 1 _ _)).trans (Only.setCell g 2 _ _)).trans (Only.setCell g 3 _ _)).trans (Only.setCell g 4 _ _)).trans (Only.setCell g 5 _ _)).trans (Only.setCell g 6 _ _)).trans (Only.setCell g 7 _ _)
theorem write_fin {g : Nat} {m l m1 l1 : List UInt8} {n c j n1 c1 k : Nat} {A1 A2 : Option Addr} {w wr w9 : World} (hj : j ≤ n) (hm1 : m ++ l.take j = m1) (hl1 : l.drop j = l1) (hn1 : n - j = n1) (hc1 : c - j = c1) (hk : k ≤ n1) (ho : Only g w wr)
    (hb : Bs wr A1 n1 l1) (ha : Apart A1 n1 g) (hA2 : ∀ w l, Bs w A1 n1 l → Bs w A2 (n1 - k) (l.drop k)) (hA3 : ∀ g, Apart A1 n1 g → Apart A2 (n1 - k) g) (h9 : HashAt w9 g (m1 ++ l1.take k)) (ho9 : Only g wr w9) :
    ∃ (j' : Nat) (A1' : Option Addr), j' ≤ n ∧ Value.slice A2 (n1 - k) (c1 - k) = .slice A1' (n - j') (c - j') ∧ HashAt w9 g (m ++ l.take j') ∧ Only g w w9 ∧ Bs w9 A1' (n - j') (l.drop j') ∧ Apart A1' (n - j') g := by
  have e1 : n - (j + k) = n1 - k := by omega
  have e2 : c - (j + k) = c1 - k := by omega
  refine ⟨j + k, A2, by omega, by rw [e1, e2], ?_, ho.trans ho9, ?_, by rw [e1]; exact hA3 g ha⟩
  · rw [List.take_add, ← List.append_assoc, hm1, hl1]; exact h9
  · rw [e1, ← List.drop_drop, hl1]; exact (hA2 wr l1 hb).only (hA3 g ha) ho9
theorem hcells_72 (s : S8) (P : List UInt8) (n : Nat) (hP : P.length = 64) : (hcells s P n)[72]? = some (.int .i64 (n : Int)) := by
  have := hcells_count s P n
  rwa [hP] at this
set_option maxRecDepth 100000 in
set_option maxHeartbeats 1000000 in
theorem Write_any (g : Nat) (m : List UInt8) (A : Option Addr) (n c : Nat) (l : List UInt8) (w : World) (hH : HashAt w g m) (hB : Bs w A n l) (hA : Apart A n g) (hnc : n ≤ c) (hT : Tab 2 w) (hg2 : 2 < g) (hlen : m.length + n ≤ 2305843009213693952) :
    Calls Tryd.prog 93 #[.pointer (some ⟨g, 0, none⟩), .slice A n c] w fun e w' => e = .returned (.tuple #[]) ∧ HashAt w' g (m ++ l) ∧ Only g w w' := by
  have HH := Lib.hid hH
  have HB := Lib.hid hB
  have HA := Lib.hid hA
  have HT := Lib.hid hT
  have HL := Lib.hid hB.1
  clear hH hB hA hT
  go_enter Tryd.func93, Tryd.ntmps93
  go_wp2_with fail
  go_loopw [1] (fun s wr => ∃ (j : Nat) (A1 : Option Addr), j ≤ n ∧ s = .slice A1 (n - j) (c - j) ∧ HashAt wr g (m ++ l.take j) ∧ Only g w wr ∧ Bs wr A1 (n - j) (l.drop j) ∧ Apart A1 (n - j) g) (fun s _ => lenOf s)
  case atStart => exact ⟨0, A, Nat.zero_le _, rfl, by simpa using HH.out, Only.refl _ _, by simpa using HB.out, HA.out⟩
  case round =>
    obtain ⟨j, A1, hj, rfl, hh, ho, hb, ha⟩ := hrel
    have hml : (m ++ l.take j).length = m.length + j := by rw [List.length_append, List.length_take, HL.out]; omega
    have hsplit : m ++ l = (m ++ l.take j) ++ l.drop j := by rw [List.append_assoc, List.take_append_drop]
    obtain ⟨m1, hm1⟩ : ∃ m1, m ++ l.take j = m1 := ⟨_, rfl⟩
    obtain ⟨l1, hl1⟩ : ∃ l1, l.drop j = l1 := ⟨_, rfl⟩
    obtain ⟨n1, hn1⟩ : ∃ n1, n - j = n1 := ⟨_, rfl⟩
    obtain ⟨c1, hc1⟩ : ∃ c1, c - j = c1 := ⟨_, rfl⟩
    rw [hm1] at hh hml
    rw [hl1, hn1] at hb
    rw [hn1] at ha
    rw [hn1, hc1]
    have hle1 : m1.length + n1 ≤ 2305843009213693952 := by omega
    have hnc1 : n1 ≤ c1 := by omega
    by_cases hlt : 0 < n1
    · obtain ⟨P, hP, hrow, hpt⟩ := hh
      obtain ⟨r, hr⟩ : ∃ r, m1.length % 64 = r := ⟨_, rfl⟩
      obtain ⟨L, hL⟩ : ∃ L, m1.length = L := ⟨_, rfl⟩
      obtain ⟨k, hk⟩ : ∃ k, Nat.min n1 (64 - r) = k := ⟨_, rfl⟩
      have hr64 : r < 64 := by omega
      have hk1 : k ≤ n1 := by rw [← hk]; exact Nat.min_le_left _ _
      have hk2 : k ≤ 64 - r := by rw [← hk]; exact Nat.min_le_right _ _
      have hk0 : 0 < k := by rw [← hk]; exact Nat.lt_min.2 ⟨hlt, by omega⟩
      have hcell : wr.cell? ⟨g, 72, none⟩ = some (.int .i64 (L : Int)) := by
        rw [← hL]; exact (hrow.cell 72).trans (hcells_72 _ P _ hP)
      have hrm : (L : Int).tmod 64 = (r : Int) := by rw [Int.tmod_eq_emod_of_nonneg (by omega)]; omega
      have hcut := run_cut (P := Tryd.prog) Tryd.under61 Tryd.size5 g 8 r (r : Int) rfl hr64
      have HR := Lib.hid hrow
      have HBb := Lib.hid hb
      have HKK := Lib.hid hk
      have hfit : 8 + r + k ≤ 73 := by omega
      have hLb : L + k ≤ 2305843009213693952 := by omega
      have HSZ := Lib.hid (show (hcells (compN m1 (m1.length / 64)) P m1.length).size = 73 by rw [hcells_size, hP])
      have HP := Lib.hid hP
      have HPT := Lib.hid hpt
      have HM := Lib.hid hm1
      have HLL := Lib.hid hl1
      have HN := Lib.hid hn1
      have HC := Lib.hid hc1
      have HRr := Lib.hid hr
      have HLn := Lib.hid hL
      have HSP := Lib.hid hsplit
      have HML := Lib.hid hml
      clear hrow hb hk hP hpt hm1 hl1 hn1 hc1 hr hL hsplit hml
      go_wp2_with fail
      go_region_law (refine step_copyK Tryd.byteTypes rfl (.tmp 18) (.tmp 19) rfl g (8 + r) (64 - r) (64 - r) A1 n1 c1 rfl rfl l1 149 _ HR.out HBb.out k HKK.out (by rw [HSZ.out]; exact hfit) ?_; intro w2 hr2 ho2; have HR2 := Lib.hid hr2; clear hr2)
      have HR3 := Lib.hid (show Row w2 g 149 (hcells (compN m1 (m1.length / 64)) (splice P r (l1.take k)) m1.length) by
        have h3 := HR2.out
        rwa [hcells_spl _ _ _ _ _ (by rw [List.length_take, HP.out]; omega)] at h3)
      have HPS := part_step m1 l1 P k HP.out HPT.out (by rw [HBb.out.1, HRr.out]; exact HKK.out.symm)
      rw [HRr.out] at HPS
      have HP2 := Lib.hid HPS.1
      clear HPS HR2
      have hcell2 : w2.cell? ⟨g, 72, none⟩ = some (.int .i64 (L : Int)) := by
        rw [← HLn.out]; exact (HR3.out.cell 72).trans (hcells_72 _ _ _ HP2.out)
      have hfz2 := HR3.out.frozen 72
      clear hcell hcut hrm
      by_cases h0 : (L + k) % 64 = 0
      · have h0' : ((L : Int) + (k : Int)) % 64 = 0 := by omega
        go_wp2_with (with_reducible refine wpList_tail Tryd.byteTypes rfl (.tmp 21) (.tmp 22) rfl A1 n1 c1 k rfl rfl hk1 hnc1 ?_; intro A2 hA2 hA3; have HA2 := Lib.hid hA2; have HA3 := Lib.hid hA3; clear hA2 hA3)
        obtain ⟨w3, hw3⟩ : ∃ w3, w3 = w2.setCell ⟨g, 72, none⟩ (.int .i64 ((L : Int) + (k : Int))) := ⟨_, rfl⟩
        rw [← hw3]
        obtain ⟨P2, hP2⟩ : ∃ P2, splice P r (l1.take k) = P2 := ⟨_, rfl⟩
        obtain ⟨a1, b1, c1', d1, e1, f1, g1, h1, hs⟩ : ∃ a1 b1 c1' d1 e1 f1 g1 h1, compN m1 (m1.length / 64) = ⟨a1, b1, c1', d1, e1, f1, g1, h1⟩ := ⟨_, _, _, _, _, _, _, _, rfl⟩
        have HOK := Lib.hid (compN_ok m1 (m1.length / 64))
        rw [hs] at HOK
        have hr4 : Row w3 g 149 (hcells ⟨a1, b1, c1', d1, e1, f1, g1, h1⟩ P2 (L + k)) := by
          rw [hw3, ← hs, ← hP2]
          have h4 := HR3.out.set 72 (.int .i64 ((L : Int) + (k : Int)))
          have h5 := hcells_set_count (compN m1 (m1.length / 64)) (splice P r (l1.take k)) m1.length (L + k) ((L : Int) + (k : Int)) (by omega)
          rw [HP2.out] at h5
          rwa [h5] at h4
        have HP2' := Lib.hid (show P2.length = 64 by rw [← hP2]; exact HP2.out)
        have ho3 : Only g w w3 := by rw [hw3]; exact ho.trans ((Only.refl g wr).drew.trans (ho2.trans (Only.setCell g 72 w2 _)))
        have HT3 := Lib.hid (HT.out.only ho3 (by omega))
        have HR4 := Lib.hid hr4
        have HW3 := Lib.hid hw3
        have HPP := Lib.hid hP2
        have HS := Lib.hid hs
        clear hr4 hw3 hP2 hs hcell2 hfz2
        have hcall := run_cut_all (P := Tryd.prog) Tryd.under61 Tryd.size5 g 8
        have x0 : w3.cell? ⟨g, 0, none⟩ = some (.int .u32 a1) := (HR4.out.cell 0).trans (hcells_word ⟨a1, b1, c1', d1, e1, f1, g1, h1⟩ P2 (L + k) 0 (by omega))
        have x1 : w3.cell? ⟨g, 1, none⟩ = some (.int .u32 b1) := (HR4.out.cell 1).trans (hcells_word ⟨a1, b1, c1', d1, e1, f1, g1, h1⟩ P2 (L + k) 1 (by omega))
        have x2 : w3.cell? ⟨g, 2, none⟩ = some (.int .u32 c1') := (HR4.out.cell 2).trans (hcells_word ⟨a1, b1, c1', d1, e1, f1, g1, h1⟩ P2 (L + k) 2 (by omega))
        have x3 : w3.cell? ⟨g, 3, none⟩ = some (.int .u32 d1) := (HR4.out.cell 3).trans (hcells_word ⟨a1, b1, c1', d1, e1, f1, g1, h1⟩ P2 (L + k) 3 (by omega))
        have x4 : w3.cell? ⟨g, 4, none⟩ = some (.int .u32 e1) := (HR4.out.cell 4).trans (hcells_word ⟨a1, b1, c1', d1, e1, f1, g1, h1⟩ P2 (L + k) 4 (by omega))
        have x5 : w3.cell? ⟨g, 5, none⟩ = some (.int .u32 f1) := (HR4.out.cell 5).trans (hcells_word ⟨a1, b1, c1', d1, e1, f1, g1, h1⟩ P2 (L + k) 5 (by omega))
        have x6 : w3.cell? ⟨g, 6, none⟩ = some (.int .u32 g1) := (HR4.out.cell 6).trans (hcells_word ⟨a1, b1, c1', d1, e1, f1, g1, h1⟩ P2 (L + k) 6 (by omega))
        have x7 : w3.cell? ⟨g, 7, none⟩ = some (.int .u32 h1) := (HR4.out.cell 7).trans (hcells_word ⟨a1, b1, c1', d1, e1, f1, g1, h1⟩ P2 (L + k) 7 (by omega))
        go_region_with (first
          | (go_at_call 98; (refine (spread_any _ _ P2 _ (by exact bs_part HR4.out HP2'.out) (by omega)).mono ?_; rintro e4 w4 ⟨rfl, hb4⟩; have HR5 := Lib.hid (Row.below (w := w3.drew) HR4.out hb4 HR4.out.lt); have y0 : w4.cell? ⟨g, 0, none⟩ = some (.int .u32 a1) := (HR5.out.cell 0).trans (hcells_word ⟨a1, b1, c1', d1, e1, f1, g1, h1⟩ P2 (L + k) 0 (by omega)); have y1 : w4.cell? ⟨g, 1, none⟩ = some (.int .u32 b1) := (HR5.out.cell 1).trans (hcells_word ⟨a1, b1, c1', d1, e1, f1, g1, h1⟩ P2 (L + k) 1 (by omega)); have y2 : w4.cell? ⟨g, 2, none⟩ = some (.int .u32 c1') := (HR5.out.cell 2).trans (hcells_word ⟨a1, b1, c1', d1, e1, f1, g1, h1⟩ P2 (L + k) 2 (by omega)); have y3 : w4.cell? ⟨g, 3, none⟩ = some (.int .u32 d1) := (HR5.out.cell 3).trans (hcells_word ⟨a1, b1, c1', d1, e1, f1, g1, h1⟩ P2 (L + k) 3 (by omega)); have y4 : w4.cell? ⟨g, 4, none⟩ = some (.int .u32 e1) := (HR5.out.cell 4).trans (hcells_word ⟨a1, b1, c1', d1, e1, f1, g1, h1⟩ P2 (L + k) 4 (by omega)); have y5 : w4.cell? ⟨g, 5, none⟩ = some (.int .u32 f1) := (HR5.out.cell 5).trans (hcells_word ⟨a1, b1, c1', d1, e1, f1, g1, h1⟩ P2 (L + k) 5 (by omega)); have y6 : w4.cell? ⟨g, 6, none⟩ = some (.int .u32 g1) := (HR5.out.cell 6).trans (hcells_word ⟨a1, b1, c1', d1, e1, f1, g1, h1⟩ P2 (L + k) 6 (by omega)); have y7 : w4.cell? ⟨g, 7, none⟩ = some (.int .u32 h1) := (HR5.out.cell 7).trans (hcells_word ⟨a1, b1, c1', d1, e1, f1, g1, h1⟩ P2 (L + k) 7 (by omega)); skip))
          | (go_at_call 97; (refine (work_any a1 b1 c1' d1 e1 f1 g1 h1 (wList P2 64) (wList_length _ _) _ (by exact Tab.below (w := w3.drew) HT3.out hb4) HOK.out).mono ?_; rintro e5 w5 ⟨rfl, hb5⟩; unfold v8; have HR6 := Lib.hid (HR5.out.below hb5 HR5.out.lt); have z0 : w5.cell? ⟨g, 0, none⟩ = some (.int .u32 a1) := (HR6.out.cell 0).trans (hcells_word ⟨a1, b1, c1', d1, e1, f1, g1, h1⟩ P2 (L + k) 0 (by omega)); have fz0 := HR6.out.frozen 0; have z1 : w5.cell? ⟨g, 1, none⟩ = some (.int .u32 b1) := (HR6.out.cell 1).trans (hcells_word ⟨a1, b1, c1', d1, e1, f1, g1, h1⟩ P2 (L + k) 1 (by omega)); have fz1 := HR6.out.frozen 1; have z2 : w5.cell? ⟨g, 2, none⟩ = some (.int .u32 c1') := (HR6.out.cell 2).trans (hcells_word ⟨a1, b1, c1', d1, e1, f1, g1, h1⟩ P2 (L + k) 2 (by omega)); have fz2 := HR6.out.frozen 2; have z3 : w5.cell? ⟨g, 3, none⟩ = some (.int .u32 d1) := (HR6.out.cell 3).trans (hcells_word ⟨a1, b1, c1', d1, e1, f1, g1, h1⟩ P2 (L + k) 3 (by omega)); have fz3 := HR6.out.frozen 3; have z4 : w5.cell? ⟨g, 4, none⟩ = some (.int .u32 e1) := (HR6.out.cell 4).trans (hcells_word ⟨a1, b1, c1', d1, e1, f1, g1, h1⟩ P2 (L + k) 4 (by omega)); have fz4 := HR6.out.frozen 4; have z5 : w5.cell? ⟨g, 5, none⟩ = some (.int .u32 f1) := (HR6.out.cell 5).trans (hcells_word ⟨a1, b1, c1', d1, e1, f1, g1, h1⟩ P2 (L + k) 5 (by omega)); have fz5 := HR6.out.frozen 5; have z6 : w5.cell? ⟨g, 6, none⟩ = some (.int .u32 g1) := (HR6.out.cell 6).trans (hcells_word ⟨a1, b1, c1', d1, e1, f1, g1, h1⟩ P2 (L + k) 6 (by omega)); have fz6 := HR6.out.frozen 6; have z7 : w5.cell? ⟨g, 7, none⟩ = some (.int .u32 h1) := (HR6.out.cell 7).trans (hcells_word ⟨a1, b1, c1', d1, e1, f1, g1, h1⟩ P2 (L + k) 7 (by omega)); have fz7 := HR6.out.frozen 7; skip)))
        all_goals
          go_wp2_with fail
          refine ⟨write_fin hj HM.out HLL.out HN.out HC.out hk1 ho HBb.out ha HA2.out HA3.out ?_ ?_, by simp only [lenOf]; omega⟩
          · refine hash_end HP.out HPT.out (by rw [HBb.out.1, HRr.out]; exact HKK.out.symm) hk0 (by rw [HLn.out]; exact h0) ?_
            rw [HRr.out, HPP.out, HS.out, HLn.out]
            exact row_words HR6.out (workS ⟨a1, b1, c1', d1, e1, f1, g1, h1⟩ (wList P2 64))
          · have hw23 : Only g w2 w3 := by rw [HW3.out]; exact Only.setCell g 72 w2 _
            exact (Only.refl g wr).drew.trans (ho2.trans (hw23.trans ((Only.refl g w3).drew.trans ((Only.of_below hb4).trans ((Only.of_below hb5).trans (only_words w5 g (workS ⟨a1, b1, c1', d1, e1, f1, g1, h1⟩ (wList P2 64))))))))
      · have h0' : ¬ ((L : Int) + (k : Int)) % 64 = 0 := by omega
        go_wp2_with (with_reducible refine wpList_tail Tryd.byteTypes rfl (.tmp 21) (.tmp 22) rfl A1 n1 c1 k rfl rfl hk1 hnc1 ?_; intro A2 hA2 hA3; have HA2 := Lib.hid hA2; have HA3 := Lib.hid hA3; clear hA2 hA3)
        refine ⟨write_fin hj HM.out HLL.out HN.out HC.out hk1 ho HBb.out ha HA2.out HA3.out ?_ ?_, by simp only [lenOf]; omega⟩
        · refine hash_mid HP.out HPT.out (by rw [HBb.out.1, HRr.out]; exact HKK.out.symm) (by rw [HLn.out]; exact h0) ?_
          rw [HRr.out]
          have h4 := HR3.out.set 72 (.int .i64 ((L : Int) + (k : Int)))
          have h5 := hcells_set_count (compN m1 (m1.length / 64)) (splice P r (l1.take k)) m1.length (m1.length + k) ((L : Int) + (k : Int)) (by rw [HLn.out]; omega)
          rw [HP2.out] at h5
          rwa [h5] at h4
        · exact (Only.refl g wr).drew.trans (ho2.trans (Only.setCell g 72 w2 _))
    · have hjn : j = n := by omega
      subst hjn
      have HHH := Lib.hid hh
      clear hh
      go_wp2_with fail
      go_end0
      refine ⟨rfl, ?_, ho⟩
      rw [hsplit, hm1, List.drop_eq_nil_of_le (by rw [HL.out]; exact Nat.le_refl _), List.append_nil]
      exact HHH.out
end
section
open Go.RowKit
theorem Tryd.agg63' : AggType Tryd.prog 149 73 := ⟨_, Tryd.underlying149, rfl, by kernel_rfl⟩
def zeros64 : List UInt8 := List.replicate 64 0
theorem zero63 : (Tryd.prog.info? 149).map (fun i => (i.zero, i.size)) = some (some (.agg (hcells ⟨0, 0, 0, 0, 0, 0, 0, 0⟩ zeros64 0)), 73) := by kernel_rfl
theorem built63 : Tryd.prog.built 149 [(0, v8 firstS)] = some (hcells firstS zeros64 0) := by kernel_rfl
theorem HashAt.new {w : World} {g : Nat} (h : Row w g 149 (hcells firstS zeros64 0)) : HashAt w g [] := ⟨zeros64, rfl, h, rfl⟩
set_option maxRecDepth 100000 in
set_option maxHeartbeats 400000 in
theorem firstWords_any (w : World) : Calls Tryd.prog 96 #[] w fun e w' => e = .returned (v8 firstS) ∧ Below w.heap.size w w' := by
  go_enter Tryd.func96, Tryd.ntmps96
  go_wp2
  refine bodyPost_ret (v := v8 firstS) ?_ rfl ⟨rfl, ?_⟩
  · exact results_row1 Tryd.agg29 Tryd.results96 rfl (Row.new w 115 _) rfl
  · exact (Below.refl _ _).alloc (Nat.le_refl _) _
def NewHash (w : World) (e : Ending) (w' : World) : Prop := ∃ g, e = .returned (.pointer (some ⟨g, 0, none⟩)) ∧ w.heap.size ≤ g ∧ HashAt w' g [] ∧ Below w.heap.size w w'
set_option maxRecDepth 100000 in
set_option maxHeartbeats 400000 in
theorem New_any (w : World) : Calls Tryd.prog 92 #[] w (NewHash w) := by
  have HBu := Lib.hid built63
  go_enter Tryd.func92, Tryd.ntmps92
  go_wp2_with (first
    | (go_at_call 96; refine (firstWords_any _).mono ?_; rintro e w1 ⟨rfl, hb1⟩)
    | (with_reducible refine wpList_build rfl 149 #[(0, .tmp 1)] rfl ?hf ?_; rotate_left))
  · have e : (Tryd.prog.built 149 [(0, v8 firstS)]).getD #[] = hcells firstS zeros64 0 := by rw [HBu.out]; rfl
    rw [e]
    go_ret
    exact ⟨_, rfl, hb1.size, HashAt.new (Row.new w1 149 _), hb1.alloc hb1.size _⟩
  case hf => rw [HBu.out]; rfl
set_option maxHeartbeats 400000 in
theorem Write_nil (A : Option Addr) (n c : Nat) (w : World) : Calls Tryd.prog 93 #[.pointer none, .slice A n c] w fun e w' => e = .returned (.tuple #[]) ∧ w = w' := by
  go_enter Tryd.func93, Tryd.ntmps93
  go_wp2
  exact bodyPost_ret (v := .tuple #[]) (by simp [results, Tryd.results93]) rfl ⟨rfl, rfl⟩
def zero32 : List UInt8 := List.replicate 32 0
theorem zero25 : (Tryd.prog.info? 104).map (fun i => (i.zero, i.size)) = some (some (.agg (bcells zero32)), 32) := by kernel_rfl
theorem built25 : Tryd.prog.built 104 [] = some (bcells zero32) := by kernel_rfl
/-- a hash of its own, of the message m -/
def NewClone (w : World) (m : List UInt8) (e : Ending) (w' : World) : Prop := ∃ g, e = .returned (.pointer (some ⟨g, 0, none⟩)) ∧ w.heap.size ≤ g ∧ HashAt w' g m ∧ Below w.heap.size w w'
def z73 : Array Value := hcells ⟨0, 0, 0, 0, 0, 0, 0, 0⟩ zeros64 0
theorem z73_size : z73.size = 73 := rfl
theorem zeroV63 (w : World) : (zeroValue 149).run Tryd.prog w = .ok (.agg z73) w := (zero_of_info zero63).1 w
end
section
open Go.RowKit
theorem join8_lit (a b c d e f g h : Int) (w : World) (hok : S8.ok ⟨a, b, c, d, e, f, g, h⟩) :
    Calls Tryd.prog 100 #[.agg #[.int .u32 a, .int .u32 b, .int .u32 c, .int .u32 d, .int .u32 e, .int .u32 f, .int .u32 g, .int .u32 h]] w fun en w' => en = .returned (.agg (bcells (digestS ⟨a, b, c, d, e, f, g, h⟩))) ∧ Below w.heap.size w w' := join8_any ⟨a, b, c, d, e, f, g, h⟩ w hok
theorem pad_blocks (m : List UInt8) : (m ++ padL m.length).length / 64 = blocksN m.length := by
  rw [List.length_append, padL_length]; unfold blocksN; rw [Nat.add_assoc]
theorem hs_facts (w : World) (cs z : Array Value) (w3 : World) (hs : cs.size = 32) (ho3 : Only (w.heap.size + 1) ((w.alloc (.cells cs 104)).alloc (.cells z 149)) w3) : ∃ zs : Array Value, zs.size = 32 ∧ Row w3 w.heap.size 104 zs ∧ Below w.heap.size w w3 :=
  ⟨cs, hs, ((Row.new w 104 cs).alloc _).only ho3 (by omega), (((Below.refl _ _).alloc (Nat.le_refl _) _).alloc (by simp) _).trans (ho3.below (by omega) (by simp; omega))⟩
theorem own_apart {w : World} {base : Nat} {e : TypeId} {A : Option Addr} {n c : Nat} {l : List UInt8} {g : Nat} (h : Own w base e (.slice A n c) n l) (hg : g < base) : Apart A n g := by
  rcases h.2 with ⟨hv, hn⟩ | ⟨b, cap, cur, hv, hb, _⟩
  · exact .inl hn
  · injection hv with h1 h2 h3
    exact .inr ⟨b, 0, h1, by omega⟩
theorem hash_words {w : World} {g : Nat} {m : List UInt8} (h : HashAt w g m) : ∃ a b c d e f gg hh : Int, compN m (m.length / 64) = ⟨a, b, c, d, e, f, gg, hh⟩ ∧ w.cell? ⟨g, 0, none⟩ = some (.int .u32 a) ∧ w.cell? ⟨g, 1, none⟩ = some (.int .u32 b) ∧ w.cell? ⟨g, 2, none⟩ = some (.int .u32 c) ∧ w.cell? ⟨g, 3, none⟩ = some (.int .u32 d) ∧ w.cell? ⟨g, 4, none⟩ = some (.int .u32 e) ∧ w.cell? ⟨g, 5, none⟩ = some (.int .u32 f) ∧ w.cell? ⟨g, 6, none⟩ = some (.int .u32 gg) ∧ w.cell? ⟨g, 7, none⟩ = some (.int .u32 hh) := by
  obtain ⟨P, _, hr, _⟩ := h
  refine ⟨_, _, _, _, _, _, _, _, rfl, ?_, ?_, ?_, ?_, ?_, ?_, ?_, ?_⟩
  · exact (hr.cell 0).trans (hcells_word _ P _ 0 (by omega))
  · exact (hr.cell 1).trans (hcells_word _ P _ 1 (by omega))
  · exact (hr.cell 2).trans (hcells_word _ P _ 2 (by omega))
  · exact (hr.cell 3).trans (hcells_word _ P _ 3 (by omega))
  · exact (hr.cell 4).trans (hcells_word _ P _ 4 (by omega))
  · exact (hr.cell 5).trans (hcells_word _ P _ 5 (by omega))
  · exact (hr.cell 6).trans (hcells_word _ P _ 6 (by omega))
  · exact (hr.cell 7).trans (hcells_word _ P _ 7 (by omega))
set_option maxRecDepth 100000 in
set_option maxHeartbeats 1000000 in
theorem HSum_any (g : Nat) (m : List UInt8) (w : World) (h : HashAt w g m) (hT : Tab 2 w) (hm : m.length ≤ 1152921504606846976) :
    Calls Tryd.prog 94 #[.pointer (some ⟨g, 0, none⟩)] w fun e w' => e = .returned (.agg (bcells (sumL m))) ∧ Below w.heap.size w w' := by
  obtain ⟨P, hP, hr, ht⟩ := h
  have HR := Lib.hid hr
  have HP := Lib.hid hP
  have HTk := Lib.hid ht
  have HS := Lib.hid (show (hcells (compN m (m.length / 64)) P m.length).size = 73 by rw [hcells_size, hP])
  have HT := Lib.hid hT
  have h2 := hT.1
  have hz := zeroV63
  have hglt := hr.lt
  have hc : w.cell? ⟨g, 72, none⟩ = some (.int .i64 (m.length : Int)) := (hr.cell 72).trans (hcells_72 _ P _ hP)
  have HC := Lib.hid hc
  clear hr hP ht hT
  go_enter Tryd.func94, Tryd.ntmps94
  go_wp2_with (first
    | (with_reducible refine wpList_load_row Tryd.agg63' rfl (.tmp 10) rfl _ rfl 149 _ (Row.alloc HR.out _) HS.out ?_)
    | ((with_reducible refine wpList_store_row Tryd.agg63' rfl (.tmp 3) (.tmp 11) rfl _ _ rfl rfl 149 z73 (Row.new1 w _ 149 z73) HS.out z73_size (hcells_one _ _ _) ?_); intro w3 hr3 ho3; obtain ⟨zs, hzs, hrz, hb3⟩ := hs_facts w _ _ w3 rfl ho3; have HR3 := Lib.hid hr3; have HZ := Lib.hid hrz; have HZS := Lib.hid hzs; have hc3 := (hb3.cell (p := ⟨g, 72, none⟩) hglt).trans HC.out; have hlt3 := hr3.lt; clear hr3 hrz hzs ho3)
    | (go_at_call 99; (refine (Pad_ok m.length _ hm).mono ?_; rintro e4 w4 ⟨A4, n4, c4, rfl, hB4, hnc4, hb4, ho4⟩; have HB4 := Lib.hid hB4; have HAp := Lib.hid (own_apart ho4 hlt3); have hn4 : n4 ≤ 72 := by (rw [← hB4.1, padL_length]; unfold padZ; omega)); have hs4 := hb4.size; clear hB4 ho4)
    | (go_at_call 93; (refine (Write_any (w.heap.size + 1) m A4 n4 c4 (padL m.length) w4 ⟨P, HP.out, HR3.out.below hb4 HR3.out.lt, HTk.out⟩ HB4.out HAp.out hnc4 ((HT.out.below hb3).below hb4) (by omega) (by omega)).mono ?_; rintro e5 w5 ⟨rfl, hh5, ho5⟩; obtain ⟨xa, xb, xc, xd, xe, xf, xg, xh, hx, x0, x1, x2, x3, x4, x5, x6, x7⟩ := hash_words hh5; have HX := Lib.hid hx; have HOK := Lib.hid (show S8.ok ⟨xa, xb, xc, xd, xe, xf, xg, xh⟩ by (rw [← hx]; exact compN_ok _ _)); have hs5 := ho5.size; clear hx hh5))
    | (go_at_call 100; (refine (join8_lit _ _ _ _ _ _ _ _ _ HOK.out).mono ?_; rintro e6 w6 ⟨rfl, hb6⟩; have HZ6 := Lib.hid (((HZ.out.below hb4 HZ.out.lt).only ho5 (by omega)).below hb6 (by have := HZ.out.lt; omega))))
    | ((with_reducible refine wpList_store_row Tryd.agg25 rfl (.tmp 2) (.tmp 24) rfl _ _ rfl rfl 104 zs HZ6.out ?hsz HZS.out (bcells_one _) ?_); rotate_left; intro w9 hr9 ho9; have HR9 := Lib.hid hr9; clear hr9))
  · have hbl := pad_blocks m
    have hsum : sumL m = digestS ⟨xa, xb, xc, xd, xe, xf, xg, xh⟩ := by unfold sumL; rw [← hbl, HX.out]
    rw [hsum]
    refine bodyPost_ret (results_row1 Tryd.agg25 Tryd.results94 rfl HR9.out (by rw [bcells_size, digestS_length])) rfl ⟨rfl, ?_⟩
    have hb5 : Below w.heap.size w w5 := (hb3.trans (hb4.mono (by omega))).trans (ho5.below (by omega) (by omega))
    exact (hb5.trans (hb6.mono (by omega))).trans (ho9.below (by omega) (by have := hb6.size; omega))
  case hsz => rw [bcells_size, digestS_length]
end
section
open Go.RowKit
theorem sum_facts (w : World) (cs : Array Value) (w2 : World) (hs : cs.size = 32) (hb : Below (w.alloc (.cells cs 104)).heap.size (w.alloc (.cells cs 104)) w2) : ∃ zs : Array Value, zs.size = 32 ∧ Row w2 w.heap.size 104 zs ∧ Below w.heap.size w w2 ∧ w.heap.size < w2.heap.size := by
  have h := hb.size
  simp at h
  exact ⟨cs, hs, (Row.new w 104 cs).below hb (by simp), ((Below.refl _ _).alloc (Nat.le_refl _) _).trans (hb.mono (by simp)), by omega⟩
theorem run_items_same {P : Program} (w : World) (d : Nat) {e : TypeId} {k : IntKind} (he : P.plainKey e = true) (hk : P.underlying e = some (.int k)) (xs : Array Value) : ∀ (is : List Nat), (∀ j ∈ is, ∃ (kk : IntKind) (z : Int), xs[j * P.cellsOf e]? = some (.int kk z)) → (Op.eqItems (d + 1) e (P.cellsOf e) xs xs is).run P w = .ok true w
  | [], _ => by simp [Op.eqItems]
  | j :: is, h => by
    obtain ⟨kk, z, hz⟩ := h j (by simp)
    have hp := run_part_plain (P := P) w he hz
    have hq := run_equalIn_int (P := P) w d e kk k z z hk
    have ih := run_items_same w d he hk xs is (fun i hi => h i (by simp [hi]))
    simp [Op.eqItems, Sem.run_bind, hp, hq, ih]
theorem run_eq_same {P : Program} (w : World) {t e : TypeId} {n : Nat} {i : TypeInfo} {k : IntKind} (hu : P.underlying t = some (.array n e)) (hi : P.info? e = some i) (he : P.plainKey e = true) (hk : P.underlying e = some (.int k)) (h1 : P.cellsOf e = 1)
    (xs : Array Value) (h : ∀ j, j < n → ∃ (kk : IntKind) (z : Int), xs[j]? = some (.int kk z)) : (Op.equalIn 10000 t (.agg xs) (.agg xs)).run P w = .ok true w := by
  rw [run_equalIn_array w 9999 xs xs hu hi]
  exact run_items_same w 9998 he hk xs _ (fun j hj => by rw [h1, Nat.mul_one]; exact h j (by simpa using hj))
theorem Tryd.info5 : ∃ i, Tryd.prog.info? 5 = some i := by
  have h := Tryd.size5
  cases hq : Tryd.prog.info? 5 with
  | none => rw [hq] at h; cases h
  | some i => exact ⟨i, rfl⟩
theorem Tryd.info28 : ∃ i, Tryd.prog.info? 114 = some i := by
  have h : (Tryd.prog.info? 114).map (·.size) = some 1 := by kernel_rfl
  cases hq : Tryd.prog.info? 114 with
  | none => rw [hq] at h; cases h
  | some i => exact ⟨i, rfl⟩
/-- two digests that are the same -/
theorem eq_digest (l : List UInt8) (hl : l.length = 32) (w : World) : (Op.equalIn 10000 104 (.agg (bcells l)) (.agg (bcells l))).run Tryd.prog w = .ok true w := by
  obtain ⟨i, hi⟩ := Tryd.info5
  exact run_eq_same w Tryd.underlying24' hi (by kernel_rfl) Tryd.underlying5 (by kernel_rfl) _ (fun j hj => ⟨_, _, bcells_get l j (by omega)⟩)
/-- eight words that are the same -/
theorem eq_words (s : S8) (w : World) : (Op.equalIn 10000 115 (v8 s) (v8 s)).run Tryd.prog w = .ok true w := by
  obtain ⟨i, hi⟩ := Tryd.info28
  exact run_eq_same w Tryd.underlying115 hi (by kernel_rfl) Tryd.underlying114 (by kernel_rfl) _ (fun j hj => ⟨_, _, v8_get s j hj⟩)
theorem abc : (sumL [97, 98, 99]).getD 0 0 = 186 ∧ (sumL [97, 98, 99]).getD 1 0 = 120 ∧ (sumL [97, 98, 99]).getD 31 0 = 173 := by decide +kernel
theorem abc_new (w : World) : Bs (w.alloc (.cells #[.int .u8 97, .int .u8 98, .int .u8 99] 5)) (some ⟨w.heap.size, 0, none⟩) 3 [97, 98, 99] := by
  refine lit_new w 5 _ 3 [97, 98, 99] rfl rfl ?_ (by omega)
  intro j x hx
  rcases j with _ | _ | _ | j
  · simp at hx; subst hx; rfl
  · simp at hx; subst hx; rfl
  · simp at hx; subst hx; rfl
  · simp at hx
abbrev lit32 : Array Value := #[.int .u8 0, .int .u8 0, .int .u8 0, .int .u8 0, .int .u8 0, .int .u8 0, .int .u8 0, .int .u8 0, .int .u8 0, .int .u8 0, .int .u8 0, .int .u8 0, .int .u8 0, .int .u8 0, .int .u8 0, .int .u8 0, .int .u8 0, .int .u8 0, .int .u8 0, .int .u8 0, .int .u8 0, .int .u8 0, .int .u8 0, .int .u8 0, .int .u8 0, .int .u8 0, .int .u8 0, .int .u8 0, .int .u8 0, .int .u8 0, .int .u8 0, .int .u8 0]
theorem lit32_size : lit32.size = 32 := rfl
theorem abc_cell (j : Nat) (hj : j < 32) (x : UInt8) (z : Int) (h : (sumL [97, 98, 99]).getD j 0 = x) (hz : (x.toNat : Int) = z) : (bcells (sumL [97, 98, 99]))[j]? = some (.int .u8 z) := by
  rw [bcells_get _ j (by rw [sumL_length]; exact hj), h, hz]
theorem lit32_zero : lit32 = bcells zero32 := rfl
theorem lit32_one : lit32.all (·.oneCell') = true := by rw [lit32_zero]; exact bcells_one _
set_option maxRecDepth 100000 in
set_option maxHeartbeats 400000 in
theorem HSum_nil (w : World) : Calls Tryd.prog 94 #[.pointer none] w fun e w' => e = .returned (.agg lit32) ∧ Below w.heap.size w w' := by
  go_enter Tryd.func94, Tryd.ntmps94
  go_wp2_with (with_reducible refine wpList_store_row Tryd.agg25 rfl (.tmp 2) (.tmp 8) rfl _ _ rfl rfl 104 lit32 (Row.new w 104 lit32) lit32_size lit32_size lit32_one ?_; intro w9 hr9 ho9; have HR9 := Lib.hid hr9; clear hr9)
  exact bodyPost_ret (results_row1 Tryd.agg25 Tryd.results94 rfl HR9.out lit32_size) rfl ⟨rfl, ((Below.refl _ _).alloc (Nat.le_refl _) _).trans (ho9.below (Nat.le_refl _) (by simp))⟩
end
section
open Go.RowKit
set_option maxRecDepth 100000 in
set_option maxHeartbeats 1000000 in
theorem Sum_any (A : Option Addr) (n c : Nat) (l : List UInt8) (w : World) (hB : Bs w A n l) (hnc : n ≤ c) (hT : Tab 2 w) (hn : n ≤ 1152921504606846976) :
    Calls Tryd.prog 88 #[.slice A n c] w fun e w' => e = .returned (.agg (bcells (sumL l))) ∧ Below w.heap.size w w' := by
  have HB := Lib.hid hB
  have HT := Lib.hid hT
  have h2 := hT.1
  have HL := Lib.hid (show l.length ≤ 1152921504606846976 by rw [hB.1]; exact hn)
  clear hB hT
  go_enter Tryd.func88, Tryd.ntmps88
  go_wp2_with fail
  refine (New_any _).mono ?_
  rintro e2 w2 ⟨g, rfl, hg0, hh2, hb2'⟩
  have hg : w.heap.size < g := by simp at hg0; omega
  obtain ⟨zs, hzs, hz, hb2, hs2⟩ := sum_facts w _ w2 rfl hb2'
  have HZ := Lib.hid hz
  have HZS := Lib.hid hzs
  clear hzs hz hb2' hg0
  have HH2 := Lib.hid hh2
  have hlt2 := hh2.lt
  clear hh2
  go_wp2_with (first
    | (go_at_call 93; (refine (Write_any g [] A n c l w2 HH2.out (HB.out.below hb2) (HB.out.apart (by omega)) hnc (HT.out.below hb2) (by omega) (by simp; omega)).mono ?_; rintro e3 w3 ⟨rfl, hh3, ho3⟩; have HH3 := Lib.hid hh3; have hs3 := ho3.size; clear hh3))
    | (go_at_call 94; (refine (HSum_any g l w3 (by simpa using HH3.out) ((HT.out.below hb2).only ho3 (by omega)) HL.out).mono ?_; rintro e4 w4 ⟨rfl, hb4⟩; have HZ4 := Lib.hid ((HZ.out.only ho3 (by omega)).below hb4 (by omega))))
    | ((with_reducible refine wpList_store_row Tryd.agg25 rfl (.tmp 2) (.tmp 9) rfl _ _ rfl rfl 104 zs HZ4.out ?hsz HZS.out (bcells_one _) ?_); rotate_left; intro w9 hr9 ho9; have HR9 := Lib.hid hr9; clear hr9))
  · refine bodyPost_ret (results_row1 Tryd.agg25 Tryd.results88 rfl HR9.out (by rw [bcells_size, sumL_length])) rfl ⟨rfl, ?_⟩
    have hb3 : Below w.heap.size w w3 := hb2.trans (ho3.below (by omega) (by omega))
    exact (hb3.trans (hb4.mono (by omega))).trans (ho9.below (by omega) (by have := hb4.size; omega))
  case hsz => rw [bcells_size, sumL_length]
end
end Go.Proofs.YtgiobcpljbpmiaaDoor
