/-
  What sha.spread answers: the words of all rounds, of a block's 64 bytes.
-/
import Derived.Test.YtiidcnjhjojhoaaDoorSig
import Derived.Test.YtiidcnjhjojhoaaDoorArr
import Derived.Test.YtiidcnjhjojhoaaDoorCalls
import Derived.Test.YtiidcnjhjojhoaaDoorWork
import Derived.Deep.RegionHeld3
import Derived.IntWalk
namespace Go.Proofs.YtiidcnjhjojhoaaDoor
open Go.RowKit
theorem cell_set_ne {w : World} {b o o' : Nat} {u v : Value} (h : o ≠ o') (hc : w.cell? ⟨b, o', none⟩ = some v) : (w.setCell ⟨b, o, none⟩ u).drew.cell? ⟨b, o', none⟩ = some v := by
  show (w.setCell ⟨b, o, none⟩ u).cell? ⟨b, o', none⟩ = some v
  rw [World.cell?_setCell_other _ _ _ _ (by intro e; injection e with _ e; exact h e)]; exact hc
theorem wcells_one (l : List Int) : (wcells l).all (·.oneCell') = true := by
  unfold wcells
  exact all_oneCell_toArray fun v hv => by
    obtain ⟨x, _, rfl⟩ := List.mem_map.1 hv
    rfl
/-- the first k words stand -/
def Filled (l : List UInt8) (k : Nat) (cs : Array Value) : Prop := cs.size = 64 ∧ ∀ j, j < k → cs[j]? = some (.int .u32 ((wList l k).getD j 0))
theorem Filled.step {l : List UInt8} {k : Nat} {cs : Array Value} (h : Filled l k cs) (hk : k < 64) : Filled l (k + 1) (cs.setIfInBounds k (.int .u32 (nextW l k (wList l k)))) := by
  refine ⟨by rw [Array.size_setIfInBounds]; exact h.1, fun j hj => ?_⟩
  rw [Array.getElem?_setIfInBounds]
  by_cases e : k = j
  · subst e; rw [if_pos rfl, if_pos (by rw [h.1]; exact hk), wList_last]
  · rw [if_neg e, h.2 j (by omega), wList_get l k j (by omega)]
theorem Filled.all {l : List UInt8} {cs : Array Value} (h : Filled l 64 cs) : cs = wcells (wList l 64) := by
  apply Array.ext_getElem?
  intro j
  by_cases hj : j < 64
  · rw [h.2 j hj, wcells_get _ _ (by rw [wList_length]; exact hj)]
  · rw [Array.getElem?_eq_none (by rw [h.1]; omega), Array.getElem?_eq_none (by rw [wcells_size, wList_length]; omega)]
set_option maxRecDepth 100000 in
set_option maxHeartbeats 1000000 in
theorem spread_any (A : Option Addr) (c : Nat) (l : List UInt8) (w : World) (hB : Bs w A 64 l) (hc : 64 ≤ c) :
    Calls Tryd.prog 34 #[.slice A 64 c] w fun en w' => en = .returned (.agg (wcells (wList l 64))) ∧ Below w.heap.size w w' := by
  have HB := Lib.hid hB
  clear hB
  go_enter Tryd.func34, Tryd.ntmps34
  go_wp2_with fail
  go_loopw [5] (fun i wr => ∃ (k : Nat) (cs zs : Array Value), k ≤ 64 ∧ i = .int .i64 (k : Int) ∧ Below w.heap.size w wr ∧ Row wr w.heap.size 63 zs ∧ Hid (zs.size = 64) ∧ Row wr (w.heap.size + 1) 63 cs ∧ Filled l k cs) (fun i _ => 64 - (intOf i).toNat)
  case atStart =>
    exact ⟨0, _, _, Nat.zero_le _, rfl, ((Below.refl _ _).alloc (Nat.le_refl _) _).alloc (by simp) _, (Row.new _ _ _).alloc _, Lib.hid rfl, Row.new1 _ _ _ _, rfl, fun j hj => by omega⟩
  case round =>
    obtain ⟨k, cs, zs, hk, rfl, hbel, hz, HZ, hr, hf⟩ := hrel
    have HF := Lib.hid hf
    have HR := Lib.hid hr
    have hbs := hbel.size
    have HZR := Lib.hid hz
    clear hz
    by_cases h16 : k < 16
    · have hcell := hr.cell k
      have hfz := hr.frozen k
      have hin : k < cs.size := by rw [hf.1]; omega
      rw [Array.getElem?_eq_getElem hin] at hcell
      clear hf hr
      have hw4 : wordV l ((k : Int) * 4) = nextW l k (wList l k) := by
        unfold wordV nextW
        rw [if_pos h16, if_pos (by rw [HB.out.1]; omega), show ((k : Int) * 4).toNat = 4 * k by omega]
      have HW4 := Lib.hid hw4
      clear hw4
      go_wp2_with (go_at_call 43; refine (Word_any _ _ _ l _ _ (HB.out.below hbel) hc (by omega)).mono ?_; rintro e w' ⟨rfl, rfl⟩)
      go_roundw
      case rel =>
        refine ⟨k + 1, _, zs, by omega, by go_num, hbel.setCell (by simp) _, HZR.out.far (by simp) _, HZ, HR.out.set _ _, ?_⟩
        rw [HW4.out]
        exact HF.out.step (by omega)
      case measure => simp [intOf]; omega
    · by_cases hlt : k < 64
      · obtain ⟨x, hx⟩ : ∃ x, (wList l k).getD (k - 2) 0 = x := ⟨_, rfl⟩
        obtain ⟨y, hy⟩ : ∃ y, (wList l k).getD (k - 7) 0 = y := ⟨_, rfl⟩
        obtain ⟨z, hz⟩ : ∃ z, (wList l k).getD (k - 15) 0 = z := ⟨_, rfl⟩
        obtain ⟨v, hv⟩ : ∃ v, (wList l k).getD (k - 16) 0 = v := ⟨_, rfl⟩
        have c2 := (hr.cell (k - 2)).trans (hf.2 (k - 2) (by omega))
        have c7 := (hr.cell (k - 7)).trans (hf.2 (k - 7) (by omega))
        have c15 := (hr.cell (k - 15)).trans (hf.2 (k - 15) (by omega))
        have c16 := (hr.cell (k - 16)).trans (hf.2 (k - 16) (by omega))
        obtain ⟨x1, x2⟩ := wList_W32 l k (k - 2)
        obtain ⟨y1, y2⟩ := wList_W32 l k (k - 7)
        obtain ⟨z1, z2⟩ := wList_W32 l k (k - 15)
        obtain ⟨v1, v2⟩ := wList_W32 l k (k - 16)
        rw [hx] at c2 x1 x2
        rw [hy] at c7 y1 y2
        rw [hz] at c15 z1 z2
        rw [hv] at c16 v1 v2
        have HN := Lib.hid (show nextW l k (wList l k) = (((sS1 x + y) % 4294967296 + sS0 z) % 4294967296 + v) % 4294967296 by
          unfold nextW; rw [if_neg h16, hx, hy, hz, hv]; rfl)
        have hcell := hr.cell k
        have hfz := hr.frozen k
        have hin : k < cs.size := by rw [hf.1]; omega
        rw [Array.getElem?_eq_getElem hin] at hcell
        have i0 : (0 : Int) ≤ (k : Int) := by omega
        have i64 : (k : Int) < 64 := by omega
        have j2 : ((k : Int) - 2).toNat = k - 2 := by omega
        have j7 : ((k : Int) - 7).toNat = k - 7 := by omega
        have j15 : ((k : Int) - 15).toNat = k - 15 := by omega
        have j16 : ((k : Int) - 16).toNat = k - 16 := by omega
        have w2 : IntKind.i64.wrap ((k : Int) - 2) = (k : Int) - 2 := IntWalk.i64_in _ (by omega)
        have p2 : (0 : Int) ≤ (k : Int) - 2 := by omega
        have pp2 : (2 : Int) ≤ (k : Int) := by omega
        have r2 : (k : Int) - 2 < 64 := by omega
        have w7 : IntKind.i64.wrap ((k : Int) - 7) = (k : Int) - 7 := IntWalk.i64_in _ (by omega)
        have p7 : (0 : Int) ≤ (k : Int) - 7 := by omega
        have pp7 : (7 : Int) ≤ (k : Int) := by omega
        have r7 : (k : Int) - 7 < 64 := by omega
        have w15 : IntKind.i64.wrap ((k : Int) - 15) = (k : Int) - 15 := IntWalk.i64_in _ (by omega)
        have p15 : (0 : Int) ≤ (k : Int) - 15 := by omega
        have pp15 : (15 : Int) ≤ (k : Int) := by omega
        have r15 : (k : Int) - 15 < 64 := by omega
        have w16 : IntKind.i64.wrap ((k : Int) - 16) = (k : Int) - 16 := IntWalk.i64_in _ (by omega)
        have p16 : (0 : Int) ≤ (k : Int) - 16 := by omega
        have pp16 : (16 : Int) ≤ (k : Int) := by omega
        have r16 : (k : Int) - 16 < 64 := by omega
        have n2 : k ≠ k - 2 := by omega
        have n7 : k ≠ k - 7 := by omega
        have n15 : k ≠ k - 15 := by omega
        have n16 : k ≠ k - 16 := by omega
        clear hf hr hx hy hz hv
        go_wp2_with fail
        go_region_held3 (fun w' => w'.cell? ⟨w.heap.size + 1, k - 2, none⟩ = some (.int .u32 x) ∧ w'.cell? ⟨w.heap.size + 1, k - 7, none⟩ = some (.int .u32 y) ∧ w'.cell? ⟨w.heap.size + 1, k - 15, none⟩ = some (.int .u32 z) ∧ w'.cell? ⟨w.heap.size + 1, k - 16, none⟩ = some (.int .u32 v)) (first | exact ⟨c2, c7, c15, c16⟩ | exact ⟨cell_set_ne n2 c2, cell_set_ne n7 c7, cell_set_ne n15 c15, cell_set_ne n16 c16⟩ | go_keep) (first | (go_at_call 44; refine (sS1_any _ _ x1 x2).mono ?_; rintro e w' ⟨rfl, rfl⟩) | (go_at_call 45; refine (sS0_any _ _ z1 z2).mono ?_; rintro e w' ⟨rfl, rfl⟩))
        go_wp2_with fail
        go_roundw
        case rel =>
          refine ⟨k + 1, _, zs, by omega, by go_num, (hbel.setCell (by simp) _).drew, (HZR.out.far (by simp) _).drewN 1, HZ, (HR.out.set _ _).drewN 1, ?_⟩
          rw [← HN.out]
          exact HF.out.step (by omega)
        case measure => simp [intOf]; omega
      · obtain rfl : k = 64 := by omega
        have hcs := hf.all
        have h64 := hf.1
        subst hcs
        have H64 := Lib.hid h64
        clear hf hr h64
        go_wp2_with (first | (with_reducible refine wpList_load_row Tryd.agg50 rfl (.tmp 3) rfl _ rfl 63 _ HR.out H64.out ?_) | (with_reducible refine wpList_store_row Tryd.agg50 rfl (.tmp 2) (.tmp 43) rfl _ _ rfl rfl 63 zs HZR.out H64.out HZ.out (wcells_one _) ?_; intro w9 hr9 ho9; have HR9 := Lib.hid hr9; clear hr9))
        exact bodyPost_ret (results_row1 Tryd.agg50 Tryd.results34 rfl HR9.out H64.out) rfl ⟨rfl, hbel.trans (ho9.below (Nat.le_refl _) hbs)⟩
end Go.Proofs.YtiidcnjhjojhoaaDoor
