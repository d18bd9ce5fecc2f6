/-
  What the document's own Same answers of the same digests.
-/
import Derived.Test.YtiidcnjhjojhoaaDoorOpsd
namespace Go.Proofs.YtiidcnjhjojhoaaDoor
open Go.ChangeShapes Go.WideShapes Go.ChangeAt Go.RowKit
set_option maxRecDepth 100000 in
set_option maxHeartbeats 2000000 in
theorem RSame_yes (A B : Option Addr) (n c d : Nat) (L : List (List UInt8)) (w : World) (h : Ds w A n L) (h2 : Ds w B n L) (hn : n ≤ 1000000) :
    Calls Tryd.prog 17 #[.slice A n c, .slice B n d] w fun e w' => e = .returned (.bool true) ∧ ∃ m, w' = w.drewN m := by
  have hne : ((n : Int) != (n : Int)) = false := by simp
  have HA := Lib.hid h
  have HB := Lib.hid h2
  clear h h2
  go_enter Tryd.func17, Tryd.ntmps17
  go_wp2
  go_loopw [5] (fun i wr => ∃ k j : Nat, k ≤ n ∧ i = .int .i64 (k : Int) ∧ wr = w.drewN j) (fun i _ => n - (intOf i).toNat)
  case atStart => exact ⟨0, 0, Nat.zero_le _, rfl, rfl⟩
  case round =>
    obtain ⟨k, j, hk, rfl, hw⟩ := hrel
    have HW := Lib.hid hw
    have HA' : Hid (Ds wr A n L) := Lib.hid (hw ▸ HA.out.drewN j)
    have HB' : Hid (Ds wr B n L) := Lib.hid (hw ▸ HB.out.drewN j)
    clear hw
    by_cases hlt : k < n
    · have hik : (k : Int) < (n : Int) := by omega
      obtain ⟨b, off, x, rfl, hb, hx, hxl, hBx⟩ := HA'.out.get hlt
      obtain ⟨b2, off2, y, rfl, hb2, hy, hyl, hBy⟩ := HB'.out.get hlt
      obtain rfl : y = x := by rw [hx] at hy; injection hy with e; exact e.symm
      have HX := Lib.hid hxl
      have K0 := Lib.hid (show wr.drew.rangeAt b (off + 32 * k) (y.map bcell) ∧ wr.drew.rangeAt b2 (off2 + 32 * k) (y.map bcell) from ⟨hBx.range, hBy.range⟩)
      clear hx hy hxl hyl hBx hBy
      go_wp2_with fail
      refine wp_region_noPanic ?_
      refine wp_region_held_drew (S := fun w' => w'.rangeAt b (off + 32 * k) (y.map bcell) ∧ w'.rangeAt b2 (off2 + 32 * k) (y.map bcell)) (by kernel_rfl) K0.out (fun hHeld => ?_)
      refine takeD (i := 0) (some 17) (.slice (some ⟨b, off, none⟩) n c) rfl rfl (by kernel_rfl) (by kernel_rfl) (by kernel_rfl) (fun _ _ _ h => h) (Or.inl ⟨by rfl, fun _ _ => rfl⟩) hHeld ?_
      simp only [Act.put, List.setIfInBounds_toArray, List.set_cons_zero, List.set_cons_succ]
      refine takeD (i := 1) (some 18) (.int .i64 (k : Int)) rfl rfl (by kernel_rfl) (by kernel_rfl) (by kernel_rfl) (fun _ _ _ h => h) (Or.inl ⟨by rfl, fun _ _ => rfl⟩) hHeld ?_
      simp only [Act.put, List.setIfInBounds_toArray, List.set_cons_zero, List.set_cons_succ]
      refine takeD (i := 2) (some 19) (.pointer (some ⟨b, off + 32 * k, none⟩)) rfl rfl (by kernel_rfl) (by kernel_rfl) (by kernel_rfl) (fun _ _ _ h => h) (yields_indexD rfl (.tmp 17) (.tmp 18) rfl b off n c k _ rfl rfl rfl hlt) hHeld ?_
      simp only [Act.put, List.setIfInBounds_toArray, List.set_cons_zero, List.set_cons_succ]
      refine takeD (i := 3) (some 20) (.agg (bcells y)) rfl rfl (by kernel_rfl) (by kernel_rfl) (by kernel_rfl) (fun _ _ _ h => h) (yields_loadD rfl (.tmp 19) rfl b (off + 32 * k) y rfl (fun _ h => h.1) HX.out) hHeld ?_
      simp only [Act.put, List.setIfInBounds_toArray, List.set_cons_zero, List.set_cons_succ]
      refine takeD (i := 4) (some 21) (.slice (some ⟨b2, off2, none⟩) n d) rfl rfl (by kernel_rfl) (by kernel_rfl) (by kernel_rfl) (fun _ _ _ h => h) (Or.inl ⟨by rfl, fun _ _ => rfl⟩) hHeld ?_
      simp only [Act.put, List.setIfInBounds_toArray, List.set_cons_zero, List.set_cons_succ]
      refine takeD (i := 5) (some 22) (.int .i64 (k : Int)) rfl rfl (by kernel_rfl) (by kernel_rfl) (by kernel_rfl) (fun _ _ _ h => h) (Or.inl ⟨by rfl, fun _ _ => rfl⟩) hHeld ?_
      simp only [Act.put, List.setIfInBounds_toArray, List.set_cons_zero, List.set_cons_succ]
      refine takeD (i := 6) (some 23) (.pointer (some ⟨b2, off2 + 32 * k, none⟩)) rfl rfl (by kernel_rfl) (by kernel_rfl) (by kernel_rfl) (fun _ _ _ h => h) (yields_indexD rfl (.tmp 21) (.tmp 22) rfl b2 off2 n d k _ rfl rfl rfl hlt) hHeld ?_
      simp only [Act.put, List.setIfInBounds_toArray, List.set_cons_zero, List.set_cons_succ]
      refine takeD (i := 7) (some 24) (.agg (bcells y)) rfl rfl (by kernel_rfl) (by kernel_rfl) (by kernel_rfl) (fun _ _ _ h => h) (yields_loadD rfl (.tmp 23) rfl b2 (off2 + 32 * k) y rfl (fun _ h => h.2) HX.out) hHeld ?_
      simp only [Act.put, List.setIfInBounds_toArray, List.set_cons_zero, List.set_cons_succ]
      refine takeD (i := 8) (some 25) (.bool false) rfl rfl (by kernel_rfl) (by kernel_rfl) (by kernel_rfl) (fun _ _ _ h => h) (yields_neqD rfl (.tmp 20) (.tmp 24) rfl y rfl rfl HX.out) hHeld ?_
      simp only [Act.put, List.setIfInBounds_toArray, List.set_cons_zero, List.set_cons_succ]
      (try simp only [Act.put, List.setIfInBounds_toArray])
      refine wpAnyH_done (by kernel_rfl) ?_ _
      refine NoPanic.normal ?_
      go_wp2_with fail
      refine ⟨⟨k + 1, j + 1, by omega, by go_num, by rw [HW.out]; rfl⟩, by simp [intOf]; omega⟩
    · go_wp2
      go_ret
      exact ⟨rfl, _, HW.out⟩
end Go.Proofs.YtiidcnjhjojhoaaDoor
