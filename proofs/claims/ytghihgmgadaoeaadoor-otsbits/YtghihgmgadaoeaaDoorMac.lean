/-
  Sums with a key, over lists of bytes (keyL, padK, roundL, macL); what mac.blockOf answers.
-/
import Derived.Test.YtghihgmgadaoeaaDoorSums
import Derived.Test.YtghihgmgadaoeaaDoorByte
namespace Go.Proofs.YtghihgmgadaoeaaDoor
open Go.RowKit
def keyL (k : List UInt8) : List UInt8 := if 64 < k.length then sumL k else k
def padTo (k : List UInt8) : List UInt8 := k ++ List.replicate (64 - k.length) 0
def padK (k : List UInt8) : List UInt8 := padTo (keyL k)
def maskL (m : UInt8) (k : List UInt8) : List UInt8 := k.map fun x => x ^^^ m
def roundL (m : UInt8) (k l : List UInt8) : List UInt8 := sumL (maskL m k ++ l)
def macB (k l : List UInt8) : List UInt8 := roundL 92 k (roundL 54 k l)
def macL (k l : List UInt8) : List UInt8 := macB (padK k) l
theorem keyL_length (k : List UInt8) : (keyL k).length ≤ 64 := by
  unfold keyL; split
  · rw [sumL_length]; omega
  · omega
theorem padTo_length (k : List UInt8) (h : k.length ≤ 64) : (padTo k).length = 64 := by unfold padTo; rw [List.length_append, List.length_replicate]; omega
theorem padK_length (k : List UInt8) : (padK k).length = 64 := padTo_length _ (keyL_length k)
theorem roundL_length (m : UInt8) (k l : List UInt8) : (roundL m k l).length = 32 := sumL_length _
theorem macB_length (k l : List UInt8) : (macB k l).length = 32 := sumL_length _
theorem macL_length (k l : List UInt8) : (macL k l).length = 32 := sumL_length _
abbrev lit64 : Array Value := #[.int .u8 0, .int .u8 0, .int .u8 0, .int .u8 0, .int .u8 0, .int .u8 0, .int .u8 0, .int .u8 0, .int .u8 0, .int .u8 0, .int .u8 0, .int .u8 0, .int .u8 0, .int .u8 0, .int .u8 0, .int .u8 0, .int .u8 0, .int .u8 0, .int .u8 0, .int .u8 0, .int .u8 0, .int .u8 0, .int .u8 0, .int .u8 0, .int .u8 0, .int .u8 0, .int .u8 0, .int .u8 0, .int .u8 0, .int .u8 0, .int .u8 0, .int .u8 0, .int .u8 0, .int .u8 0, .int .u8 0, .int .u8 0, .int .u8 0, .int .u8 0, .int .u8 0, .int .u8 0, .int .u8 0, .int .u8 0, .int .u8 0, .int .u8 0, .int .u8 0, .int .u8 0, .int .u8 0, .int .u8 0, .int .u8 0, .int .u8 0, .int .u8 0, .int .u8 0, .int .u8 0, .int .u8 0, .int .u8 0, .int .u8 0, .int .u8 0, .int .u8 0, .int .u8 0, .int .u8 0, .int .u8 0, .int .u8 0, .int .u8 0, .int .u8 0]
theorem lit64_zero : lit64 = bcells zeros64 := rfl
theorem lit64_size : lit64.size = 64 := rfl
theorem Tryd.agg44 : AggType Tryd.prog 90 64 := ⟨_, Tryd.underlying90, rfl, by kernel_rfl⟩
theorem Tryd.under44 : Tryd.prog.underlying 90 = some (.array 64 5) := by kernel_rfl
theorem spl_pad (l : List UInt8) (n : Nat) (hl : l.length = n) (hn : n ≤ 64) : spl lit64 0 (l.take (Nat.min n 64)) = bcells (padTo l) := by
  have hm : Nat.min n 64 = n := Nat.min_eq_left hn
  rw [hm, List.take_of_length_le (by omega), lit64_zero]
  unfold spl splice bcells padTo zeros64
  simp only [List.map_append, List.map_replicate, List.length_map, List.drop_replicate, List.take_zero, List.nil_append, Nat.zero_add, hl]
theorem Row.bsB {w : World} {g : Nat} {t : TypeId} {l : List UInt8} {n : Nat} (h : Row w g t (bcells l)) (hl : l.length = n) : Bs w (some ⟨g, 0, none⟩) n l :=
  ⟨hl, fun k x hx => ⟨g, 0, rfl, h.lt, by rw [Nat.zero_add, h.cell k, bcells_get?, hx]; rfl⟩⟩
set_option maxRecDepth 100000 in
set_option maxHeartbeats 1000000 in
theorem blockOf_short (A : Option Addr) (n c : Nat) (l : List UInt8) (w : World) (hB : Bs w A n l) (hn : n ≤ 64) :
    Calls Tryd.prog 59 #[.slice A n c] w fun e w' => e = .returned (.agg (bcells (padTo l))) ∧ Below w.heap.size w w' := by
  have HB := Lib.hid (hB.below (((Below.refl _ _).alloc (Nat.le_refl _) (.cells lit64 90)).alloc (by simp) (.cells lit64 90)))
  have hlt : decide (64 < (n : Int)) = false := by simp; omega
  have hle : ¬ (64 < (n : Int)) := by omega
  have HP := Lib.hid (spl_pad l n hB.1 hn)
  have HS := Lib.hid (show (bcells (padTo l)).size = 64 by rw [bcells_size, padTo_length l (by rw [hB.1]; exact hn)])
  have hcut := run_cut_all (P := Tryd.prog) Tryd.under44 Tryd.size5 (w.heap.size + 1) 0
  clear hB
  go_enter Tryd.func59, Tryd.ntmps59
  go_wp2_with (first
    | (with_reducible refine wpList_copyB Tryd.byteTypes rfl (.tmp 11) (.tmp 12) rfl (w.heap.size + 1) 0 64 64 A n c rfl rfl l 90 lit64 (Row.new1 w _ 90 lit64) HB.out ?hfit ?_; rotate_left; intro w3 hr3 ho3; rw [HP.out] at hr3; have HR3 := Lib.hid hr3; have HZ3 := Lib.hid (((Row.new w 90 lit64).alloc _).only ho3 (by omega)); clear hr3)
    | (with_reducible refine wpList_load_row Tryd.agg44 rfl (.tmp 3) rfl _ rfl 90 _ HR3.out HS.out ?_)
    | (with_reducible refine wpList_store_row Tryd.agg44 rfl (.tmp 2) (.tmp 14) rfl _ _ rfl rfl 90 lit64 HZ3.out HS.out lit64_size (bcells_one _) ?_; intro w9 hr9 ho9; have HR9 := Lib.hid hr9; clear hr9))
  · exact bodyPost_ret (results_row1 Tryd.agg44 Tryd.results59 rfl HR9.out HS.out) rfl ⟨rfl, ((((Below.refl _ _).alloc (Nat.le_refl _) _).alloc (by simp) _).trans (ho3.below (by omega) (by simp; omega))).trans (ho9.below (by omega) (by have := ho3.size; simp at this; omega))⟩
set_option maxRecDepth 100000 in
set_option maxHeartbeats 1000000 in
theorem blockOf_long (A : Option Addr) (n c : Nat) (l : List UInt8) (w : World) (hB : Bs w A n l) (hnc : n ≤ c) (hT : Tab 2 w) (hn : n ≤ 1152921504606846976) (h64 : 64 < n) :
    Calls Tryd.prog 59 #[.slice A n c] w fun e w' => e = .returned (.agg (bcells (padTo (sumL l)))) ∧ Below w.heap.size w w' := by
  have hb0 := ((Below.refl w.heap.size w).alloc (Nat.le_refl _) (.cells lit64 90)).alloc (by simp) (.cells lit64 90)
  have HSum := Lib.hid (Sum_any A n c l _ (hB.below hb0) hnc (hT.below hb0) hn)
  have hlt : (64 < (n : Int)) := by omega
  have HP := Lib.hid (spl_pad (sumL l) 32 (sumL_length l) (by omega))
  have HS := Lib.hid (show (bcells (padTo (sumL l))).size = 64 by rw [bcells_size, padTo_length _ (by rw [sumL_length]; omega)])
  have HS3 := Lib.hid (show (bcells (sumL l)).size = 32 by rw [bcells_size, sumL_length])
  have HL := Lib.hid (sumL_length l)
  have hcut := run_cut_all (P := Tryd.prog) Tryd.under44 Tryd.size5 (w.heap.size + 1) 0
  have hcut2 := run_cut_all (P := Tryd.prog) Tryd.underlying24' Tryd.size5
  generalize sumL l = S at *
  clear hB hT
  go_enter Tryd.func59, Tryd.ntmps59
  go_wp2_with (first
    | (go_at_call 32; refine HSum.out.mono ?_; rintro e1 w1 ⟨rfl, hb1⟩; have hs1 := hb1.size; have HZ1 := Lib.hid (((Row.new w 90 lit64).alloc (.cells lit64 90)).below hb1 (by simp; omega)); have HY1 := Lib.hid ((Row.new1 w (.cells lit64 90) 90 lit64).below hb1 (by simp)))
    | (with_reducible refine wpList_store_row Tryd.agg25 rfl (.tmp 4) (.tmp 9) rfl _ _ rfl rfl 23 lit32 (Row.new w1 23 lit32) HS3.out lit32_size (bcells_one _) ?_; intro w2 hr2 ho2; have HR2 := Lib.hid (hr2.bsB HL.out); have HZ2 := Lib.hid ((HZ1.out.alloc _).only ho2 (by simp at hs1; omega)); have HY2 := Lib.hid ((HY1.out.alloc _).only ho2 (by simp at hs1; omega)); clear hr2)
    | (with_reducible refine wpList_copyB Tryd.byteTypes rfl (.tmp 11) (.tmp 12) rfl (w.heap.size + 1) 0 64 64 _ 32 32 rfl rfl S 90 lit64 HY2.out HR2.out (by decide) ?_; intro w3 hr3 ho3; rw [HP.out] at hr3; have HR3 := Lib.hid hr3; have HZ3 := Lib.hid (HZ2.out.only ho3 (by omega)); clear hr3)
    | (with_reducible refine wpList_load_row Tryd.agg44 rfl (.tmp 3) rfl _ rfl 90 _ HR3.out HS.out ?_)
    | (with_reducible refine wpList_store_row Tryd.agg44 rfl (.tmp 2) (.tmp 14) rfl _ _ rfl rfl 90 lit64 HZ3.out HS.out lit64_size (bcells_one _) ?_; intro w9 hr9 ho9; have HR9 := Lib.hid hr9; clear hr9))
  refine bodyPost_ret (results_row1 Tryd.agg44 Tryd.results59 rfl HR9.out HS.out) rfl ⟨rfl, ?_⟩
  have hs2 := ho2.size
  have hs3 := ho3.size
  simp at hs1 hs2
  have hb2 : Below w.heap.size w w1 := hb0.trans (hb1.mono (by simp; omega))
  exact (((hb2.alloc hb2.size _).trans (ho2.below (by omega) (by simp; omega))).trans (ho3.below (by omega) (by omega))).trans (ho9.below (by omega) (by omega))
theorem blockOf_any (A : Option Addr) (n c : Nat) (l : List UInt8) (w : World) (hB : Bs w A n l) (hnc : n ≤ c) (hT : Tab 2 w) (hn : n ≤ 1152921504606846976) :
    Calls Tryd.prog 59 #[.slice A n c] w fun e w' => e = .returned (.agg (bcells (padK l))) ∧ Below w.heap.size w w' := by
  unfold padK keyL
  by_cases h : 64 < l.length
  · rw [if_pos h]; exact blockOf_long A n c l w hB hnc hT hn (by rw [← hB.1]; exact h)
  · rw [if_neg h]; exact blockOf_short A n c l w hB (by rw [← hB.1]; omega)
end Go.Proofs.YtghihgmgadaoeaaDoor
