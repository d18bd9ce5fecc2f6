/-
  What the program and the document make of a record: the first eight bytes of a sum, a record's frame. A copy of bytes.
-/
import Derived.Test.YtgiobcpljbpmiaaDoorFrP
import Derived.Test.YtgiobcpljbpmiaaDoorWireB
import Derived.Test.YtgiobcpljbpmiaaDoorDby
import Derived.Deep.MidRow
namespace Go.Proofs.YtgiobcpljbpmiaaDoor
open Go.RowKit
section
variable {P : Program}
/-- 'arr[:h]' of an array of bytes -/
theorem run_cut_to {t e : TypeId} {n : Nat} (ht : P.underlying t = some (.array n e)) (he : (P.info? e).map (·.size) = some 1) (G h : Nat) (z : Int) (hz : z = h) (hh : h ≤ n) (w : World) :
    (Instr.sliceAt t (.pointer (some ⟨G, 0, none⟩)) none (some (.int .i64 z)) none).run P w = .ok (.slice (some ⟨G, 0, none⟩) h n) w := by
  subst hz
  have hs : (sizeOf e).run P w = .ok 1 w := by
    cases hq : P.info? e with
    | none => simp [hq] at he
    | some i => simp [hq] at he; simp [sizeOf, typeInfo, hq, he]
  have h1 : (h : Int) ≤ n := by omega
  simp [Instr.sliceAt, Instr.sureAddr, run_underlying ht, Instr.sliceBounds, run_sliceBound, hs, h1, Addr.add_mid]
/-- '[n]byte(b)': where the array lies -/
theorem run_arrayAt {t e : TypeId} {n : Nat} (ht : P.underlying t = some (.array n e)) (A : Option Addr) (len c : Nat) (h : n ≤ len) (w : World) : (Instr.arrayAt t (.slice A len c)).run P w = .ok (.pointer A) w := by
  have h1 : ¬ len < n := by omega
  simp [Instr.arrayAt, run_underlying ht, h1]
end
theorem Tryd.under41' : Tryd.prog.underlying 119 = some (.array 8 5) := by kernel_rfl
theorem Tryd.agg41 : AggType Tryd.prog 119 8 := ⟨_, Tryd.under41', rfl, by kernel_rfl⟩
theorem Tryd.size41 : (Tryd.prog.info? 119).map (·.size) = some 8 := by kernel_rfl
abbrev lit8 : Array Value := #[.int .u8 0, .int .u8 0, .int .u8 0, .int .u8 0, .int .u8 0, .int .u8 0, .int .u8 0, .int .u8 0]
theorem Row.rangeTo {w : World} {g : Nat} {t : TypeId} {l : List UInt8} (h : Row w g t (bcells l)) (k : Nat) : w.rangeAt g 0 ((l.take k).map bcell) := fun j v hv => by
  rw [Nat.zero_add, h.cell j, bcells_get?]
  rw [List.getElem?_map, List.getElem?_take] at hv
  split at hv
  · exact hv
  · cases hv
set_option maxRecDepth 100000 in
set_option maxHeartbeats 1000000 in
theorem sumOf_any (A : Option Addr) (n c : Nat) (l : List UInt8) (w : World) (hB : Bs w A n l) (hnc : n ≤ c) (hT : Tab 2 w) (hn : n ≤ 1152921504606846976) :
    Calls Tryd.prog 78 #[.slice A n c] w fun e w' => e = .returned (.agg (bcells (sum8 l))) ∧ Below w.heap.size w w' := by
  have HB := Lib.hid hB
  have HT := Lib.hid hT
  have HS := Lib.hid (fun w hB hT => show Calls Tryd.prog 88 #[.slice A n c] w fun e w' => e = .returned (.agg (bcells (sumL l))) ∧ Below w.heap.size w w' from Sum_any A n c l w hB hnc hT hn)
  have HL := Lib.hid (sumL_length l)
  have HE := Lib.hid (show sum8 l = (sumL l).take 8 from rfl)
  have HL8 := Lib.hid (show (bcells (sum8 l)).size = 8 by rw [bcells_size, sum8_length])
  have hcut := fun G W => run_cut_to (P := Tryd.prog) Tryd.underlying24' Tryd.size5 G 8 8 rfl (by omega) W
  have harr := fun A W => run_arrayAt (P := Tryd.prog) Tryd.under41' A 8 32 (Nat.le_refl _) W
  have hb0 : Below w.heap.size w (w.alloc (.cells lit8 119)) := (Below.refl _ _).alloc (Nat.le_refl _) _
  have HZ0 := Lib.hid (Row.new w 119 lit8)
  generalize sumL l = S at *
  generalize sum8 l = R at *
  clear hB hT
  go_enter Tryd.func78, Tryd.ntmps78
  go_wp2_with (first
    | (go_at_call 88; refine (HS.out _ (HB.out.below hb0) (HT.out.below hb0)).mono ?_; rintro e1 w1 ⟨rfl, hb1⟩; have hs1 := hb1.size; simp at hs1; have hb1' := hb0.trans (hb1.mono (by simp)); have HZ1 := Lib.hid ((HZ0.out.below hb1 (by simp)).alloc (.cells lit32 104)); have HD1 := Lib.hid (Row.new w1 104 lit32); have hb2' := hb1'.alloc hb1'.size (.cells lit32 104))
    | ((with_reducible refine wpList_store_row Tryd.agg25 rfl (.tmp 3) (.tmp 5) rfl _ _ rfl rfl 104 lit32 HD1.out ?hsz lit32_size (bcells_one _) ?_); rotate_left; intro w3 hr3 ho3; have HR3 := Lib.hid hr3; have HZ3 := Lib.hid (HZ1.out.only ho3 (by omega)); have hs3 := ho3.size; simp at hs3; have hb3' := hb2'.trans (ho3.below (B := w.heap.size) (by omega) (by simp <;> omega)); clear hr3)
    | ((with_reducible refine wpList_load_mid rfl 119 (.tmp 7) rfl w1.heap.size 0 rfl ((S.take 8).map bcell) _ ?hcell Tryd.under41' rfl ?hsize ?_); rotate_left; rotate_left)
    | ((with_reducible refine wpList_store_row Tryd.agg41 rfl (.tmp 2) (.tmp 8) rfl _ (bcells R) rfl ?heq 119 lit8 HZ3.out HL8.out rfl (bcells_one _) ?_); rotate_left; intro w9 hr9 ho9; have HR9 := Lib.hid hr9; clear hr9))
  · refine bodyPost_ret (results_row1 Tryd.agg41 Tryd.results78 rfl HR9.out HL8.out) rfl ⟨rfl, ?_⟩
    exact hb3'.trans (ho9.below (by omega) hb3'.size)
  case hsz => rw [bcells_size, HL.out]
  case heq => rw [HE.out]; simp [bcells]
  case hsize => rw [Tryd.size41, List.length_map, List.length_take, HL.out]; rfl
  case hcell => exact HR3.out.rangeTo 8
end Go.Proofs.YtgiobcpljbpmiaaDoor
