/-
  What sha.Sum answers: the sum; that of abc begins as the document says (juratlaw02.awake); a nil hash; a block that has not 64 bytes; arrays of integers that are the same.
-/
import Derived.Test.YtiidcnjhjojhoaaDoorHSum
import Derived.Deep.RegionHeld3
import Derived.ChangeKeysEq
namespace Go.Proofs.YtiidcnjhjojhoaaDoor
open Go.RowKit
theorem sum_facts (w : World) (cs : Array Value) (w2 : World) (hs : cs.size = 32) (hb : Below (w.alloc (.cells cs 24)).heap.size (w.alloc (.cells cs 24)) w2) : ∃ zs : Array Value, zs.size = 32 ∧ Row w2 w.heap.size 24 zs ∧ Below w.heap.size w w2 ∧ w.heap.size < w2.heap.size := by
  have h := hb.size
  simp at h
  exact ⟨cs, hs, (Row.new w 24 cs).below hb (by simp), ((Below.refl _ _).alloc (Nat.le_refl _) _).trans (hb.mono (by simp)), by omega⟩
theorem run_items_same {P : Program} (w : World) (d : Nat) {e : TypeId} {k : IntKind} (he : P.plainKey e = true) (hk : P.underlying e = some (.int k)) (xs : Array Value) : ∀ (is : List Nat), (∀ j ∈ is, ∃ (kk : IntKind) (z : Int), xs[j * P.cellsOf e]? = some (.int kk z)) → (Op.eqItems (d + 1) e (P.cellsOf e) xs xs is).run P w = .ok true w
  | [], _ => by simp [Op.eqItems]
  | j :: is, h => by
    obtain ⟨kk, z, hz⟩ := h j (by simp)
    have hp := run_part_plain (P := P) w he hz
    have hq := run_equalIn_int (P := P) w d e kk k z z hk
    have ih := run_items_same w d he hk xs is (fun i hi => h i (by simp [hi]))
    simp [Op.eqItems, Sem.run_bind, hp, hq, ih]
theorem run_eq_same {P : Program} (w : World) {t e : TypeId} {n : Nat} {i : TypeInfo} {k : IntKind} (hu : P.underlying t = some (.array n e)) (hi : P.info? e = some i) (he : P.plainKey e = true) (hk : P.underlying e = some (.int k)) (h1 : P.cellsOf e = 1)
    (xs : Array Value) (h : ∀ j, j < n → ∃ (kk : IntKind) (z : Int), xs[j]? = some (.int kk z)) : (Op.equalIn 10000 t (.agg xs) (.agg xs)).run P w = .ok true w := by
  rw [run_equalIn_array w 9999 xs xs hu hi]
  exact run_items_same w 9998 he hk xs _ (fun j hj => by rw [h1, Nat.mul_one]; exact h j (by simpa using hj))
theorem Tryd.info5 : ∃ i, Tryd.prog.info? 5 = some i := by
  have h := Tryd.size5
  cases hq : Tryd.prog.info? 5 with
  | none => rw [hq] at h; cases h
  | some i => exact ⟨i, rfl⟩
theorem Tryd.info28 : ∃ i, Tryd.prog.info? 56 = some i := by
  have h : (Tryd.prog.info? 56).map (·.size) = some 1 := by kernel_rfl
  cases hq : Tryd.prog.info? 56 with
  | none => rw [hq] at h; cases h
  | some i => exact ⟨i, rfl⟩
/-- two digests that are the same -/
theorem eq_digest (l : List UInt8) (hl : l.length = 32) (w : World) : (Op.equalIn 10000 24 (.agg (bcells l)) (.agg (bcells l))).run Tryd.prog w = .ok true w := by
  obtain ⟨i, hi⟩ := Tryd.info5
  exact run_eq_same w Tryd.underlying24' hi (by kernel_rfl) Tryd.underlying5 (by kernel_rfl) _ (fun j hj => ⟨_, _, bcells_get l j (by omega)⟩)
/-- eight words that are the same -/
theorem eq_words (s : S8) (w : World) : (Op.equalIn 10000 57 (v8 s) (v8 s)).run Tryd.prog w = .ok true w := by
  obtain ⟨i, hi⟩ := Tryd.info28
  exact run_eq_same w Tryd.underlying57 hi (by kernel_rfl) Tryd.underlying56 (by kernel_rfl) _ (fun j hj => ⟨_, _, v8_get s j hj⟩)
theorem abc : (sumL [97, 98, 99]).getD 0 0 = 186 ∧ (sumL [97, 98, 99]).getD 1 0 = 120 ∧ (sumL [97, 98, 99]).getD 31 0 = 173 := by decide +kernel
theorem abc_new (w : World) : Bs (w.alloc (.cells #[.int .u8 97, .int .u8 98, .int .u8 99] 5)) (some ⟨w.heap.size, 0, none⟩) 3 [97, 98, 99] := by
  refine lit_new w 5 _ 3 [97, 98, 99] rfl rfl ?_ (by omega)
  intro j x hx
  rcases j with _ | _ | _ | j
  · simp at hx; subst hx; rfl
  · simp at hx; subst hx; rfl
  · simp at hx; subst hx; rfl
  · simp at hx
abbrev lit32 : Array Value := #[.int .u8 0, .int .u8 0, .int .u8 0, .int .u8 0, .int .u8 0, .int .u8 0, .int .u8 0, .int .u8 0, .int .u8 0, .int .u8 0, .int .u8 0, .int .u8 0, .int .u8 0, .int .u8 0, .int .u8 0, .int .u8 0, .int .u8 0, .int .u8 0, .int .u8 0, .int .u8 0, .int .u8 0, .int .u8 0, .int .u8 0, .int .u8 0, .int .u8 0, .int .u8 0, .int .u8 0, .int .u8 0, .int .u8 0, .int .u8 0, .int .u8 0, .int .u8 0]
theorem lit32_size : lit32.size = 32 := rfl
theorem abc_cell (j : Nat) (hj : j < 32) (x : UInt8) (z : Int) (h : (sumL [97, 98, 99]).getD j 0 = x) (hz : (x.toNat : Int) = z) : (bcells (sumL [97, 98, 99]))[j]? = some (.int .u8 z) := by
  rw [bcells_get _ j (by rw [sumL_length]; exact hj), h, hz]
theorem lit32_zero : lit32 = bcells zero32 := rfl
theorem lit32_one : lit32.all (·.oneCell') = true := by rw [lit32_zero]; exact bcells_one _
set_option maxRecDepth 100000 in
set_option maxHeartbeats 400000 in
theorem HSum_nil (w : World) : Calls Tryd.prog 28 #[.pointer none] w fun e w' => e = .returned (.agg lit32) ∧ Below w.heap.size w w' := by
  go_enter Tryd.func28, Tryd.ntmps28
  go_wp2_with (with_reducible refine wpList_store_row Tryd.agg25 rfl (.tmp 2) (.tmp 8) rfl _ _ rfl rfl 24 lit32 (Row.new w 24 lit32) lit32_size lit32_size lit32_one ?_; intro w9 hr9 ho9; have HR9 := Lib.hid hr9; clear hr9)
  exact bodyPost_ret (results_row1 Tryd.agg25 Tryd.results28 rfl HR9.out lit32_size) rfl ⟨rfl, ((Below.refl _ _).alloc (Nat.le_refl _) _).trans (ho9.below (Nat.le_refl _) (by simp))⟩
end Go.Proofs.YtiidcnjhjojhoaaDoor
