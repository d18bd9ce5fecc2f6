/-
  Both readers, asked the same: the same answer, and they stand at the same bytes. Digests that are the same.
-/
import Derived.Test.YtjifahocfbbicaaRefRdb
import Derived.ChangeKeysEq
namespace Go.Proofs.Ytjifahocfbbicaa
open Go.RowKit
theorem run_items_same {P : Program} (w : World) (d : Nat) {e : TypeId} {k : IntKind} (he : P.plainKey e = true) (hk : P.underlying e = some (.int k)) (xs : Array Value) : ∀ (is : List Nat), (∀ j ∈ is, ∃ (kk : IntKind) (z : Int), xs[j * P.cellsOf e]? = some (.int kk z)) → (Op.eqItems (d + 1) e (P.cellsOf e) xs xs is).run P w = .ok true w
  | [], _ => by simp [Op.eqItems]
  | j :: is, h => by
    obtain ⟨kk, z, hz⟩ := h j (by simp)
    have hp := run_part_plain (P := P) w he hz
    have hq := run_equalIn_int (P := P) w d e kk k z z hk
    have ih := run_items_same w d he hk xs is (fun i hi => h i (by simp [hi]))
    simp [Op.eqItems, Sem.run_bind, hp, hq, ih]
theorem run_eq_same {P : Program} (w : World) {t e : TypeId} {n : Nat} {i : TypeInfo} {k : IntKind} (hu : P.underlying t = some (.array n e)) (hi : P.info? e = some i) (he : P.plainKey e = true) (hk : P.underlying e = some (.int k)) (h1 : P.cellsOf e = 1)
    (xs : Array Value) (h : ∀ j, j < n → ∃ (kk : IntKind) (z : Int), xs[j]? = some (.int kk z)) : (Op.equalIn 10000 t (.agg xs) (.agg xs)).run P w = .ok true w := by
  rw [run_equalIn_array w 9999 xs xs hu hi]
  exact run_items_same w 9998 he hk xs _ (fun j hj => by rw [h1, Nat.mul_one]; exact h j (by simpa using hj))
theorem Try.info5 : ∃ i, Try.prog.info? 5 = some i := by
  have h := Try.size5
  cases hq : Try.prog.info? 5 with
  | none => rw [hq] at h; cases h
  | some i => exact ⟨i, rfl⟩
/-- two digests that are the same -/
theorem eq_digest (l : List UInt8) (hl : l.length = 32) (w : World) : (Op.equalIn 10000 45 (.agg (bcells l)) (.agg (bcells l))).run Try.prog w = .ok true w := by
  obtain ⟨i, hi⟩ := Try.info5
  exact run_eq_same w Try.under45 hi (by kernel_rfl) Try.underlying5 (by kernel_rfl) _ (fun j hj => ⟨_, _, bcells_get l j (by omega)⟩)
theorem rdTexts_le (each : Int) : ∀ k b, (rdTexts each k b).1 = 0 → k ≤ b.length
  | 0, b, _ => Nat.zero_le _
  | k + 1, b, h => by
    unfold rdTexts at h
    split at h
    · rename_i h1
      split at h
      · rename_i h2
        have h3 := rdTexts_le each k _ h2
        have h4 := (rdText_ok b each).1 h1
        have h5 := rdText_size b each
        rw [List.length_drop] at h3
        omega
      · rename_i h2
        exact absurd h h2
    · rename_i h1
      exact absurd h h1
theorem sList_le (E : Int) (l : List UInt8) (most each : Int) : (sList E l most each).2.1.length ≤ l.length ∧ ∀ t ∈ (sList E l most each).2.1, t.length ≤ l.length := by
  unfold sList
  split
  · rcases rdList_cases l most each with ⟨_, h⟩ | ⟨h1, h2, h⟩
    · rw [h]; simp
    · rw [h]
      simp only
      obtain ⟨k1, k2⟩ := rdTexts_count each _ _ h2
      have k3 := rdTexts_le each _ _ h2
      rw [List.length_drop] at k3
      refine ⟨by omega, fun t ht => ?_⟩
      have := k2 t ht
      rw [List.length_drop] at this
      omega
  · simp
theorem drop_le {l : List UInt8} (h : l.length ≤ 2000) (s : Nat) : (l.drop s).length ≤ 2000 := by rw [List.length_drop]; omega
theorem num_pair (g1 b1 g2 b2 : Nat) (E : Int) (l : List UInt8) (M : Int) (hl : l.length ≤ 2000) (h0 : 0 ≤ M) (hM : M < 18446744073709551616) : ∃ (V : Nat) (E2 : Int) (l2 : List UInt8), l2.length ≤ 2000 ∧
    (∀ w, Rdr w 61 g1 b1 E l → Calls Try.prog 22 #[.pointer (some ⟨g1, 0, none⟩), .int .u64 M] w fun e w' => e = .returned (.int .u64 (V : Int)) ∧ Rdr w' 61 g1 b1 E2 l2 ∧ Only g1 w w') ∧
    (∀ w, Rdr w 38 g2 b2 E l → Calls Try.prog 23 #[.pointer (some ⟨g2, 0, none⟩), .int .u64 M] w fun e w' => e = .returned (.int .u64 (V : Int)) ∧ Rdr w' 38 g2 b2 E2 l2 ∧ Only g2 w w') :=
  ⟨_, _, _, drop_le hl (sNum E l M).2.2, fun w h => RNum_any g1 b1 E l M w h (by omega) h0 hM, fun w h => RefRNum_any g2 b2 E l M w h (by omega)⟩
theorem text_pair (g1 b1 g2 b2 : Nat) (E : Int) (l : List UInt8) (M : Int) (hl : l.length ≤ 2000) (h0 : -9223372036854775808 ≤ M) (hM : M < 9223372036854775808) : ∃ (n : Nat) (T : List UInt8) (E2 : Int) (l2 : List UInt8), n ≤ 2000 ∧ l2.length ≤ 2000 ∧
    (∀ w, Rdr w 61 g1 b1 E l → Calls Try.prog 24 #[.pointer (some ⟨g1, 0, none⟩), .int .i64 M] w fun e w' => ∃ A c, e = .returned (.slice A n c) ∧ Own w' w.heap.size 5 (.slice A n c) n T ∧ Rdr w' 61 g1 b1 E2 l2 ∧ Only g1 w w') ∧
    (∀ w, Rdr w 38 g2 b2 E l → Calls Try.prog 25 #[.pointer (some ⟨g2, 0, none⟩), .int .i64 M] w fun e w' => ∃ A c, e = .returned (.slice A n c) ∧ Own w' w.heap.size 5 (.slice A n c) n T ∧ Rdr w' 38 g2 b2 E2 l2 ∧ Only g2 w w') := by
  refine ⟨_, (sText E l M).2.1, (sText E l M).1, l.drop (sText E l M).2.2, ?_, drop_le hl _, fun w h => (RText_any g1 b1 E l M w h (by omega) hM).mono fun e w' ⟨A, c, h1, _, h3, h4, h5⟩ => ⟨A, c, h1, h3, h4, h5⟩, fun w h => (RefText_r g2 b2 E l M w h (by omega) hM h0).mono fun e w' ⟨A, c, h1, _, h3, h4, h5⟩ => ⟨A, c, h1, h3, h4, h5⟩⟩
  unfold sText
  split
  · exact Nat.le_trans (rdText_len l M) hl
  · simp
theorem list_pair (g1 b1 g2 b2 : Nat) (E : Int) (l : List UInt8) (M : Int) (hl : l.length ≤ 2000) (h0 : -9223372036854775808 ≤ M) (hM : M < 9223372036854775808) : ∃ (n : Nat) (L : List (List UInt8)) (E2 : Int) (l2 : List UInt8), n ≤ 2000 ∧ (∀ t ∈ L, t.length ≤ 1000000) ∧ l2.length ≤ 2000 ∧
    (∀ w, Rdr w 61 g1 b1 E l → Calls Try.prog 27 #[.pointer (some ⟨g1, 0, none⟩), .int .i64 M, .int .i64 50] w fun e w' => ∃ A c, e = .returned (.slice A n c) ∧ OwnL w' w.heap.size (.slice A n c) n L ∧ Rdr w' 61 g1 b1 E2 l2 ∧ Only g1 w w') ∧
    (∀ w, Rdr w 38 g2 b2 E l → Calls Try.prog 28 #[.pointer (some ⟨g2, 0, none⟩), .int .i64 M, .int .i64 50] w fun e w' => ∃ A c, e = .returned (.slice A n c) ∧ OwnL w' w.heap.size (.slice A n c) n L ∧ Rdr w' 38 g2 b2 E2 l2 ∧ Only g2 w w') := by
  have hb := sList_le E l M 50
  exact ⟨_, (sList E l M 50).2.1, (sList E l M 50).1, l.drop (sList E l M 50).2.2, Nat.le_trans hb.1 hl, fun t ht => by have := hb.2 t ht; omega, drop_le hl _, fun w h => (RList_any g1 b1 E l M 50 w h (by omega) hM (by omega)).mono fun e w' ⟨A, c, h1, _, h3, h4, h5⟩ => ⟨A, c, h1, h3, h4, h5⟩, fun w h => (RefList_r g2 b2 E l M 50 w h (by omega) hM h0 (by omega) (by omega)).mono fun e w' ⟨A, c, h1, _, h3, h4, h5⟩ => ⟨A, c, h1, h3, h4, h5⟩⟩
theorem byte_pair (g1 b1 g2 b2 : Nat) (E : Int) (l : List UInt8) (hl : l.length ≤ 2000) : ∃ (V : Nat) (E2 : Int) (l2 : List UInt8), l2.length ≤ 2000 ∧
    (∀ w, Rdr w 61 g1 b1 E l → Calls Try.prog 29 #[.pointer (some ⟨g1, 0, none⟩)] w fun e w' => e = .returned (.int .u8 (V : Int)) ∧ Rdr w' 61 g1 b1 E2 l2 ∧ Only g1 w w') ∧
    (∀ w, Rdr w 38 g2 b2 E l → Calls Try.prog 30 #[.pointer (some ⟨g2, 0, none⟩)] w fun e w' => e = .returned (.int .u8 (V : Int)) ∧ Rdr w' 38 g2 b2 E2 l2 ∧ Only g2 w w') :=
  ⟨_, _, _, drop_le hl (sFill E l 1).2.2, fun w h => Byte_any g1 b1 E l w h, fun w h => RefByte_any g2 b2 E l w h (by omega)⟩
theorem digest_pair (g1 b1 g2 b2 : Nat) (E : Int) (l : List UInt8) (hl : l.length ≤ 2000) : ∃ (D : Array Value) (E2 : Int) (l2 : List UInt8), l2.length ≤ 2000 ∧ (∀ w, (Op.equalIn 10000 45 (.agg D) (.agg D)).run Try.prog w = .ok true w) ∧
    (∀ w, Rdr w 61 g1 b1 E l → Calls Try.prog 31 #[.pointer (some ⟨g1, 0, none⟩)] w fun e w' => e = .returned (.agg D) ∧ Rdr w' 61 g1 b1 E2 l2 ∧ Only g1 w w') ∧
    (∀ w, Rdr w 38 g2 b2 E l → Calls Try.prog 32 #[.pointer (some ⟨g2, 0, none⟩)] w fun e w' => e = .returned (.agg D) ∧ Rdr w' 38 g2 b2 E2 l2 ∧ Only g2 w w') :=
  ⟨_, _, _, drop_le hl (sFill E l 32).2.2, eq_digest _ (sFill_length E l 32), fun w h => Digest_any g1 b1 E l w h, fun w h => RefDigest_any g2 b2 E l w h (by omega)⟩
theorem end_pair (g1 b1 g2 b2 : Nat) (E : Int) (l : List UInt8) : ∃ (E2 : Int),
    (∀ w, Rdr w 61 g1 b1 E l → Calls Try.prog 33 #[.pointer (some ⟨g1, 0, none⟩)] w fun e w' => e = .returned (.int .i64 E2) ∧ Rdr w' 61 g1 b1 E2 l ∧ Only g1 w w') ∧
    (∀ w, Rdr w 38 g2 b2 E l → Calls Try.prog 34 #[.pointer (some ⟨g2, 0, none⟩)] w fun e w' => e = .returned (.int .i64 E2) ∧ Rdr w' 38 g2 b2 E2 l ∧ Only g2 w w') :=
  ⟨_, fun w h => REnd_any g1 b1 E l w h, fun w h => RefEnd_any g2 b2 E l w h⟩
end Go.Proofs.Ytjifahocfbbicaa
