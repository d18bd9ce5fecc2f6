/-
  A hash in memory: its cells (eight words, 64 bytes of a block that isn't whole yet, the count), and that it is of the message m. Nothing of the program's functions is named here. No conditions.
-/
import Derived.Test.YtiidcnjhjojhoaaDoorRefBlock
import Derived.Test.YtiidcnjhjojhoaaDoorCopy
namespace Go.Proofs.YtiidcnjhjojhoaaDoor
open Go.RowKit
def hcells (s : S8) (P : List UInt8) (n : Nat) : Array Value :=
  (([.int .u32 s.a, .int .u32 s.b, .int .u32 s.c, .int .u32 s.d, .int .u32 s.e, .int .u32 s.f, .int .u32 s.g, .int .u32 s.h] : List Value) ++ (P.map bcell ++ [Value.int .i64 (n : Int)])).toArray
theorem hcells_size (s : S8) (P : List UInt8) (n : Nat) : (hcells s P n).size = P.length + 9 := by simp [hcells]
theorem list8_get (s : S8) (j : Nat) (h : j < 8) : ([.int .u32 s.a, .int .u32 s.b, .int .u32 s.c, .int .u32 s.d, .int .u32 s.e, .int .u32 s.f, .int .u32 s.g, .int .u32 s.h] : List Value)[j]? = some (.int .u32 (s.at j)) := by
  have := v8_get s j h
  rwa [List.getElem?_toArray] at this
theorem hcells_word (s : S8) (P : List UInt8) (n j : Nat) (h : j < 8) : (hcells s P n)[j]? = some (.int .u32 (s.at j)) := by
  unfold hcells
  rw [List.getElem?_toArray, List.getElem?_append_left (by simp; omega)]
  exact list8_get s j h
theorem hcells_byte (s : S8) (P : List UInt8) (n j : Nat) (h : j < P.length) : (hcells s P n)[8 + j]? = (P[j]?).map bcell := by
  unfold hcells
  rw [List.getElem?_toArray, List.getElem?_append_right (by simp)]
  rw [List.getElem?_append_left (by simp; omega), List.getElem?_map]
  congr 2
  simp
theorem hcells_count (s : S8) (P : List UInt8) (n : Nat) : (hcells s P n)[8 + P.length]? = some (.int .i64 (n : Int)) := by
  unfold hcells
  rw [List.getElem?_toArray, List.getElem?_append_right (by simp)]
  rw [List.getElem?_append_right (by simp)]
  simp
theorem hcells_one (s : S8) (P : List UInt8) (n : Nat) : (hcells s P n).all (·.oneCell') = true := by
  unfold hcells
  refine all_oneCell_toArray fun v hv => ?_
  rcases List.mem_append.1 hv with h | h
  · simp at h
    rcases h with rfl | rfl | rfl | rfl | rfl | rfl | rfl | rfl <;> rfl
  · rcases List.mem_append.1 h with h | h
    · obtain ⟨x, _, rfl⟩ := List.mem_map.1 h; rfl
    · simp at h; subst h; rfl
/-- bytes laid over the part -/
theorem hcells_spl (s : S8) (P l : List UInt8) (n r : Nat) (h : r + l.length ≤ P.length) : spl (hcells s P n) (8 + r) l = hcells s (splice P r l) n := by
  unfold spl hcells splice
  simp only [List.map_append, List.map_take, List.map_drop, List.length_map]
  congr 1
  have e8 : ([.int .u32 s.a, .int .u32 s.b, .int .u32 s.c, .int .u32 s.d, .int .u32 s.e, .int .u32 s.f, .int .u32 s.g, .int .u32 s.h] : List Value).length = 8 := rfl
  generalize ([.int .u32 s.a, .int .u32 s.b, .int .u32 s.c, .int .u32 s.d, .int .u32 s.e, .int .u32 s.f, .int .u32 s.g, .int .u32 s.h] : List Value) = L at *
  rw [List.take_append, List.drop_append, List.take_append, List.drop_append]
  simp only [e8, List.length_map]
  rw [List.take_of_length_le (by omega), List.drop_eq_nil_of_le (by omega)]
  rw [show 8 + r - 8 = r by omega, show 8 + r + l.length - 8 = r + l.length by omega]
  rw [show r - P.length = 0 by omega, show r + l.length - P.length = 0 by omega]
  simp
/-- the count set anew -/
theorem hcells_set_count (s : S8) (P : List UInt8) (n m : Nat) (z : Int) (hz : z = m) : (hcells s P n).setIfInBounds (8 + P.length) (.int .i64 z) = hcells s P m := by
  subst hz
  apply Array.ext_getElem?
  intro j
  rw [Array.getElem?_setIfInBounds]
  by_cases e : 8 + P.length = j
  · subst e; rw [if_pos rfl, if_pos (by rw [hcells_size]; omega), hcells_count]
  · rw [if_neg e]
    by_cases h8 : j < 8
    · rw [hcells_word _ _ _ _ h8, hcells_word _ _ _ _ h8]
    · by_cases hp : j < 8 + P.length
      · obtain ⟨i, rfl⟩ : ∃ i, j = 8 + i := ⟨j - 8, by omega⟩
        rw [hcells_byte _ _ _ _ (by omega), hcells_byte _ _ _ _ (by omega)]
      · rw [Array.getElem?_eq_none (by rw [hcells_size]; omega), Array.getElem?_eq_none (by rw [hcells_size]; omega)]
/-- the words set anew -/
theorem hcells_set_words (s r : S8) (P : List UInt8) (n : Nat) :
    ((((((((hcells s P n).setIfInBounds 0 (.int .u32 r.a)).setIfInBounds 1 (.int .u32 r.b)).setIfInBounds 2 (.int .u32 r.c)).setIfInBounds 3 (.int .u32 r.d)).setIfInBounds 4 (.int .u32 r.e)).setIfInBounds 5 (.int .u32 r.f)).setIfInBounds 6 (.int .u32 r.g)).setIfInBounds 7 (.int .u32 r.h) = hcells r P n := by
  unfold hcells
  simp
/-- block g is a hash of the message m -/
def HashAt (w : World) (g : Nat) (m : List UInt8) : Prop :=
  ∃ P : List UInt8, P.length = 64 ∧ Row w g 61 (hcells (compN m (m.length / 64)) P m.length) ∧ P.take (m.length % 64) = m.drop (64 * (m.length / 64))
theorem HashAt.lt {w : World} {g : Nat} {m : List UInt8} (h : HashAt w g m) : g < w.heap.size := by obtain ⟨P, _, hr, _⟩ := h; exact hr.lt
theorem HashAt.only {w w' : World} {g k : Nat} {m : List UInt8} (h : HashAt w g m) (ho : Only k w w') (hne : g ≠ k) : HashAt w' g m := by
  obtain ⟨P, hp, hr, ht⟩ := h; exact ⟨P, hp, hr.only ho hne, ht⟩
theorem HashAt.below {w w' : World} {g : Nat} {m : List UInt8} (h : HashAt w g m) (hb : Below w.heap.size w w') : HashAt w' g m := by
  obtain ⟨P, hp, hr, ht⟩ := h; exact ⟨P, hp, hr.below hb hr.lt, ht⟩
theorem HashAt.alloc {w : World} {g : Nat} {m : List UInt8} (h : HashAt w g m) (o : Obj) : HashAt (w.alloc o) g m := by
  obtain ⟨P, hp, hr, ht⟩ := h; exact ⟨P, hp, hr.alloc o, ht⟩
/-- the part, with as many bytes as fit, or as there are, laid over it -/
theorem part_step (m l P : List UInt8) (k : Nat) (hP : P.length = 64) (ht : P.take (m.length % 64) = m.drop (64 * (m.length / 64))) (hk : k = Nat.min l.length (64 - m.length % 64)) :
    (splice P (m.length % 64) (l.take k)).length = 64 ∧ (splice P (m.length % 64) (l.take k)).take (m.length % 64 + k) = m.drop (64 * (m.length / 64)) ++ l.take k := by
  have h1 : k ≤ l.length := by rw [hk]; exact Nat.min_le_left _ _
  have h2 : k ≤ 64 - m.length % 64 := by rw [hk]; exact Nat.min_le_right _ _
  have hl : (l.take k).length = k := by rw [List.length_take]; omega
  refine ⟨by rw [length_splice _ _ _ (by omega)]; exact hP, ?_⟩
  unfold splice
  rw [← List.append_assoc, List.take_append_of_le_length (by simp; omega)]
  rw [List.take_of_length_le (by simp; omega), ht]
theorem hash_mid {w : World} {g : Nat} {m l P : List UInt8} {k : Nat} (hP : P.length = 64) (ht : P.take (m.length % 64) = m.drop (64 * (m.length / 64))) (hk : k = Nat.min l.length (64 - m.length % 64))
    (h0 : ¬ (m.length + k) % 64 = 0) (hr : Row w g 61 (hcells (compN m (m.length / 64)) (splice P (m.length % 64) (l.take k)) (m.length + k))) : HashAt w g (m ++ l.take k) := by
  obtain ⟨h1, h2⟩ := part_step m l P k hP ht hk
  have hkl : k ≤ l.length := by rw [hk]; exact Nat.min_le_left _ _
  have hk6 : k ≤ 64 - m.length % 64 := by rw [hk]; exact Nat.min_le_right _ _
  have hlen : (m ++ l.take k).length = m.length + k := by rw [List.length_append, List.length_take]; omega
  refine ⟨_, h1, ?_, ?_⟩
  · rw [hlen, show (m.length + k) / 64 = m.length / 64 by omega, compN_append _ _ _ (by omega)]; exact hr
  · rw [hlen, show (m.length + k) / 64 = m.length / 64 by omega, show (m.length + k) % 64 = m.length % 64 + k by omega, h2, List.drop_append_of_le_length (by omega)]
theorem hash_end {w : World} {g : Nat} {m l P : List UInt8} {k : Nat} (hP : P.length = 64) (ht : P.take (m.length % 64) = m.drop (64 * (m.length / 64))) (hk : k = Nat.min l.length (64 - m.length % 64)) (hpos : 0 < k)
    (h0 : (m.length + k) % 64 = 0) (hr : Row w g 61 (hcells (blockS (compN m (m.length / 64)) (splice P (m.length % 64) (l.take k))) (splice P (m.length % 64) (l.take k)) (m.length + k))) : HashAt w g (m ++ l.take k) := by
  obtain ⟨h1, h2⟩ := part_step m l P k hP ht hk
  have hkl : k ≤ l.length := by rw [hk]; exact Nat.min_le_left _ _
  have hk6 : k ≤ 64 - m.length % 64 := by rw [hk]; exact Nat.min_le_right _ _
  have hlen : (m ++ l.take k).length = m.length + k := by rw [List.length_append, List.length_take]; omega
  have hq : (m.length + k) / 64 = m.length / 64 + 1 := by omega
  have hall : m.length % 64 + k = 64 := by omega
  rw [hall, List.take_of_length_le (by omega)] at h2
  refine ⟨_, h1, ?_, ?_⟩
  · rw [hlen, hq, compN, compN_append _ _ _ (by omega), List.drop_append_of_le_length (by omega), ← h2, List.take_of_length_le (by omega)]; exact hr
  · rw [hlen, hq, h0, List.take_zero, List.drop_eq_nil_of_le (by omega)]
end Go.Proofs.YtiidcnjhjojhoaaDoor
