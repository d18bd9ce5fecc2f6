/-
  What the standard library's bits.Len and TrailingZeros answer: how many binary digits a number has, and how many zeros it ends with.
-/
import Derived.Test.YtbpbpdaohganaaaDoorSha
namespace Go.Proofs.YtbpbpdaohganaaaDoor
open Go.RowKit
/-- how many binary digits a number has -/
def lenN (n : Nat) : Nat := if n = 0 then 0 else Nat.log2 n + 1
theorem lenN_shift {n : Nat} (k : Nat) (h : 2 ^ k ≤ n) : lenN n = k + lenN (n / 2 ^ k) := by
  have hp : 0 < 2 ^ k := Nat.pos_of_ne_zero (by simp)
  have h0 : n ≠ 0 := by omega
  have h1 : n / 2 ^ k ≠ 0 := Nat.ne_of_gt (Nat.div_pos h hp)
  unfold lenN
  rw [if_neg h0, if_neg h1]
  obtain ⟨a, b⟩ := (Nat.log2_eq_iff (k := Nat.log2 (n / 2 ^ k)) h1).1 rfl
  have : Nat.log2 n = Nat.log2 (n / 2 ^ k) + k := by
    refine (Nat.log2_eq_iff h0).2 ⟨?_, ?_⟩
    · rw [Nat.pow_add]; exact (Nat.le_div_iff_mul_le hp).1 a
    · rw [show Nat.log2 (n / 2 ^ k) + k + 1 = Nat.log2 (n / 2 ^ k) + 1 + k by omega, Nat.pow_add]
      exact (Nat.div_lt_iff_lt_mul hp).1 b
  omega
theorem lt_lenN (k n : Nat) : k < lenN n ↔ n / 2 ^ k ≠ 0 := by
  have hp : 0 < 2 ^ k := Nat.pos_of_ne_zero (by simp)
  by_cases h0 : n = 0
  · subst h0; simp [lenN]
  · unfold lenN
    rw [if_neg h0]
    constructor
    · intro h
      have := Nat.log2_self_le h0
      exact Nat.ne_of_gt (Nat.div_pos (Nat.le_trans (Nat.pow_le_pow_right (by decide) (by omega)) this) hp)
    · intro h
      have h1 : 2 ^ k ≤ n := by
        by_cases hc : 2 ^ k ≤ n
        · exact hc
        · exact absurd (Nat.div_eq_of_lt (by omega)) h
      have := (Nat.le_log2 h0).2 h1
      omega
theorem lenN_le (n : Nat) (k : Nat) (h : n < 2 ^ k) : lenN n ≤ k := by
  by_cases hc : k < lenN n
  · exact absurd (Nat.div_eq_of_lt h) ((lt_lenN k n).1 hc)
  · omega
def L8 : List UInt8 := [0, 1, 2, 2, 3, 3, 3, 3, 4, 4, 4, 4, 4, 4, 4, 4, 5, 5, 5, 5, 5, 5, 5, 5, 5, 5, 5, 5, 5, 5, 5, 5, 6, 6, 6, 6, 6, 6, 6, 6, 6, 6, 6, 6, 6, 6, 6, 6, 6, 6, 6, 6, 6, 6, 6, 6, 6, 6, 6, 6, 6, 6, 6, 6, 7, 7, 7, 7, 7, 7, 7, 7, 7, 7, 7, 7, 7, 7, 7, 7, 7, 7, 7, 7, 7, 7, 7, 7, 7, 7, 7, 7, 7, 7, 7, 7, 7, 7, 7, 7, 7, 7, 7, 7, 7, 7, 7, 7, 7, 7, 7, 7, 7, 7, 7, 7, 7, 7, 7, 7, 7, 7, 7, 7, 7, 7, 7, 7, 8, 8, 8, 8, 8, 8, 8, 8, 8, 8, 8, 8, 8, 8, 8, 8, 8, 8, 8, 8, 8, 8, 8, 8, 8, 8, 8, 8, 8, 8, 8, 8, 8, 8, 8, 8, 8, 8, 8, 8, 8, 8, 8, 8, 8, 8, 8, 8, 8, 8, 8, 8, 8, 8, 8, 8, 8, 8, 8, 8, 8, 8, 8, 8, 8, 8, 8, 8, 8, 8, 8, 8, 8, 8, 8, 8, 8, 8, 8, 8, 8, 8, 8, 8, 8, 8, 8, 8, 8, 8, 8, 8, 8, 8, 8, 8, 8, 8, 8, 8, 8, 8, 8, 8, 8, 8, 8, 8, 8, 8, 8, 8, 8, 8, 8, 8, 8, 8, 8, 8, 8, 8, 8, 8, 8, 8, 8, 8]
theorem L8_get : ∀ k, k < 256 → (L8.getD k 0).toNat = lenN k := by decide +kernel
theorem L8_length : L8.length = 256 := by decide +kernel
theorem lenN_8 : ∀ k, k < 256 → lenN k ≤ 8 := fun k h => lenN_le k 8 h
theorem wpList_len8 {ops : Array Oper} {rest : List Oper} {o : Oper} {a : Act} {w : World} {Q : Exit → Act → World → Prop} (hgd : o.guard = none) (y : Operand) (s : ByteArray) (ho : o.op = .index 9 (.const (.string s)) y) (k : Nat)
    (hy : a.eval y = .int .u8 (k : Int)) (hk : k < 256) (hs : s.data.toList = L8)
    (h : wpList Tryd.prog ops Q rest (a.put o.dst (.int .u8 ((lenN k : Nat) : Int))) w) : wpList Tryd.prog ops Q (o :: rest) a w := by
  have e : s.size = 256 := by
    rw [← ByteArray.size_data, ← Array.length_toList, hs]; exact L8_length
  have hr : (Instr.index 9 (.string s) (.int .u8 (k : Int))).run Tryd.prog w = .ok (.int .u8 ((lenN k : Nat) : Int)) w := by
    rw [run_index_string w 9 s .u8 (k : Int) Tryd.underlying9, dif_pos ⟨by omega, by rw [e]; omega⟩]
    congr 3
    have hl : k < L8.length := by rw [L8_length]; exact hk
    have h1 : s.data.toList[k]? = some (L8.getD k 0) := by rw [hs, List.getD_eq_getElem?_getD, List.getElem?_eq_getElem hl]; rfl
    have h2 : s[((k : Int)).toNat]'(by rw [e]; omega) = L8.getD k 0 := by
      have h3 : s.data[k]? = some (L8.getD k 0) := by rw [← Array.getElem?_toList]; exact h1
      have h4 := Array.getElem?_eq_some_iff.1 h3
      obtain ⟨_, h5⟩ := h4
      exact h5
    rw [h2, L8_get k hk]
  refine wpList_plain hgd fun K hK => ?_
  unfold Oper.wp execOp
  simp only [ho, hy, Sem.run_bind]
  rw [show a.eval (.const (.string s)) = .string s from rfl, hr]
  exact hK _ _ h
theorem w64 (x : Int) (h0 : 0 ≤ x) (h1 : x ≤ 1000000) : wrap64 x = x := by unfold wrap64; omega
theorem fin8 (k : Int) (L : Nat) (h0 : 0 ≤ k) (h1 : k ≤ 56) (h : L ≤ 8) : Ending.returned (.int .i64 (wrap64 (k + wrap64 (L : Int)))) = Ending.returned (.int .i64 (k + (L : Int))) := by
  rw [w64 (L : Int) (by omega) (by omega), w64 _ (by omega) (by omega)]
theorem fin0 (L : Nat) (h : L ≤ 8) : Ending.returned (.int .i64 (wrap64 (wrap64 (L : Int)))) = Ending.returned (.int .i64 (L : Int)) := by
  rw [w64 (L : Int) (by omega) (by omega), w64 _ (by omega) (by omega)]
set_option maxRecDepth 1000000 in
theorem Len64_any (N : Nat) (w : World) (hN : N < 18446744073709551616) : Calls Tryd.prog 70 #[.int .u64 (N : Int)] w fun e w' => e = .returned (.int .i64 ((lenN N : Nat) : Int)) ∧ w = w' := by
  obtain ⟨N1, k1, hc1, hk1, hn1, hl1⟩ : ∃ N1 k1 : Nat, ((4294967296 ≤ N ∧ k1 = 32 ∧ (N : Int) / 4294967296 = (N1 : Int)) ∨ (N < 4294967296 ∧ k1 = 0 ∧ N = N1)) ∧ k1 ≤ 32 ∧ N1 < 4294967296 ∧ lenN N = k1 + lenN N1 := by
    by_cases h : 4294967296 ≤ N
    · exact ⟨N / 4294967296, 32, .inl ⟨h, rfl, by omega⟩, by omega, by omega, lenN_shift 32 h⟩
    · exact ⟨N, 0, .inr ⟨by omega, rfl, rfl⟩, by omega, by omega, by omega⟩
  obtain ⟨N2, k2, hc2, hk2, hn2, hl2⟩ : ∃ N2 k2 : Nat, ((65536 ≤ N1 ∧ k2 = 16 ∧ (N1 : Int) / 65536 = (N2 : Int)) ∨ (N1 < 65536 ∧ k2 = 0 ∧ N1 = N2)) ∧ k2 ≤ 16 ∧ N2 < 65536 ∧ lenN N1 = k2 + lenN N2 := by
    by_cases h : 65536 ≤ N1
    · exact ⟨N1 / 65536, 16, .inl ⟨h, rfl, by omega⟩, by omega, by omega, lenN_shift 16 h⟩
    · exact ⟨N1, 0, .inr ⟨by omega, rfl, rfl⟩, by omega, by omega, by omega⟩
  obtain ⟨N3, k3, hc3, hk3, hn3, hl3⟩ : ∃ N3 k3 : Nat, ((256 ≤ N2 ∧ k3 = 8 ∧ (N2 : Int) / 256 = (N3 : Int)) ∨ (N2 < 256 ∧ k3 = 0 ∧ N2 = N3)) ∧ k3 ≤ 8 ∧ N3 < 256 ∧ lenN N2 = k3 + lenN N3 := by
    by_cases h : 256 ≤ N2
    · exact ⟨N2 / 256, 8, .inl ⟨h, rfl, by omega⟩, by omega, by omega, lenN_shift 8 h⟩
    · exact ⟨N2, 0, .inr ⟨by omega, rfl, rfl⟩, by omega, by omega, by omega⟩
  have h8 := lenN_8 N3 hn3
  have hL : lenN N = k1 + k2 + k3 + lenN N3 := by omega
  rw [hL]
  obtain ⟨L, hLL⟩ : ∃ L, lenN N3 = L := ⟨_, rfl⟩
  have HL := Lib.hid hLL
  have hw : IntKind.u8.wrap (N3 : Int) = (N3 : Int) := by rw [IntKind.wrap_u8]; omega
  rw [hLL] at h8
  rw [hLL]
  clear hl1 hl2 hl3 hL hLL hN hn1 hn2
  rcases hc1 with ⟨ha, rfl, hda⟩ | ⟨ha, rfl, rfl⟩ <;> rcases hc2 with ⟨hb, rfl, hdb⟩ | ⟨hb, rfl, rfl⟩ <;> rcases hc3 with ⟨hc, rfl, hdc⟩ | ⟨hc, rfl, rfl⟩
  · have i1 : (4294967296 : Int) ≤ (N : Int) := by omega
    have i2 : (65536 : Int) ≤ (N1 : Int) := by omega
    have i3 : (256 : Int) ≤ (N2 : Int) := by omega
    have h3 := Lib.hid hn3
    clear hn3 hk1 hk2 hk3 ha hb hc
    go_enter Tryd.func70, Tryd.ntmps70
    go_wp2_with (with_reducible refine wpList_len8 rfl (.tmp 21) _ rfl N3 rfl h3.out (by kernel_rfl) ?_)
    go_ret
    refine ⟨?_, rfl⟩
    rw [HL.out]
    exact fin8 56 L (by decide) (by decide) h8
  · have i1 : (4294967296 : Int) ≤ (N : Int) := by omega
    have i2 : (65536 : Int) ≤ (N1 : Int) := by omega
    have i3 : ¬ (256 : Int) ≤ (N2 : Int) := by omega
    have h3 := Lib.hid hn3
    clear hn3 hk1 hk2 hk3 ha hb hc
    go_enter Tryd.func70, Tryd.ntmps70
    go_wp2_with (with_reducible refine wpList_len8 rfl (.tmp 21) _ rfl N2 rfl h3.out (by kernel_rfl) ?_)
    go_ret
    refine ⟨?_, rfl⟩
    rw [HL.out]
    exact fin8 48 L (by decide) (by decide) h8
  · have i1 : (4294967296 : Int) ≤ (N : Int) := by omega
    have i2 : ¬ (65536 : Int) ≤ (N1 : Int) := by omega
    have i3 : (256 : Int) ≤ (N1 : Int) := by omega
    have h3 := Lib.hid hn3
    clear hn3 hk1 hk2 hk3 ha hb hc
    go_enter Tryd.func70, Tryd.ntmps70
    go_wp2_with (with_reducible refine wpList_len8 rfl (.tmp 21) _ rfl N3 rfl h3.out (by kernel_rfl) ?_)
    go_ret
    refine ⟨?_, rfl⟩
    rw [HL.out]
    exact fin8 40 L (by decide) (by decide) h8
  · have i1 : (4294967296 : Int) ≤ (N : Int) := by omega
    have i2 : ¬ (65536 : Int) ≤ (N1 : Int) := by omega
    have i3 : ¬ (256 : Int) ≤ (N1 : Int) := by omega
    have h3 := Lib.hid hn3
    clear hn3 hk1 hk2 hk3 ha hb hc
    go_enter Tryd.func70, Tryd.ntmps70
    go_wp2_with (with_reducible refine wpList_len8 rfl (.tmp 21) _ rfl N1 rfl h3.out (by kernel_rfl) ?_)
    go_ret
    refine ⟨?_, rfl⟩
    rw [HL.out]
    exact fin8 32 L (by decide) (by decide) h8
  · have i1 : ¬ (4294967296 : Int) ≤ (N : Int) := by omega
    have i2 : (65536 : Int) ≤ (N : Int) := by omega
    have i3 : (256 : Int) ≤ (N2 : Int) := by omega
    have h3 := Lib.hid hn3
    clear hn3 hk1 hk2 hk3 ha hb hc
    go_enter Tryd.func70, Tryd.ntmps70
    go_wp2_with (with_reducible refine wpList_len8 rfl (.tmp 21) _ rfl N3 rfl h3.out (by kernel_rfl) ?_)
    go_ret
    refine ⟨?_, rfl⟩
    rw [HL.out]
    exact fin8 24 L (by decide) (by decide) h8
  · have i1 : ¬ (4294967296 : Int) ≤ (N : Int) := by omega
    have i2 : (65536 : Int) ≤ (N : Int) := by omega
    have i3 : ¬ (256 : Int) ≤ (N2 : Int) := by omega
    have h3 := Lib.hid hn3
    clear hn3 hk1 hk2 hk3 ha hb hc
    go_enter Tryd.func70, Tryd.ntmps70
    go_wp2_with (with_reducible refine wpList_len8 rfl (.tmp 21) _ rfl N2 rfl h3.out (by kernel_rfl) ?_)
    go_ret
    refine ⟨?_, rfl⟩
    rw [HL.out]
    exact fin8 16 L (by decide) (by decide) h8
  · have i1 : ¬ (4294967296 : Int) ≤ (N : Int) := by omega
    have i2 : ¬ (65536 : Int) ≤ (N : Int) := by omega
    have i3 : (256 : Int) ≤ (N : Int) := by omega
    have h3 := Lib.hid hn3
    clear hn3 hk1 hk2 hk3 ha hb hc
    go_enter Tryd.func70, Tryd.ntmps70
    go_wp2_with (with_reducible refine wpList_len8 rfl (.tmp 21) _ rfl N3 rfl h3.out (by kernel_rfl) ?_)
    go_ret
    refine ⟨?_, rfl⟩
    rw [HL.out]
    exact fin8 8 L (by decide) (by decide) h8
  · have i1 : ¬ (4294967296 : Int) ≤ (N : Int) := by omega
    have i2 : ¬ (65536 : Int) ≤ (N : Int) := by omega
    have i3 : ¬ (256 : Int) ≤ (N : Int) := by omega
    have h3 := Lib.hid hn3
    clear hn3 hk1 hk2 hk3 ha hb hc
    go_enter Tryd.func70, Tryd.ntmps70
    go_wp2_with (with_reducible refine wpList_len8 rfl (.tmp 21) _ rfl N rfl h3.out (by kernel_rfl) ?_)
    go_ret
    refine ⟨?_, rfl⟩
    rw [HL.out]
    exact fin0 L h8
theorem Len_any (N : Nat) (w : World) (hN : N < 18446744073709551616) : Calls Tryd.prog 58 #[.int .u64 (N : Int)] w fun e w' => e = .returned (.int .i64 ((lenN N : Nat) : Int)) ∧ w = w' := by
  have H := Lib.hid (fun w => Len64_any N w hN)
  clear hN
  obtain ⟨L, hL⟩ : ∃ L, lenN N = L := ⟨_, rfl⟩
  rw [hL] at H ⊢
  clear hL
  go_enter Tryd.func58, Tryd.ntmps58
  go_wp2_with (go_at_call 70; refine (H.out _).mono ?_; rintro e1 w1 ⟨rfl, rfl⟩)
  go_ret
  exact ⟨rfl, rfl⟩
end Go.Proofs.YtbpbpdaohganaaaDoor
