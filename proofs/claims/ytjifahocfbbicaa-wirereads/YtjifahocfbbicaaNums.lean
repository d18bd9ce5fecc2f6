/-
  What bits.Number, juratref01.Number, wire.countOf, wire.Num, wire.Text, juratref04.Num, juratref04.Text, bytes.Clone and the laws' own answer, of whatever number and bytes.
-/
import Derived.Test.YtjifahocfbbicaaCalls
import Derived.Test.YtjifahocfbbicaaCopy
import Derived.Test.YtjifahocfbbicaaWire
namespace Go.Proofs.Ytjifahocfbbicaa
open Go.RowKit
set_option maxHeartbeats 400000 in
theorem Number_ok (A : Option Addr) (n c : Nat) (l : List UInt8) (w : World) (h : Bs w A n l) (hn : n ≤ 8) :
    Calls Try.prog 47 #[.slice A n c] w fun e w' => e = .returned (.tuple #[.int .u64 (num l : Int), .int .i64 0]) ∧ w = w' := by
  have h' := Lib.hid h
  clear h
  go_enter Try.func47, Try.ntmps47
  go_wp2_with (go_at_call 49; refine (join_any _ _ _ _ _ h'.out hn).mono ?_; rintro e w' ⟨rfl, rfl⟩)
  go_ret2
  exact ⟨rfl, rfl⟩
set_option maxHeartbeats 400000 in
theorem RefNumber_ok (A : Option Addr) (n c : Nat) (l : List UInt8) (w : World) (h : Bs w A n l) (hn : n ≤ 8) :
    Calls Try.prog 43 #[.slice A n c] w fun e w' => e = .returned (.tuple #[.int .u64 (num l : Int), .int .i64 0]) ∧ w = w' := by
  go_enter Try.func43, Try.ntmps43
  go_wp2
  go_loop [4, 5] (fun t i => ∃ k : Nat, k ≤ n ∧ i = .int .i64 k ∧ t = .int .u64 (num (l.take k) : Int)) (fun _ i => n - (intOf i).toNat)
  case atStart => exact ⟨0, Nat.zero_le _, rfl, rfl⟩
  case round =>
    obtain ⟨k, hk, rfl, rfl⟩ := hrel
    have HL := Lib.hid h.1
    by_cases hlt : k < n
    · obtain ⟨b, off, x, rfl, hb, hx, hc⟩ := h.get hlt
      have hx256 := byte_lt x
      have hN : num (l.take k) < 72057594037927936 := num_lt' _ 7 (by rw [List.length_take]; omega)
      have HT := Lib.hid (num_take hx)
      have h' := Lib.hid h
      clear hx h
      generalize num (l.take k) = N at *
      go_wp2
      go_round
      case rel => exact ⟨k + 1, by omega, by go_num, by rw [HT.out]; go_num⟩
      case measure => simp [intOf]; omega
    · go_wp2
      go_ret2
      exact ⟨ret2 (by rw [List.take_of_length_le (by rw [HL.out]; omega)]), rfl⟩
set_option maxHeartbeats 400000 in
theorem countOf_any (N : Nat) (w : World) (hN : N < 18446744073709551616) :
    Calls Try.prog 37 #[.int .u64 (N : Int)] w fun e w' => e = .returned (.int .i64 (wide N : Int)) ∧ w = w' := by
  have h8 := wide8 hN
  go_enter Try.func37, Try.ntmps37
  go_wp2
  go_step3
  go_wp2
  go_step3
  go_wp2
  go_loop [0, 3] (fun n i => ∃ M k : Nat, n = .int .u64 M ∧ i = .int .i64 k ∧ M ≤ N ∧ k ≤ 8 ∧ Hid (k + wide M = wide N)) (fun n _ => (intOf n).toNat)
  case atStart => exact ⟨N, 0, rfl, rfl, Nat.le_refl _, by omega, Lib.hid (Nat.zero_add _)⟩
  case round =>
    obtain ⟨M, k, rfl, rfl, hM, hk, HK⟩ := hrel
    by_cases hz : M = 0
    · subst hz
      have e : k = wide N := by have := HK.out; rw [wide_zero] at this; omega
      have HE := Lib.hid e
      clear e
      go_wp2
      try rw [Exit.noGoto_ret]
      go_ret
      exact ⟨retI (by rw [HE.out]), rfl⟩
    · have hK2 : k + 1 + wide (M / 256) = wide N := by have := HK.out; rw [wide_pos hz] at this; omega
      have hk2 : k + 1 ≤ 8 := by omega
      have HK2 := Lib.hid hK2
      clear hK2
      have hz2 : ((M : Int) == 0) = false := by simp; omega
      go_wp2
      go_round
      case rel => exact ⟨M / 256, k + 1, by go_num, by go_num, by omega, by omega, HK2⟩
      case measure => simp [intOf]; omega
/-- a slice of bytes in new memory -/
def NewSlice (w : World) (l : List UInt8) (e : Ending) (w' : World) : Prop :=
  ∃ A c, e = .returned (.slice A l.length c) ∧ l.length ≤ c ∧ Below w.heap.size w w' ∧ Own w' w.heap.size 5 (.slice A l.length c) l.length l
theorem byte_new (w : World) (z : Int) (x : UInt8) (h : z = (x.toNat : Int)) : Own (w.alloc (.cells #[.int .u8 z] 5)) w.heap.size 5 (.slice (some ⟨w.heap.size, 0, none⟩) 1 1) 1 [x] := by
  subst h
  refine (Row.new w 5 _).own (Nat.le_refl _) rfl rfl (by omega) ?_
  intro j y hy
  rcases j with _ | j
  · simp at hy; subst hy; rfl
  · simp at hy
theorem Own.newSlice {w w' : World} {A : Option Addr} {n c : Nat} {l : List UInt8} (h : Own w' w.heap.size 5 (.slice A n c) n l) (hb : Below w.heap.size w w') : NewSlice w l (.returned (.slice A n c)) w' := by
  have hl := h.length
  subst hl
  obtain ⟨A', c', hv, hc⟩ := h.form
  injection hv with h1 h2 h3
  subst h1 h3
  exact ⟨A, c, rfl, hc, hb, h⟩
set_option maxHeartbeats 400000 in
theorem Num_any (N : Nat) (w : World) (hN : N < 18446744073709551616) : Calls Try.prog 16 #[.int .u64 (N : Int)] w (NewSlice w (numB N)) := by
  have h8 := wide8 hN
  have HW := Lib.hid (wide_byte hN)
  have HB := Lib.hid (show numB N = UInt8.ofNat (wide N) :: bytesOf N (wide N) from rfl)
  generalize numB N = q at *
  have HC := Lib.hid (countOf_any N w hN)
  have HY := Lib.hid (fun w => Bytes_ok N (wide N) w hN h8)
  generalize wide N = k at *
  generalize bytesOf N k = bs at *
  go_enter Try.func16, Try.ntmps16
  go_wp2_with (first
    | (go_at_call 37; refine HC.out.mono ?_; rintro e w' ⟨rfl, rfl⟩)
    | (go_at_call 38; refine (HY.out _).mono ?_; rintro e w1 ⟨A, c, rfl, ho, hb⟩; have hs1 := hb.size)
    | (at_builtin; refine wpList_app Try.byteTypes rfl (.tmp 16) (.tmp 17) rfl w.heap.size _ 1 [UInt8.ofNat k] rfl ((byte_new w1 _ (UInt8.ofNat k) (by rw [HW.out])).mono hs1) A k c bs rfl (ho.bs.below ((Below.refl _ _).alloc (Nat.le_refl _) _)) (by omega) (by simp; omega) ?_; intro A' c' w' hown hbel hgr))
  go_ret
  rw [HB.out]
  exact Own.newSlice (l := UInt8.ofNat k :: bs) hown ((hb.alloc hs1 _).trans hbel)
set_option maxHeartbeats 400000 in
theorem RefNum_any (N : Nat) (w : World) (hN : N < 18446744073709551616) : Calls Try.prog 17 #[.int .u64 (N : Int)] w (NewSlice w (numB N)) := by
  have h8 := wide8 hN
  have HW := Lib.hid (wide_byte hN)
  have HB := Lib.hid (show numB N = UInt8.ofNat (wide N) :: bytesOf N (wide N) from rfl)
  generalize numB N = q at *
  have HY := Lib.hid (fun w => RefBytes_ok N (wide N) w hN h8)
  go_enter Try.func17, Try.ntmps17
  go_wp2
  go_loop [3, 4] (fun i n => ∃ M k : Nat, n = .int .u64 M ∧ i = .int .i64 k ∧ M ≤ N ∧ k ≤ 8 ∧ Hid (k + wide M = wide N)) (fun _ n => (intOf n).toNat)
  case atStart => exact ⟨N, 0, rfl, rfl, Nat.le_refl _, by omega, Lib.hid (Nat.zero_add _)⟩
  case round =>
    obtain ⟨M, k, rfl, rfl, hM, hk, HK⟩ := hrel
    by_cases hz : M = 0
    · subst hz
      obtain rfl : k = wide N := by have := HK.out; rw [wide_zero] at this; omega
      clear HK hk
      generalize wide N = k at *
      generalize bytesOf N k = bs at *
      go_wp2_with (first
        | (go_at_call 39; refine (HY.out _).mono ?_; rintro e w1 ⟨A, c, rfl, ho, hb⟩; have hs1 := hb.size)
        | (at_builtin; refine wpList_app Try.byteTypes rfl (.tmp 24) (.tmp 25) rfl w.heap.size _ 1 [UInt8.ofNat k] rfl ((byte_new w1 _ (UInt8.ofNat k) (by rw [HW.out])).mono hs1) A k c bs rfl (ho.bs.below ((Below.refl _ _).alloc (Nat.le_refl _) _)) (by omega) (by simp; omega) ?_; intro A' c' w' hown hbel hgr))
      go_ret
      rw [HB.out]
      exact Own.newSlice (l := UInt8.ofNat k :: bs) hown ((hb.alloc hs1 _).trans hbel)
    · have hK2 : k + 1 + wide (M / 256) = wide N := by have := HK.out; rw [wide_pos hz] at this; omega
      have hk2 : k + 1 ≤ 8 := by omega
      have HK2 := Lib.hid hK2
      clear hK2
      go_wp2
      go_round
      case rel => exact ⟨M / 256, k + 1, by go_num, by go_num, by omega, by omega, HK2⟩
      case measure => simp [intOf]; omega
set_option maxHeartbeats 400000 in
theorem Text_any (A : Option Addr) (n c : Nat) (l : List UInt8) (w : World) (hB : Bs w A n l) (hn : n ≤ 100000000000000) : Calls Try.prog 13 #[.slice A n c] w (NewSlice w (textB l)) := by
  have HB := Lib.hid hB
  have HT := Lib.hid (show textB l = numB n ++ l by rw [textB, hB.1])
  have HN := Lib.hid (Num_any n w (by omega))
  have hnl : (numB n).length ≤ 9 := by have := wide8 (N := n) (by omega); rw [numB_length]; omega
  clear hB
  generalize numB n = q at *
  go_enter Try.func13, Try.ntmps13
  go_wp2_with (first
    | (go_at_call 16; refine HN.out.mono ?_; rintro e w1 ⟨A1, c1, rfl, hc1, hb1, ho1⟩; have hs1 := hb1.size)
    | (at_builtin; refine wpList_app Try.byteTypes rfl (.tmp 6) (.tmp 7) rfl w.heap.size (.slice A1 q.length c1) q.length q rfl ho1 A n c l rfl (HB.out.below hb1) (by omega) hs1 ?_; intro A' c' w' hown hbel hgr))
  go_ret
  rw [HT.out]
  exact hown.newSlice (hb1.trans hbel)
set_option maxHeartbeats 400000 in
theorem RefText_any (A : Option Addr) (n c : Nat) (l : List UInt8) (w : World) (hB : Bs w A n l) (hn : n ≤ 100000000000000) : Calls Try.prog 15 #[.slice A n c] w (NewSlice w (textB l)) := by
  have HB := Lib.hid hB
  have HT := Lib.hid (show textB l = numB n ++ l by rw [textB, hB.1])
  have HN := Lib.hid (RefNum_any n w (by omega))
  have hnl : (numB n).length ≤ 9 := by have := wide8 (N := n) (by omega); rw [numB_length]; omega
  clear hB
  generalize numB n = q at *
  go_enter Try.func15, Try.ntmps15
  go_wp2_with (first
    | (go_at_call 17; refine HN.out.mono ?_; rintro e w1 ⟨A1, c1, rfl, hc1, hb1, ho1⟩; have hs1 := hb1.size)
    | (at_builtin; refine wpList_app Try.byteTypes rfl (.tmp 8) (.tmp 9) rfl w.heap.size (.slice A1 q.length c1) q.length q rfl ho1 A n c l rfl (HB.out.below hb1) (by omega) hs1 ?_; intro A' c' w' hown hbel hgr))
  go_ret
  rw [HT.out]
  exact hown.newSlice (hb1.trans hbel)
set_option maxHeartbeats 400000 in
theorem own_any (A : Option Addr) (n c : Nat) (l : List UInt8) (w : World) (hB : Bs w A n l) (hn : n ≤ 140737488355328) : Calls Try.prog 14 #[.slice A n c] w (NewSlice w l) := by
  have HB := Lib.hid hB
  clear hB
  go_enter Try.func14, Try.ntmps14
  go_wp2_with (at_builtin; refine wpList_copy Try.byteTypes rfl (.tmp 3) (.tmp 4) rfl rfl A n c l rfl HB.out (by omega) ?_; intro A1 c1 w1 hB1 hc1 hb1 ho1)
  go_ret
  exact ho1.newSlice hb1
theorem bytes_nil (w : World) (A : Option Addr) (n c : Nat) : (binOp .eql 27 (.slice A n c) (.slice none 0 0)).run Try.prog w = .ok (.bool A.isNone) w := by
  have h : ∀ d : Nat, (Op.equalIn (d + 1) 27 (.slice A n c) (.slice none 0 0)).run Try.prog w = .ok A.isNone w := fun d => by
    cases A <;> simp [Op.equalIn, run_underlying Try.underlying27]
  simp only [binOp]
  simp [Op.equal, Op.maxDepth, h 9999]
set_option maxHeartbeats 400000 in
theorem Clone_any (A : Option Addr) (n c : Nat) (l : List UInt8) (w : World) (hB : Bs w A n l) (hn : n ≤ 140737488355328) : Calls Try.prog 40 #[.slice A n c] w (NewSlice w l) := by
  have HB := Lib.hid hB
  clear hB
  rcases A with _ | a
  · have h0 : n = 0 := by
      rcases Nat.eq_zero_or_pos n with h | h
      · exact h
      · obtain ⟨b, off, x, e, _⟩ := HB.out.get h
        cases e
    subst h0
    have HL := Lib.hid (HB.out.empty rfl)
    have hnil := fun w => bytes_nil w none 0 c
    go_enter Try.func40, Try.ntmps40
    go_wp2
    go_ret
    rw [HL.out]
    exact (Own.nil w w.heap.size 5).newSlice (Below.refl _ _)
  · have hnil := fun w => bytes_nil w (some a) n c
    go_enter Try.func40, Try.ntmps40
    go_wp2_with (at_builtin; refine wpList_copy Try.byteTypes rfl (.tmp 5) (.tmp 6) rfl rfl (some a) n c l rfl HB.out (by omega) ?_; intro A1 c1 w1 hB1 hc1 hb1 ho1)
    go_ret
    exact ho1.newSlice hb1
end Go.Proofs.Ytjifahocfbbicaa
