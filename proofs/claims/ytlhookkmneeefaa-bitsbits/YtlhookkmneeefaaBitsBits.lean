/-
  BitsBits, whole (Rows.BitsBitsSaid): for all bytes and every place bits.Bit answers as the document's own; the bits of up to eight bytes make just the number that bits.Number answers. No conditions.
  The frame is the shell of the proof by program (proof-skeleton); the walk is mine.
-/
import Derived.Test.YtlhookkmneeefaaRows
import Derived.WalkKit
import Derived.ProofKit
import Derived.OpenShut
import Derived.ShutString
import Derived.ChangeOld
import Derived.Below
import Derived.SizedLaws
import Derived.Test.YtlhookkmneeefaaBit
namespace Go.Proofs.Ytlhookkmneeefaa.bitsBits
open Go.ChangeShapes Go.WideShapes Go.ChangeAt Go.RowKit
open Go.ChangeMaps (open_string shut_string)
set_option linter.unusedVariables false

theorem own : ownKnob Try.prog.godebug = none := by kernel_rfl
theorem laidOut : laidOutB Try.prog = true := by kernel_rfl

theorem one64 (w : World) : Bs (w.alloc (.cells #[.int .u8 64] 5)) (some ⟨w.heap.size, 0, none⟩) 1 [64] := by
  refine lit_new w 5 _ 1 [64] rfl rfl ?_ (by omega)
  intro j x hx
  rcases j with _ | j
  · simp at hx; subst hx; rfl
  · simp at hx
theorem bitV64 : bitV [64] 1 = 1 := by decide
theorem bitE64 : bitE [64] 1 = 0 := by decide
set_option maxHeartbeats 1000000 in
theorem walk (a0 : Option Addr) (len0 cap0 : Nat) (l0 : List UInt8) (a1 : Int) (w : World) (w0 : Bs w a0 len0 l0) (s0 : len0 ≤ cap0 ∧ cap0 ≤ 140737488351232) (w1 : (Lit.int .i64 a1).wf = true) :
    Calls Try.prog 8 #[.slice a0 len0 cap0, .int .i64 a1] w fun e w' => e = .returned (.bool true) ∧ Below w.heap.size w w' := by
  have b1 := bounds_i64 w1
  have HW := Lib.hid w0
  obtain ⟨g1, g2⟩ := s0
  have q1 := bitV64
  have q2 := bitE64
  clear w0 w1
  by_cases h8 : len0 ≤ 8
  · have HV := HW
    have hd8 : decide (8 < (len0 : Int)) = false := by simp; omega
    go_enter Try.func8, Try.ntmps8
    go_wp2_with (first
      | (at_builtin; refine wpList_copy Try.byteTypes rfl (.tmp 18) (.tmp 19) rfl rfl a0 len0 cap0 l0 rfl HW.out (by omega) ?_; intro A1 c1 w1 hB1 hc1 hb1 ho1; have H1 := Lib.hid hB1; clear hB1 ho1)
      | (go_at_call 22; refine (Bit_any _ _ _ l0 _ _ H1.out (by omega) (by omega)).mono ?_; rintro e w' ⟨rfl, rfl⟩)
      | (go_at_call 23; refine (RefBit_any _ _ _ l0 _ _ (HW.out.below hb1) (by omega) (by omega)).mono ?_; rintro e w' ⟨rfl, rfl⟩))
    have HL := Lib.hid (show l0.length = len0 from HV.out.1)
    go_loopw [9, 10] (fun s i wr => ∃ k M : Nat, k ≤ 8 * len0 ∧ i = .int .i64 (k : Int) ∧ s = .int .u64 (M : Int) ∧ Hid (M = bitsNum l0 k) ∧ Below w.heap.size w wr) (fun _ i _ => 8 * len0 - (intOf i).toNat)
    case atStart => exact ⟨0, 0, Nat.zero_le _, rfl, rfl, Lib.hid rfl, hb1⟩
    case round =>
      obtain ⟨k, M, hk, rfl, rfl, HM, hbr⟩ := hrel
      have hbs := hbr.size
      by_cases hlt : k < 8 * len0
      · have hMlt : M < 9223372036854775808 := by
          have h1 := bitsNum_lt l0 k
          have h2 : (2 : Nat) ^ k ≤ 2 ^ 63 := Nat.pow_le_pow_right (by decide) (by omega)
          rw [HM.out]
          omega
        rcases bitN_01 l0 k with hbit | hbit
        all_goals
          have HS := Lib.hid (show bitsNum l0 (k + 1) = 2 * bitsNum l0 k + bitN l0 k from rfl)
          have HBit := Lib.hid hbit
          go_wp2_with (first
            | (at_builtin; refine wpList_copy Try.byteTypes rfl (.tmp 52) (.tmp 53) rfl rfl a0 len0 cap0 l0 rfl (HV.out.below hbr) (by omega) ?_; intro A2 c2 w2 hB2 hc2 hb2 ho2; have H2 := Lib.hid hB2; have hb2' := hbr.trans (hb2.mono hbs); clear hB2 ho2 hb2)
            | (go_at_call 22; refine (Bit_ok _ _ _ _ l0 _ H2.out hlt (by omega)).mono ?_; rintro e w' ⟨rfl, rfl⟩))
          go_roundw
          case rel => exact ⟨k + 1, bitsNum l0 (k + 1), by omega, by go_num, by rw [HS.out, ← HM.out, HBit.out]; go_num, Lib.hid rfl, hb2'⟩
          case measure => simp [intOf]; omega
      · have hM : M = num l0 := by
          have e : k = 8 * l0.length := by rw [HL.out]; omega
          rw [HM.out, e, bitsNum_all]
        subst hM
        go_wp2_with (first
          | (at_builtin; refine wpList_copy Try.byteTypes rfl (.tmp 75) (.tmp 76) rfl rfl a0 len0 cap0 l0 rfl (HV.out.below hbr) (by omega) ?_; intro A3 c3 w3 hB3 hc3 hb3 ho3; have H3 := Lib.hid hB3; have hb3' := hbr.trans (hb3.mono hbs); clear hB3 ho3 hb3)
          | (go_at_call 15; refine (Number_ok _ _ _ l0 _ H3.out (by omega)).mono ?_; rintro e w' ⟨rfl, rfl⟩)
          | (go_at_call 22; refine (Bit_any _ _ _ [64] _ _ (one64 _) (by omega) (by omega)).mono ?_; rintro e w' ⟨rfl, rfl⟩))
        go_ret
        exact ⟨rfl, hb3'.alloc hb3'.size _⟩
  · have HV := Lib.hid (HW.out.take (m := 8) (by omega))
    obtain ⟨l8, hl8⟩ : ∃ l8, l0.take 8 = l8 := ⟨_, rfl⟩
    rw [hl8] at HV
    clear hl8
    have hd8 : decide (8 < (len0 : Int)) = true := by simp; omega
    go_enter Try.func8, Try.ntmps8
    go_wp2_with (first
      | (at_builtin; refine wpList_copy Try.byteTypes rfl (.tmp 18) (.tmp 19) rfl rfl a0 len0 cap0 l0 rfl HW.out (by omega) ?_; intro A1 c1 w1 hB1 hc1 hb1 ho1; have H1 := Lib.hid hB1; clear hB1 ho1)
      | (go_at_call 22; refine (Bit_any _ _ _ l0 _ _ H1.out (by omega) (by omega)).mono ?_; rintro e w' ⟨rfl, rfl⟩)
      | (go_at_call 23; refine (RefBit_any _ _ _ l0 _ _ (HW.out.below hb1) (by omega) (by omega)).mono ?_; rintro e w' ⟨rfl, rfl⟩))
    have HL := Lib.hid (show l8.length = 8 from HV.out.1)
    go_loopw [9, 10] (fun s i wr => ∃ k M : Nat, k ≤ 8 * 8 ∧ i = .int .i64 (k : Int) ∧ s = .int .u64 (M : Int) ∧ Hid (M = bitsNum l8 k) ∧ Below w.heap.size w wr) (fun _ i _ => 8 * 8 - (intOf i).toNat)
    case atStart => exact ⟨0, 0, Nat.zero_le _, rfl, rfl, Lib.hid rfl, hb1⟩
    case round =>
      obtain ⟨k, M, hk, rfl, rfl, HM, hbr⟩ := hrel
      have hbs := hbr.size
      by_cases hlt : k < 8 * 8
      · have hMlt : M < 9223372036854775808 := by
          have h1 := bitsNum_lt l8 k
          have h2 : (2 : Nat) ^ k ≤ 2 ^ 63 := Nat.pow_le_pow_right (by decide) (by omega)
          rw [HM.out]
          omega
        rcases bitN_01 l8 k with hbit | hbit
        all_goals
          have HS := Lib.hid (show bitsNum l8 (k + 1) = 2 * bitsNum l8 k + bitN l8 k from rfl)
          have HBit := Lib.hid hbit
          go_wp2_with (first
            | (at_builtin; refine wpList_copy Try.byteTypes rfl (.tmp 52) (.tmp 53) rfl rfl a0 8 cap0 l8 rfl (HV.out.below hbr) (by omega) ?_; intro A2 c2 w2 hB2 hc2 hb2 ho2; have H2 := Lib.hid hB2; have hb2' := hbr.trans (hb2.mono hbs); clear hB2 ho2 hb2)
            | (go_at_call 22; refine (Bit_ok _ _ _ _ l8 _ H2.out hlt (by omega)).mono ?_; rintro e w' ⟨rfl, rfl⟩))
          go_roundw
          case rel => exact ⟨k + 1, bitsNum l8 (k + 1), by omega, by go_num, by rw [HS.out, ← HM.out, HBit.out]; go_num, Lib.hid rfl, hb2'⟩
          case measure => simp [intOf]; omega
      · have hM : M = num l8 := by
          have e : k = 8 * l8.length := by rw [HL.out]; omega
          rw [HM.out, e, bitsNum_all]
        subst hM
        go_wp2_with (first
          | (at_builtin; refine wpList_copy Try.byteTypes rfl (.tmp 75) (.tmp 76) rfl rfl a0 8 cap0 l8 rfl (HV.out.below hbr) (by omega) ?_; intro A3 c3 w3 hB3 hc3 hb3 ho3; have H3 := Lib.hid hB3; have hb3' := hbr.trans (hb3.mono hbs); clear hB3 ho3 hb3)
          | (go_at_call 15; refine (Number_ok _ _ _ l8 _ H3.out (by omega)).mono ?_; rintro e w' ⟨rfl, rfl⟩)
          | (go_at_call 22; refine (Bit_any _ _ _ [64] _ _ (one64 _) (by omega) (by omega)).mono ?_; rintro e w' ⟨rfl, rfl⟩))
        go_ret
        exact ⟨rfl, hb3'.alloc hb3'.size _⟩

set_option maxRecDepth 100000 in
theorem lifted (os : Os) (started : os.Started) (H : Type) (enc : TypeId × Value → H) :
    ReturnsInHanded {} Try.checked os 8 .any (Rows.bitsBitsSpec.pre6 enc Try.prog Try.f8 Rows.bitsBitsRow.domain false) (Rows.bitsBitsSpec.post enc Try.prog Try.f8 false true false false) := by
  refine returnsInHanded_of_change_sized (C := Try.checked) own started (by kernel_rfl) Try.func8
    (ChangeSpec.witness6 (enc := enc) (C := Try.checked) false ⟨#[], #[.slice none 0 0, .int .i64 0], []⟩ 8 (by kernel_rfl) (by kernel_rfl) (by kernel_rfl) (by kernel_rfl)) ?_
  intro W base args ds gs before hval0 hW hcnd hsz0 _
  have hval : ∀ (j : Nat) t v, Try.f8.params[j]? = some t → args[j]? = some v → Value.okWide Try.prog W .any base t v := hval0
  have hW' := hW
  obtain ⟨p, q, hA0, hV, rfl, hfz, hnd⟩ := hW
  have hA : DataW.TrodAll enc Try.prog W 0 (fun _ => true) true Try.f8.params.toList args.toList ds p := hA0
  have hsz : (DataW.weightsEach Try.prog (Try.f8.params.toList ++ Rows.bitsBitsSpec.plain.varTypes Try.prog) (ds ++ gs)).all (· ≤ reachBytes) = true := hsz0
  rw [Try.params8] at hA hval hsz
  obtain ⟨v0, vs0, d0, ds0, p0, q0, hargs, rfl, rfl, h0, r0⟩ := trodAll_cons hA
  obtain ⟨v1, vs1, d1, ds1, p1, q1, rfl, rfl, rfl, h1, r1⟩ := trodAll_cons r0
  obtain ⟨rfl, rfl, rfl⟩ := trodAll_nil r1
  obtain rfl : args = #[v0, v1] := by cases args; simp_all
  obtain ⟨rfl, rfl⟩ := trodVars_none hV
  obtain ⟨a0, len0, cap0, rfl⟩ := okWide_slice Try.underlying26 (hval 0 26 v0 rfl rfl)
  have k0 := h0
  have lt0 : ∀ x ∈ p0, x.block < W.heap.size := by obtain ⟨m, hm⟩ := k0; exact DataW.trod_lt m _ _ _ hm
  obtain ⟨l0, w0, s0⟩ : ∃ l, Bs W a0 len0 l ∧ len0 ≤ cap0 ∧ cap0 ≤ 140737488351232 := by
    obtain ⟨fuel, hf⟩ := h0
    rcases open_ints Try.underlying26 Try.underlying5 (by kernel_rfl) hf with ⟨hcs, _⟩ | ⟨x, l, c, zs, hcs, _, hl, hm, hz, hx, hcell, hwz⟩
    · simp [Value.cells] at hcs
      obtain ⟨rfl, rfl, rfl⟩ := hcs
      exact ⟨[], Bs.nil _ _, by omega, by omega⟩
    · simp [Value.cells] at hcs
      obtain ⟨rfl, rfl, rfl⟩ := hcs
      simp only [Prod.mk.injEq] at hx
      obtain ⟨rfl, _⟩ := hx
      have hb := sized_slice hsz (j := 0) (t := 26) (e := 5) rfl rfl Try.underlying26
      rw [show Try.prog.bytesOf 5 = 1 from by kernel_rfl] at hb
      simp only [lits, List.length_map, List.length_take, List.length_drop, reachBytes] at hb
      have hz' : zs.length = cap0 := by simpa using hz
      exact ⟨_, Bs.of_ints hl hz' hcell hwz, hl, by omega⟩
  obtain ⟨a1, rfl, rfl, rfl, w1⟩ := open_int Try.underlying3 (hval 1 3 v1 rfl rfl) h1
  clear hA0 hval0
  refine (walk a0 len0 cap0 l0 a1 W w0 s0 w1).mono fun e W' ⟨he, bel⟩ => ?_
  subst he
  exact ⟨_, rfl, _, _, _, [], _, [], hW', trodAll_mk1 (shut_bool Try.underlying4 _), (trodAll_cons_mk (Below.trod laidOut (by kernel_rfl) (of_decide_eq_true (by kernel_rfl)) k0 bel lt0) (trodAll_cons_mk (shut_int Try.underlying3 w1) trodAll_mk0)), rfl, bel.frame _, fun h => by cases h⟩

theorem over : Rows.bitsBitsRow.holds Try.pinned (OpenSpec.ofChange Rows.bitsBitsSpec) :=
  OpenClaim.holds_of_wide 8 Try.f8 rfl rfl rfl rfl rfl rfl rfl ⟨rfl, rfl, rfl, rfl, rfl⟩ rfl rfl rfl rfl rfl (by kernel_rfl) Try.func8 (by kernel_rfl)
    (of_decide_eq_true (by kernel_rfl)) (by unfold Func.isWrapper; first | (rw [if_pos (by decide +kernel)]; kernel_rfl) | (rw [if_neg (by decide +kernel)]; exact ⟨rfl, rfl⟩))
    (fun os started H enc _ => lifted os started H enc)

theorem bitsBits_holds : Rows.BitsBitsSaid := over
#print axioms bitsBits_holds
end Go.Proofs.Ytlhookkmneeefaa.bitsBits
