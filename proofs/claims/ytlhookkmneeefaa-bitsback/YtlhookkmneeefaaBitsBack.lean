/-
  BitsBack, whole (Rows.BitsBackSaid): for every number its eight bytes are its number again; for all bytes, up to eight of them are the bytes of their number, and more are refused. No conditions.
  The frame is the shell of the proof by program (proof-skeleton); the walk is mine.
-/
import Derived.Test.YtlhookkmneeefaaRows
import Derived.WalkKit
import Derived.ProofKit
import Derived.OpenShut
import Derived.ShutString
import Derived.ChangeOld
import Derived.Below
import Derived.SizedLaws
import Derived.Test.YtlhookkmneeefaaCalls
namespace Go.Proofs.Ytlhookkmneeefaa.bitsBack
open Go.ChangeShapes Go.WideShapes Go.ChangeAt Go.RowKit
open Go.ChangeMaps (open_string shut_string)
set_option linter.unusedVariables false

theorem own : ownKnob Try.prog.godebug = none := by kernel_rfl
theorem laidOut : laidOutB Try.prog = true := by kernel_rfl

theorem back1 (N : Int) (h0 : 0 ≤ N) (h : N < 18446744073709551616) : numV (bytesL N 8) = N ∧ numE (bytesL N 8) = 0 ∧ bytesE 8 = 0 ∧ (bytesL N 8).length = 8 := by
  obtain ⟨n, rfl⟩ := Int.eq_ofNat_of_zero_le h0
  have e : bytesL (n : Int) 8 = bytesOf n 8 := by unfold bytesL; rw [if_pos (by omega)]; rfl
  have hl : (bytesOf n 8).length = 8 := bytesOf_length n 8
  refine ⟨?_, ?_, by decide, by rw [e, hl]⟩
  · unfold numV
    rw [e, if_pos (by omega), num_bytesOf]
    omega
  · unfold numE
    rw [e, if_pos (by omega)]
theorem back2 (l : List UInt8) (n : Nat) (hl : l.length = n) (hn : n ≤ 8) : bytesL (numV l) (n : Int) = l ∧ bytesE (n : Int) = 0 ∧ numE l = 0 := by
  subst hl
  refine ⟨?_, ?_, ?_⟩
  · unfold bytesL numV
    rw [if_pos (by omega), if_pos hn, Int.toNat_natCast, Int.toNat_natCast, bytesOf_num]
  · unfold bytesE; rw [if_pos (by omega)]
  · unfold numE; rw [if_pos hn]
theorem back3 (l : List UInt8) (n : Nat) (hl : l.length = n) (hn : ¬ n ≤ 8) : numV l = 0 ∧ numE l = 1 := by
  subst hl
  exact ⟨by unfold numV; rw [if_neg hn], by unfold numE; rw [if_neg hn]⟩
set_option maxHeartbeats 1000000 in
theorem walk (a0 : Int) (a1 : Option Addr) (len1 cap1 : Nat) (l1 : List UInt8) (w : World) (w0 : (Lit.int .u64 a0).wf = true) (w1 : Bs w a1 len1 l1) (s1 : len1 ≤ cap1 ∧ cap1 ≤ 140737488351232) :
    Calls Try.prog 6 #[.int .u64 a0, .slice a1 len1 cap1] w fun e w' => e = .returned (.bool true) ∧ Below w.heap.size w w' := by
  have b0 := bounds_u64 w0
  have HW := Lib.hid w1
  obtain ⟨g1, g2⟩ := s1
  obtain ⟨v1, v2, v3, v4⟩ := back1 a0 (by omega) (by omega)
  have V4 := Lib.hid v4
  clear w0 w1 v4
  by_cases hn : len1 ≤ 8
  · obtain ⟨u1, u2, u3⟩ := back2 l1 len1 HW.out.1 hn
    have U1 := Lib.hid u1
    have hv := numV_lt l1
    clear u1
    go_enter Try.func6, Try.ntmps6
    go_wp2_with fail
    refine (Bytes_any _ _ _ (by omega) (by omega)).mono ?_
    rintro e w2 ⟨A2, k2, c2, rfl, hB2, hc2, hb2, ho2⟩
    obtain rfl : k2 = 8 := hB2.1.symm.trans V4.out
    have H2 := Lib.hid hB2
    clear hB2 ho2
    go_wp2_with fail
    refine (Number_any _ _ _ (bytesL a0 8) _ H2.out).mono ?_
    rintro e w' ⟨rfl, rfl⟩
    go_wp2_with (first
      | (at_builtin; refine wpList_copy Try.byteTypes rfl (.tmp 40) (.tmp 41) rfl rfl a1 len1 cap1 l1 rfl (HW.out.below hb2) (by omega) ?_; intro A3 c3 w3 hB3 hc3 hb3 ho3; have H3 := Lib.hid hB3; have hb3' := hb2.trans (hb3.mono hb2.size); clear hB3 ho3)
      | (go_at_call 15; refine (Number_any _ _ _ l1 _ H3.out).mono ?_; rintro e w' ⟨rfl, rfl⟩)
      | (go_at_call 13; refine (Bytes_any _ _ _ (by omega) (by omega)).mono ?_; rintro e w4 ⟨A4, k4, c4, rfl, hB4, hc4, hb4, ho4⟩; rw [U1.out] at hB4; have H4 := Lib.hid hB4; have hb4' := hb3'.trans (hb4.mono hb3'.size); clear hB4 ho4)
      | (go_at_call 17; refine (Same_same _ _ _ _ _ _ l1 _ H4.out (HW.out.below hb4') ?hz).mono ?_; rotate_left 1; rintro e w' ⟨rfl, m2, rfl⟩))
    case hz => have := H4.out.1; have := HW.out.1; omega
    go_ret
    exact ⟨rfl, below_drewN hb4' _⟩
  · obtain ⟨u1, u2⟩ := back3 l1 len1 HW.out.1 hn
    go_enter Try.func6, Try.ntmps6
    go_wp2_with fail
    refine (Bytes_any _ _ _ (by omega) (by omega)).mono ?_
    rintro e w2 ⟨A2, k2, c2, rfl, hB2, hc2, hb2, ho2⟩
    obtain rfl : k2 = 8 := hB2.1.symm.trans V4.out
    have H2 := Lib.hid hB2
    clear hB2 ho2
    go_wp2_with fail
    refine (Number_any _ _ _ (bytesL a0 8) _ H2.out).mono ?_
    rintro e w' ⟨rfl, rfl⟩
    go_wp2_with (first
      | (at_builtin; refine wpList_copy Try.byteTypes rfl (.tmp 40) (.tmp 41) rfl rfl a1 len1 cap1 l1 rfl (HW.out.below hb2) (by omega) ?_; intro A3 c3 w3 hB3 hc3 hb3 ho3; have H3 := Lib.hid hB3; have hb3' := hb2.trans (hb3.mono hb2.size); clear hB3 ho3)
      | (go_at_call 15; refine (Number_any _ _ _ l1 _ H3.out).mono ?_; rintro e w' ⟨rfl, rfl⟩)
      | (go_at_call 13; refine (Bytes_any _ _ _ (by omega) (by omega)).mono ?_; rintro e w4 ⟨A4, k4, c4, rfl, hB4, hc4, hb4, ho4⟩; have H4 := Lib.hid hB4; have hb4' := hb3'.trans (hb4.mono hb3'.size); clear hB4 ho4))
    go_ret
    exact ⟨rfl, hb4'⟩

set_option maxRecDepth 100000 in
theorem lifted (os : Os) (started : os.Started) (H : Type) (enc : TypeId × Value → H) :
    ReturnsInHanded {} Try.checked os 6 .any (Rows.bitsBackSpec.pre6 enc Try.prog Try.f6 Rows.bitsBackRow.domain false) (Rows.bitsBackSpec.post enc Try.prog Try.f6 false true false false) := by
  refine returnsInHanded_of_change_sized (C := Try.checked) own started (by kernel_rfl) Try.func6
    (ChangeSpec.witness6 (enc := enc) (C := Try.checked) false ⟨#[], #[.int .u64 0, .slice none 0 0], []⟩ 8 (by kernel_rfl) (by kernel_rfl) (by kernel_rfl) (by kernel_rfl)) ?_
  intro W base args ds gs before hval0 hW hcnd hsz0 _
  have hval : ∀ (j : Nat) t v, Try.f6.params[j]? = some t → args[j]? = some v → Value.okWide Try.prog W .any base t v := hval0
  have hW' := hW
  obtain ⟨p, q, hA0, hV, rfl, hfz, hnd⟩ := hW
  have hA : DataW.TrodAll enc Try.prog W 0 (fun _ => true) true Try.f6.params.toList args.toList ds p := hA0
  have hsz : (DataW.weightsEach Try.prog (Try.f6.params.toList ++ Rows.bitsBackSpec.plain.varTypes Try.prog) (ds ++ gs)).all (· ≤ reachBytes) = true := hsz0
  rw [Try.params6] at hA hval hsz
  obtain ⟨v0, vs0, d0, ds0, p0, q0, hargs, rfl, rfl, h0, r0⟩ := trodAll_cons hA
  obtain ⟨v1, vs1, d1, ds1, p1, q1, rfl, rfl, rfl, h1, r1⟩ := trodAll_cons r0
  obtain ⟨rfl, rfl, rfl⟩ := trodAll_nil r1
  obtain rfl : args = #[v0, v1] := by cases args; simp_all
  obtain ⟨rfl, rfl⟩ := trodVars_none hV
  obtain ⟨a0, rfl, rfl, rfl, w0⟩ := open_int Try.underlying27 (hval 0 27 v0 rfl rfl) h0
  obtain ⟨a1, len1, cap1, rfl⟩ := okWide_slice Try.underlying26 (hval 1 26 v1 rfl rfl)
  have k1 := h1
  have lt1 : ∀ x ∈ p1, x.block < W.heap.size := by obtain ⟨m, hm⟩ := k1; exact DataW.trod_lt m _ _ _ hm
  obtain ⟨l1, w1, s1⟩ : ∃ l, Bs W a1 len1 l ∧ len1 ≤ cap1 ∧ cap1 ≤ 140737488351232 := by
    obtain ⟨fuel, hf⟩ := h1
    rcases open_ints Try.underlying26 Try.underlying5 (by kernel_rfl) hf with ⟨hcs, _⟩ | ⟨x, l, c, zs, hcs, _, hl, hm, hz, hx, hcell, hwz⟩
    · simp [Value.cells] at hcs
      obtain ⟨rfl, rfl, rfl⟩ := hcs
      exact ⟨[], Bs.nil _ _, by omega, by omega⟩
    · simp [Value.cells] at hcs
      obtain ⟨rfl, rfl, rfl⟩ := hcs
      simp only [Prod.mk.injEq] at hx
      obtain ⟨rfl, _⟩ := hx
      have hb := sized_slice hsz (j := 1) (t := 26) (e := 5) rfl rfl Try.underlying26
      rw [show Try.prog.bytesOf 5 = 1 from by kernel_rfl] at hb
      simp only [lits, List.length_map, List.length_take, List.length_drop, reachBytes] at hb
      have hz' : zs.length = cap1 := by simpa using hz
      exact ⟨_, Bs.of_ints hl hz' hcell hwz, hl, by omega⟩
  clear hA0 hval0
  refine (walk a0 a1 len1 cap1 l1 W w0 w1 s1).mono fun e W' ⟨he, bel⟩ => ?_
  subst he
  exact ⟨_, rfl, _, _, _, [], _, [], hW', trodAll_mk1 (shut_bool Try.underlying4 _), (trodAll_cons_mk (shut_int Try.underlying27 w0) (trodAll_cons_mk (Below.trod laidOut (by kernel_rfl) (of_decide_eq_true (by kernel_rfl)) k1 bel lt1) trodAll_mk0)), rfl, bel.frame _, fun h => by cases h⟩

theorem over : Rows.bitsBackRow.holds Try.pinned (OpenSpec.ofChange Rows.bitsBackSpec) :=
  OpenClaim.holds_of_wide 6 Try.f6 rfl rfl rfl rfl rfl rfl rfl ⟨rfl, rfl, rfl, rfl, rfl⟩ rfl rfl rfl rfl rfl (by kernel_rfl) Try.func6 (by kernel_rfl)
    (of_decide_eq_true (by kernel_rfl)) (by unfold Func.isWrapper; first | (rw [if_pos (by decide +kernel)]; kernel_rfl) | (rw [if_neg (by decide +kernel)]; exact ⟨rfl, rfl⟩))
    (fun os started H enc _ => lifted os started H enc)

theorem bitsBack_holds : Rows.BitsBackSaid := over
#print axioms bitsBack_holds
end Go.Proofs.Ytlhookkmneeefaa.bitsBack
