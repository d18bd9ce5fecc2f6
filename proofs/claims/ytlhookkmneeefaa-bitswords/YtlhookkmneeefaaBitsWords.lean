/-
  BitsWords, whole (Rows.BitsWordsSaid): for all bytes, places, numbers and widths bits.Word, bits.Bytes and bits.Number answer as the document's own. No conditions.
  The frame is the shell of the proof by program (proof-skeleton); the walk is mine.
-/
import Derived.Test.YtlhookkmneeefaaRows
import Derived.WalkKit
import Derived.ProofKit
import Derived.OpenShut
import Derived.ShutString
import Derived.ChangeOld
import Derived.Below
import Derived.SizedLaws
import Derived.Test.YtlhookkmneeefaaCalls
namespace Go.Proofs.Ytlhookkmneeefaa.bitsWords
open Go.ChangeShapes Go.WideShapes Go.ChangeAt Go.RowKit
open Go.ChangeMaps (open_string shut_string)
set_option linter.unusedVariables false

theorem own : ownKnob Try.prog.godebug = none := by kernel_rfl
theorem laidOut : laidOutB Try.prog = true := by kernel_rfl

theorem two_new (w : World) : Bs (w.alloc (.cells #[.int .u8 1, .int .u8 2] 5)) (some ⟨w.heap.size, 0, none⟩) 2 [1, 2] := by
  refine lit_new w 5 _ 2 [1, 2] rfl rfl ?_ (by omega)
  intro j x hx
  rcases j with _ | _ | j
  · simp at hx; subst hx; rfl
  · simp at hx; subst hx; rfl
  · simp at hx
theorem numV12 : numV [1, 2] = 258 := by decide
theorem numE12 : numE [1, 2] = 0 := by decide
set_option maxHeartbeats 1000000 in
theorem walk (a0 : Option Addr) (len0 cap0 : Nat) (l0 : List UInt8) (a1 : Int) (a2 : Int) (a3 : Int) (w : World) (w0 : Bs w a0 len0 l0) (s0 : len0 ≤ cap0 ∧ cap0 ≤ 140737488351232) (w1 : (Lit.int .i64 a1).wf = true) (w2 : (Lit.int .u64 a2).wf = true) (w3 : (Lit.int .i64 a3).wf = true) :
    Calls Try.prog 5 #[.slice a0 len0 cap0, .int .i64 a1, .int .u64 a2, .int .i64 a3] w fun e w' => e = .returned (.bool true) ∧ Below w.heap.size w w' := by
  have b2 := bounds_u64 w2
  have HW := Lib.hid w0
  obtain ⟨s1, s2⟩ := s0
  have n1 := numV12
  have n2 := numE12
  clear w0 w1 w2 w3
  have hl8 := bytesL_length a2 a3
  go_enter Try.func5, Try.ntmps5
  go_wp2_with (first
    | (at_builtin; refine wpList_copy Try.byteTypes rfl (.tmp 24) (.tmp 25) rfl rfl a0 len0 cap0 l0 rfl HW.out (by omega) ?_; intro A1 c1 w1 hB1 hc1 hb1 ho1; have H1 := Lib.hid hB1; clear hB1 ho1)
    | (go_at_call 11; refine (Word_any _ _ _ l0 _ _ H1.out hc1 (by omega)).mono ?_; rintro e w' ⟨rfl, rfl⟩)
    | (go_at_call 12; refine (RefWord_any _ _ _ l0 _ _ (HW.out.below hb1) (by omega)).mono ?_; rintro e w' ⟨rfl, m1, rfl⟩; have hb1' := below_drewN hb1 m1)
    | (go_at_call 13; refine (Bytes_any _ _ _ (by omega) (by omega)).mono ?_; rintro e w2 ⟨A2, k2, c2, rfl, hB2, hc2, hb2, ho2⟩; have H2 := Lib.hid hB2; have hb2' := hb1'.trans (hb2.mono hb1'.size); clear hB2 ho2)
    | (go_at_call 14; refine (RefBytes_any _ _ _ (by omega) (by omega)).mono ?_; rintro e w3 ⟨A3, k3, c3, rfl, hB3, hc3, hb3, ho3⟩; have H3 := Lib.hid hB3; have H2' := Lib.hid (H2.out.below hb3); have hb3' := hb2'.trans (hb3.mono hb2'.size); clear hB3 ho3)
    | (at_builtin; refine wpList_copy Try.byteTypes rfl (.tmp 50) (.tmp 51) rfl rfl a0 len0 cap0 l0 rfl (HW.out.below hb3') (by omega) ?_; intro A4 c4 w4 hB4 hc4 hb4 ho4; have H4 := Lib.hid hB4; have hb4' := hb3'.trans (hb4.mono hb3'.size); clear hB4 ho4)
    | (go_at_call 15; with_reducible refine (Number_any A4 len0 c4 l0 _ H4.out).mono ?_; rintro e w' ⟨rfl, rfl⟩)
    | (go_at_call 16; refine (RefNumber_any _ _ _ l0 _ (HW.out.below hb4')).mono ?_; rintro e w' ⟨rfl, rfl⟩)
    | (go_at_call 15; refine (Number_any _ _ _ [1, 2] _ (two_new _)).mono ?_; rintro e w' ⟨rfl, rfl⟩)
    | (go_at_call 17; refine (Same_same _ _ _ _ _ _ (bytesL a2 a3) _ ?hx ?hy ?hz).mono ?_; rotate_left 3; rintro e w' ⟨rfl, m2, rfl⟩))
  case hx => exact (H2'.out.below hb4).below ((Below.refl _ _).alloc (Nat.le_refl _) _)
  case hy => exact (H3.out.below hb4).below ((Below.refl _ _).alloc (Nat.le_refl _) _)
  case hz => have := H2.out.1; omega
  go_ret
  exact ⟨rfl, below_drewN (hb4'.alloc hb4'.size _) _⟩

set_option maxRecDepth 100000 in
theorem lifted (os : Os) (started : os.Started) (H : Type) (enc : TypeId × Value → H) :
    ReturnsInHanded {} Try.checked os 5 .any (Rows.bitsWordsSpec.pre6 enc Try.prog Try.f5 Rows.bitsWordsRow.domain false) (Rows.bitsWordsSpec.post enc Try.prog Try.f5 false true false false) := by
  refine returnsInHanded_of_change_sized (C := Try.checked) own started (by kernel_rfl) Try.func5
    (ChangeSpec.witness6 (enc := enc) (C := Try.checked) false ⟨#[], #[.slice none 0 0, .int .i64 0, .int .u64 0, .int .i64 0], []⟩ 8 (by kernel_rfl) (by kernel_rfl) (by kernel_rfl) (by kernel_rfl)) ?_
  intro W base args ds gs before hval0 hW hcnd hsz0 _
  have hval : ∀ (j : Nat) t v, Try.f5.params[j]? = some t → args[j]? = some v → Value.okWide Try.prog W .any base t v := hval0
  have hW' := hW
  obtain ⟨p, q, hA0, hV, rfl, hfz, hnd⟩ := hW
  have hA : DataW.TrodAll enc Try.prog W 0 (fun _ => true) true Try.f5.params.toList args.toList ds p := hA0
  have hsz : (DataW.weightsEach Try.prog (Try.f5.params.toList ++ Rows.bitsWordsSpec.plain.varTypes Try.prog) (ds ++ gs)).all (· ≤ reachBytes) = true := hsz0
  rw [Try.params5] at hA hval hsz
  obtain ⟨v0, vs0, d0, ds0, p0, q0, hargs, rfl, rfl, h0, r0⟩ := trodAll_cons hA
  obtain ⟨v1, vs1, d1, ds1, p1, q1, rfl, rfl, rfl, h1, r1⟩ := trodAll_cons r0
  obtain ⟨v2, vs2, d2, ds2, p2, q2, rfl, rfl, rfl, h2, r2⟩ := trodAll_cons r1
  obtain ⟨v3, vs3, d3, ds3, p3, q3, rfl, rfl, rfl, h3, r3⟩ := trodAll_cons r2
  obtain ⟨rfl, rfl, rfl⟩ := trodAll_nil r3
  obtain rfl : args = #[v0, v1, v2, v3] := by cases args; simp_all
  obtain ⟨rfl, rfl⟩ := trodVars_none hV
  obtain ⟨a0, len0, cap0, rfl⟩ := okWide_slice Try.underlying26 (hval 0 26 v0 rfl rfl)
  have k0 := h0
  have lt0 : ∀ x ∈ p0, x.block < W.heap.size := by obtain ⟨m, hm⟩ := k0; exact DataW.trod_lt m _ _ _ hm
  obtain ⟨l0, w0, s0⟩ : ∃ l, Bs W a0 len0 l ∧ len0 ≤ cap0 ∧ cap0 ≤ 140737488351232 := by
    obtain ⟨fuel, hf⟩ := h0
    rcases open_ints Try.underlying26 Try.underlying5 (by kernel_rfl) hf with ⟨hcs, _⟩ | ⟨x, l, c, zs, hcs, _, hl, hm, hz, hx, hcell, hwz⟩
    · simp [Value.cells] at hcs
      obtain ⟨rfl, rfl, rfl⟩ := hcs
      exact ⟨[], Bs.nil _ _, by omega, by omega⟩
    · simp [Value.cells] at hcs
      obtain ⟨rfl, rfl, rfl⟩ := hcs
      simp only [Prod.mk.injEq] at hx
      obtain ⟨rfl, _⟩ := hx
      have hb := sized_slice hsz (j := 0) (t := 26) (e := 5) rfl rfl Try.underlying26
      rw [show Try.prog.bytesOf 5 = 1 from by kernel_rfl] at hb
      simp only [lits, List.length_map, List.length_take, List.length_drop, reachBytes] at hb
      have hz' : zs.length = cap0 := by simpa using hz
      exact ⟨_, Bs.of_ints hl hz' hcell hwz, hl, by omega⟩
  obtain ⟨a1, rfl, rfl, rfl, w1⟩ := open_int Try.underlying3 (hval 1 3 v1 rfl rfl) h1
  obtain ⟨a2, rfl, rfl, rfl, w2⟩ := open_int Try.underlying27 (hval 2 27 v2 rfl rfl) h2
  obtain ⟨a3, rfl, rfl, rfl, w3⟩ := open_int Try.underlying3 (hval 3 3 v3 rfl rfl) h3
  clear hA0 hval0
  refine (walk a0 len0 cap0 l0 a1 a2 a3 W w0 s0 w1 w2 w3).mono fun e W' ⟨he, bel⟩ => ?_
  subst he
  exact ⟨_, rfl, _, _, _, [], _, [], hW', trodAll_mk1 (shut_bool Try.underlying4 _), (trodAll_cons_mk (Below.trod laidOut (by kernel_rfl) (of_decide_eq_true (by kernel_rfl)) k0 bel lt0) (trodAll_cons_mk (shut_int Try.underlying3 w1) (trodAll_cons_mk (shut_int Try.underlying27 w2) (trodAll_cons_mk (shut_int Try.underlying3 w3) trodAll_mk0)))), rfl, bel.frame _, fun h => by cases h⟩

theorem over : Rows.bitsWordsRow.holds Try.pinned (OpenSpec.ofChange Rows.bitsWordsSpec) :=
  OpenClaim.holds_of_wide 5 Try.f5 rfl rfl rfl rfl rfl rfl rfl ⟨rfl, rfl, rfl, rfl, rfl⟩ rfl rfl rfl rfl rfl (by kernel_rfl) Try.func5 (by kernel_rfl)
    (of_decide_eq_true (by kernel_rfl)) (by unfold Func.isWrapper; first | (rw [if_pos (by decide +kernel)]; kernel_rfl) | (rw [if_neg (by decide +kernel)]; exact ⟨rfl, rfl⟩))
    (fun os started H enc _ => lifted os started H enc)

theorem bitsWords_holds : Rows.BitsWordsSaid := over
#print axioms bitsWords_holds
end Go.Proofs.Ytlhookkmneeefaa.bitsWords
