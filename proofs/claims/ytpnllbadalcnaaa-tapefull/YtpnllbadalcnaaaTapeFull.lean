/-
  TapeFull, whole (Rows.TapeFullSaid): a file takes bytes up to MaxTape (2^20) of them, and refuses with ErrFull what would be more; what it has is just what was taken; and the document's example. No conditions.
  The frame is the shell of the proof by program (proof-skeleton); the walk is mine.
-/
import Derived.Test.YtpnllbadalcnaaaRows
import Derived.WalkKit
import Derived.ProofKit
import Derived.OpenShut
import Derived.ShutString
import Derived.ChangeOld
import Derived.Below
import Derived.SizedLaws
import Derived.Test.YtpnllbadalcnaaaFree
namespace Go.Proofs.Ytpnllbadalcnaaa.tapeFull
open Go.ChangeShapes Go.WideShapes Go.ChangeAt Go.RowKit
set_option linter.unusedVariables false
theorem own : ownKnob Try.prog.godebug = none := by kernel_rfl
theorem laidOut : laidOutB Try.prog = true := by kernel_rfl
theorem wpList_make {ops : Array Oper} {rest : List Oper} {o : Oper} {a : Act} {w : World} {Q : Exit → Act → World → Prop} (hgd : o.guard = none) (x y : Operand) (ho : o.op = .makeSlice 29 x y) (n : Nat) (z : Int) (hx : a.eval x = .int .i64 z) (hy : a.eval y = .int .i64 z) (hz : z = n) (hn : n ≤ 2000000)
    (h : ∀ g w', w.heap.size ≤ g → Bs w' (some ⟨g, 0, none⟩) n (List.replicate n 0) → Below w.heap.size w w' → wpList Try.prog ops Q rest (a.put o.dst (.slice (some ⟨g, 0, none⟩) n n)) w') : wpList Try.prog ops Q (o :: rest) a w := by
  subst hz
  have hrun := made_byte Try.prog Try.byteTypes n (by omega) w
  refine wpList_plain hgd fun K hK => ?_
  unfold Oper.wp execOp
  simp only [ho, hx, hy, Sem.run_bind, hrun, Result.andThen_ok]
  refine hK _ _ (h _ _ (Nat.le_refl _) ?_ ((Below.refl _ _).alloc (Nat.le_refl _) _))
  refine ((Row.new w 5 (madeCells #[.int .u8 0] n)).own (base := w.heap.size) (Nat.le_refl _) (by simp) (size_madeCells _ _) (by omega) (fun j u hu => ?_)).bs
  obtain ⟨hj, e⟩ := List.getElem?_eq_some_iff.1 hu
  rw [List.length_replicate] at hj
  rw [List.getElem_replicate] at e
  subst e
  simp [madeCells, hj, Nat.mod_one]
set_option maxRecDepth 100000 in
set_option maxHeartbeats 4000000 in
theorem walk (w : World) (a0 : Int) (_w0 : (Lit.int .i64 a0).wf = true) (a1 : Int) (_w1 : (Lit.int .i64 a1).wf = true) (a2 : Int) (_w2 : (Lit.int .i64 a2).wf = true) :
    Calls Try.prog 8 #[.int .i64 a0, .int .i64 a1, .int .i64 a2] w fun e w' => e = .returned (.bool true) ∧ Below w.heap.size w w' := by
  clear _w0 _w1 _w2
  by_cases hz : isF a0
  · have HI := Lib.hid (fun w => show Calls Try.prog 19 #[.int .i64 a0] w (fun e w' => e = .returned (.bool true) ∧ w = w') from by
      have q := Is_any a0 w
      rw [show decide (isF a0) = true by simp [hz]] at q
      exact q)
    by_cases h1 : a1 < 0
    · clear hz
      go_enter Try.func8, Try.ntmps8
      go_wp2_with (first
        | (go_at_call 19; refine (HI.out _).mono ?_; rintro e1 w1 ⟨rfl, rfl⟩)
        | (go_at_call 11; refine (awake_any _).mono ?_; rintro e2 w2 ⟨rfl, hb2⟩))
      go_ret
      exact ⟨rfl, hb2⟩
    by_cases h2 : 4 < a1
    · clear hz
      go_enter Try.func8, Try.ntmps8
      go_wp2_with (first
        | (go_at_call 19; refine (HI.out _).mono ?_; rintro e1 w1 ⟨rfl, rfl⟩)
        | (go_at_call 11; refine (awake_any _).mono ?_; rintro e2 w2 ⟨rfl, hb2⟩))
      go_ret
      exact ⟨rfl, hb2⟩
    by_cases h3 : a2 < 0
    · clear hz
      go_enter Try.func8, Try.ntmps8
      go_wp2_with (first
        | (go_at_call 19; refine (HI.out _).mono ?_; rintro e1 w1 ⟨rfl, rfl⟩)
        | (go_at_call 11; refine (awake_any _).mono ?_; rintro e2 w2 ⟨rfl, hb2⟩))
      go_ret
      exact ⟨rfl, hb2⟩
    by_cases h4 : 8 < a2
    · clear hz
      go_enter Try.func8, Try.ntmps8
      go_wp2_with (first
        | (go_at_call 19; refine (HI.out _).mono ?_; rintro e1 w1 ⟨rfl, rfl⟩)
        | (go_at_call 11; refine (awake_any _).mono ?_; rintro e2 w2 ⟨rfl, hb2⟩))
      go_ret
      exact ⟨rfl, hb2⟩
    obtain ⟨i, rfl, hi, _⟩ := isF_nat hz
    obtain ⟨p, rfl⟩ := Int.eq_ofNat_of_zero_le (show 0 ≤ a1 by omega)
    obtain ⟨q, rfl⟩ := Int.eq_ofNat_of_zero_le (show 0 ≤ a2 by omega)
    obtain ⟨N, hN⟩ : ∃ N : Nat, 1048576 = N + p := ⟨1048576 - p, by omega⟩
    have hNZ : (1048576 : Int) - (p : Int) = (N : Int) := by omega
    have hw1 : wrap64 ((1048576 : Int) - (p : Int)) = (N : Int) := by unfold wrap64; omega
    have h0N : (Tp.new.f i).now.length = 0 := rfl
    obtain ⟨S1, hS1⟩ : ∃ S1, (Tp.new.append (i : Int) (List.replicate N 0)).1 = S1 := ⟨_, rfl⟩
    obtain ⟨f1, f2, f3, _⟩ := append_free (S := Tp.new) (i := i) (l := List.replicate N 0) free_new hi (by rw [h0N, List.length_replicate]; omega)
    have ok1 : S1.ok N := by rw [← hS1]; have := append_ok (K := 0) (i : Int) (List.replicate N 0) (ok_new 0); rw [List.length_replicate, Nat.zero_add] at this; exact this
    rw [hS1] at f2 f3
    have n1 : (S1.f i).now = List.replicate N 0 := by rw [f3]; show play [] ([] ++ (List.replicate N 0).map Stp.app) = _; rw [List.nil_append, play_apps, List.nil_append]
    have HA1 := Lib.hid (fun g F w A c (h : Tap w g F Tp.new) (hB : Bs w A N (List.replicate N 0)) hA => show Calls Try.prog 23 #[.pointer (some ⟨g, 0, none⟩), .int .i64 (i : Int), .slice A N c] w (fun e w' => e = .returned (.int .i64 0) ∧ Grow w g F S1 w') from by
      have r := App_any g 0 N c (i : Int) A (List.replicate N 0) F w h (ok_new 0) (by omega) hB hA
      unfold Did at r
      rw [f1, hS1] at r
      exact r)
    have HI' := HI
    have i1 : ¬ (p : Int) < 0 := by omega
    have i2 : ¬ (4 : Int) < (p : Int) := by omega
    have i3 : ¬ (q : Int) < 0 := by omega
    have i4 : ¬ (8 : Int) < (q : Int) := by omega
    have hNl : N ≤ 1048576 := by omega
    clear HI
    by_cases hm : p < q
    · have hfull := append_full (S := S1) (i := i) (l := List.replicate q 0) f2 hi (by rw [n1, List.length_replicate, List.length_replicate]; omega)
      have HA2 := Lib.hid (fun g F w A c (h : Tap w g F S1) (hB : Bs w A q (List.replicate q 0)) hA => show Calls Try.prog 23 #[.pointer (some ⟨g, 0, none⟩), .int .i64 (i : Int), .slice A q c] w (fun e w' => e = .returned (.int .i64 90) ∧ Grow w g F S1 w') from by
        have r := App_any g N q c (i : Int) A (List.replicate q 0) F w h ok1 (by omega) hB hA
        unfold Did at r
        rw [hfull] at r
        exact r)
      have HA3 := Lib.hid (fun g F w (h : Tap w g F S1) => show Calls Try.prog 22 #[.pointer (some ⟨g, 0, none⟩), .int .i64 (i : Int)] w (fun e w' => ∃ A c, e = .returned (.tuple #[.slice A N c, .int .i64 0]) ∧ Below w.heap.size w w') from by
        have r := Read_any g N (i : Int) F w h ok1 (by omega)
        obtain ⟨r1, r2⟩ := read_free f2 hi
        rw [r1, r2, n1] at r
        refine r.mono ?_
        rintro e w' ⟨A, n, c, rfl, ho, hb⟩
        have hl := ho.length
        rw [List.length_replicate] at hl
        rw [← hl]
        exact ⟨A, c, rfl, hb⟩)
      have hmI : (p : Int) < (q : Int) := by omega
      have hq : q ≤ 8 := by omega
      have hwq : IntKind.i64.wrap (q : Int) = (q : Int) := by rw [IntKind.wrap_i64]; omega
      clear h1 h2 h3 h4 hz hm hfull f1 f2 f3 hS1 n1 h0N ok1
      clear hN
      go_enter Try.func8, Try.ntmps8
      go_wp2_with (first
        | (go_at_call 19; refine (HI'.out _).mono ?_; rintro e1 w1 ⟨rfl, rfl⟩)
        | (go_at_call 12; refine (New_any _).mono ?_; rintro e1 w1 ⟨g, rfl, hg, ht1, hb1⟩; have HT1 := Lib.hid ht1; have HF1 := Lib.hid (fun b (q : Foot g (fun _ _ => False) b) => show w.heap.size ≤ b from q.elim (fun q2 => by rw [q2]; exact hg) (fun ⟨_, q2⟩ => q2.elim)); clear ht1)
        | (with_reducible refine wpList_make rfl (.tmp 41) (.tmp 41) rfl q _ rfl rfl rfl (by omega) ?_; intro g4 w5 hg4 hB4 hb4; have HB4 := Lib.hid hB4; have b5 := b3.trans (hb4.mono b3.size); have HT5 := Lib.hid (HT3.out.below hb4); have HL5 := Lib.hid (lit_foot HT3.out hg4); clear hB4)
        | (with_reducible refine wpList_make rfl (.tmp 36) (.tmp 36) rfl N _ rfl rfl rfl (by omega) ?_; intro g2 w2 hg2 hB2 hb2; have HB2 := Lib.hid hB2; have b2 := hb1.trans (hb2.mono hb1.size); have HT2 := Lib.hid (HT1.out.below hb2); have HL2 := Lib.hid (lit_foot HT1.out hg2); clear hB2)
        | (go_at_call 23; have hz := HT5; clear hz; refine (HA2.out g F3 w5 _ _ HT5.out HB4.out HL5.out).mono ?_; rintro e6 w6 ⟨rfl, ⟨F6, hF6, ht6⟩, ho6⟩; have HT6 := Lib.hid ht6; have b6 := b5.trans (ho6.below HF3.out b5.size); clear ht6 hF6 ho6)
        | (go_at_call 23; refine (HA1.out g _ w2 _ _ HT2.out HB2.out HL2.out).mono ?_; rintro e3 w3 ⟨rfl, ⟨F3, hF3, ht3⟩, ho3⟩; have HT3 := Lib.hid ht3; have HF3 := Lib.hid (fun b (q : Foot g F3 b) => show w.heap.size ≤ b from (hF3.foot b q).elim (HF1.out b) (fun q2 => Nat.le_trans b2.size q2)); have b3 := b2.trans (ho3.below HF1.out b2.size); clear ht3 hF3 ho3)
        | (go_at_call 22; refine (HA3.out g F6 w6 HT6.out).mono ?_; rintro e7 w7 ⟨A7, c7, rfl, hb7⟩; have b7 := b6.trans (hb7.mono b6.size))
        | (go_at_call 11; refine (awake_any _).mono ?_; rintro e8 w8 ⟨rfl, hb8⟩))
      go_ret
      exact ⟨rfl, b7.trans (hb8.mono b7.size)⟩
    · obtain ⟨S2, hS2⟩ : ∃ S2, (S1.append (i : Int) (List.replicate q 0)).1 = S2 := ⟨_, rfl⟩
      obtain ⟨k1, k2, k3, _⟩ := append_free (S := S1) (i := i) (l := List.replicate q 0) f2 hi (by rw [n1, List.length_replicate, List.length_replicate]; omega)
      have ok2 : S2.ok (N + q) := by rw [← hS2]; have := append_ok (i : Int) (List.replicate q 0) ok1; rw [List.length_replicate] at this; exact this
      rw [hS2] at k2 k3
      have n2 : (S2.f i).now = List.replicate N 0 ++ List.replicate q 0 := by rw [k3]; unfold Fl.now; simp only; rw [play_app, play_apps]; show (S1.f i).now ++ _ = _; rw [n1]
      have HA2 := Lib.hid (fun g F w A c (h : Tap w g F S1) (hB : Bs w A q (List.replicate q 0)) hA => show Calls Try.prog 23 #[.pointer (some ⟨g, 0, none⟩), .int .i64 (i : Int), .slice A q c] w (fun e w' => e = .returned (.int .i64 0) ∧ Grow w g F S2 w') from by
        have r := App_any g N q c (i : Int) A (List.replicate q 0) F w h ok1 (by omega) hB hA
        unfold Did at r
        rw [k1, hS2] at r
        exact r)
      have HA3 := Lib.hid (fun g F w (h : Tap w g F S2) => show Calls Try.prog 22 #[.pointer (some ⟨g, 0, none⟩), .int .i64 (i : Int)] w (fun e w' => ∃ A c, e = .returned (.tuple #[.slice A (N + q) c, .int .i64 0]) ∧ Below w.heap.size w w') from by
        have r := Read_any g (N + q) (i : Int) F w h ok2 (by omega)
        obtain ⟨r1, r2⟩ := read_free k2 hi
        rw [r1, r2, n2] at r
        refine r.mono ?_
        rintro e w' ⟨A, n, c, rfl, ho, hb⟩
        have hl := ho.length
        rw [List.length_append, List.length_replicate, List.length_replicate] at hl
        rw [← hl]
        exact ⟨A, c, rfl, hb⟩)
      have hmI : ¬ (p : Int) < (q : Int) := by omega
      have hq : q ≤ 8 := by omega
      clear h1 h2 h3 h4 hz hm f1 f2 f3 hS1 n1 h0N ok1 k1 k2 k3 hS2 n2 ok2
      clear hN
      go_enter Try.func8, Try.ntmps8
      go_wp2_with (first
        | (go_at_call 19; refine (HI'.out _).mono ?_; rintro e1 w1 ⟨rfl, rfl⟩)
        | (go_at_call 12; refine (New_any _).mono ?_; rintro e1 w1 ⟨g, rfl, hg, ht1, hb1⟩; have HT1 := Lib.hid ht1; have HF1 := Lib.hid (fun b (q : Foot g (fun _ _ => False) b) => show w.heap.size ≤ b from q.elim (fun q2 => by rw [q2]; exact hg) (fun ⟨_, q2⟩ => q2.elim)); clear ht1)
        | (with_reducible refine wpList_make rfl (.tmp 41) (.tmp 41) rfl q _ rfl rfl rfl (by omega) ?_; intro g4 w5 hg4 hB4 hb4; have HB4 := Lib.hid hB4; have b5 := b3.trans (hb4.mono b3.size); have HT5 := Lib.hid (HT3.out.below hb4); have HL5 := Lib.hid (lit_foot HT3.out hg4); clear hB4)
        | (with_reducible refine wpList_make rfl (.tmp 36) (.tmp 36) rfl N _ rfl rfl rfl (by omega) ?_; intro g2 w2 hg2 hB2 hb2; have HB2 := Lib.hid hB2; have b2 := hb1.trans (hb2.mono hb1.size); have HT2 := Lib.hid (HT1.out.below hb2); have HL2 := Lib.hid (lit_foot HT1.out hg2); clear hB2)
        | (go_at_call 23; have hz := HT5; clear hz; refine (HA2.out g F3 w5 _ _ HT5.out HB4.out HL5.out).mono ?_; rintro e6 w6 ⟨rfl, ⟨F6, hF6, ht6⟩, ho6⟩; have HT6 := Lib.hid ht6; have b6 := b5.trans (ho6.below HF3.out b5.size); clear ht6 hF6 ho6)
        | (go_at_call 23; refine (HA1.out g _ w2 _ _ HT2.out HB2.out HL2.out).mono ?_; rintro e3 w3 ⟨rfl, ⟨F3, hF3, ht3⟩, ho3⟩; have HT3 := Lib.hid ht3; have HF3 := Lib.hid (fun b (q : Foot g F3 b) => show w.heap.size ≤ b from (hF3.foot b q).elim (HF1.out b) (fun q2 => Nat.le_trans b2.size q2)); have b3 := b2.trans (ho3.below HF1.out b2.size); clear ht3 hF3 ho3)
        | (go_at_call 22; refine (HA3.out g F6 w6 HT6.out).mono ?_; rintro e7 w7 ⟨A7, c7, rfl, hb7⟩; have b7 := b6.trans (hb7.mono b6.size))
        | (go_at_call 11; refine (awake_any _).mono ?_; rintro e8 w8 ⟨rfl, hb8⟩))
      go_ret
      exact ⟨rfl, b7.trans (hb8.mono b7.size)⟩
  · have HI := Lib.hid (fun w => show Calls Try.prog 19 #[.int .i64 a0] w (fun e w' => e = .returned (.bool false) ∧ w = w') from by
      have q := Is_any a0 w
      rw [show decide (isF a0) = false by simp [hz]] at q
      exact q)
    clear hz
    go_enter Try.func8, Try.ntmps8
    go_wp2_with (first
      | (go_at_call 19; refine (HI.out _).mono ?_; rintro e1 w1 ⟨rfl, rfl⟩)
      | (go_at_call 11; refine (awake_any _).mono ?_; rintro e2 w2 ⟨rfl, hb2⟩))
    go_ret
    exact ⟨rfl, hb2⟩

set_option maxRecDepth 100000 in
theorem lifted (os : Os) (started : os.Started) (H : Type) (enc : TypeId × Value → H) :
    ReturnsInHanded {} Try.checked os 8 .any (Rows.tapeFullSpec.pre6 enc Try.prog Try.f8 Rows.tapeFullRow.domain false) (Rows.tapeFullSpec.post enc Try.prog Try.f8 false true false false) := by
  refine returnsInHanded_of_change_sized (C := Try.checked) own started (by kernel_rfl) Try.func8
    (ChangeSpec.witness6 (enc := enc) (C := Try.checked) false ⟨#[], #[.int .i64 0, .int .i64 0, .int .i64 0], []⟩ 8 (by kernel_rfl) (by kernel_rfl) (by kernel_rfl) (by kernel_rfl)) ?_
  intro W base args ds gs before hval0 hW hcnd hsz0 _
  have hval : ∀ (j : Nat) t v, Try.f8.params[j]? = some t → args[j]? = some v → Value.okWide Try.prog W .any base t v := hval0
  have hW' := hW
  obtain ⟨p, q, hA0, hV, rfl, hfz, hnd⟩ := hW
  have hA : DataW.TrodAll enc Try.prog W 0 (fun _ => true) true Try.f8.params.toList args.toList ds p := hA0
  have hsz : (DataW.weightsEach Try.prog (Try.f8.params.toList ++ Rows.tapeFullSpec.plain.varTypes Try.prog) (ds ++ gs)).all (· ≤ reachBytes) = true := hsz0
  rw [Try.params8] at hA hval hsz
  obtain ⟨v0, vs0, d0, ds0, p0, q0, hargs, rfl, rfl, h0, r0⟩ := trodAll_cons hA
  obtain ⟨v1, vs1, d1, ds1, p1, q1, rfl, rfl, rfl, h1, r1⟩ := trodAll_cons r0
  obtain ⟨v2, vs2, d2, ds2, p2, q2, rfl, rfl, rfl, h2, r2⟩ := trodAll_cons r1
  obtain ⟨rfl, rfl, rfl⟩ := trodAll_nil r2
  obtain rfl : args = #[v0, v1, v2] := by cases args; simp_all
  obtain ⟨rfl, rfl⟩ := trodVars_none hV
  obtain ⟨a0, rfl, rfl, rfl, w0⟩ := open_int Try.underlying3 (hval 0 3 v0 rfl rfl) h0
  obtain ⟨a1, rfl, rfl, rfl, w1⟩ := open_int Try.underlying3 (hval 1 3 v1 rfl rfl) h1
  obtain ⟨a2, rfl, rfl, rfl, w2⟩ := open_int Try.underlying3 (hval 2 3 v2 rfl rfl) h2
  clear hA0 hval0
  refine (walk W a0 w0 a1 w1 a2 w2).mono fun e W' ⟨he, bel⟩ => ?_
  subst he
  exact ⟨_, rfl, _, _, _, [], _, [], hW', trodAll_mk1 (shut_bool Try.underlying4 _), (trodAll_cons_mk (shut_int Try.underlying3 w0) (trodAll_cons_mk (shut_int Try.underlying3 w1) (trodAll_cons_mk (shut_int Try.underlying3 w2) trodAll_mk0))), rfl, bel.frame _, fun h => by cases h⟩
theorem over : Rows.tapeFullRow.holds Try.pinned (OpenSpec.ofChange Rows.tapeFullSpec) :=
  OpenClaim.holds_of_wide 8 Try.f8 rfl rfl rfl rfl rfl rfl rfl ⟨rfl, rfl, rfl, rfl, rfl⟩ rfl rfl rfl rfl rfl (by kernel_rfl) Try.func8 (by kernel_rfl)
    (of_decide_eq_true (by kernel_rfl)) (by unfold Func.isWrapper; first | (rw [if_pos (by decide +kernel)]; kernel_rfl) | (rw [if_neg (by decide +kernel)]; exact ⟨rfl, rfl⟩))
    (fun os started H enc _ => lifted os started H enc)
theorem tapeFull_holds : Rows.TapeFullSaid := over
#print axioms tapeFull_holds
end Go.Proofs.Ytpnllbadalcnaaa.tapeFull
