/-
  What wire.readLength, wire.readText and wire.readList answer, of whatever bytes.
-/
import Derived.Test.YtjifahocfbbicaaRdr
namespace Go.Proofs.Ytjifahocfbbicaa
open Go.RowKit
section
variable {P : Program}
theorem wpList_head {t e : TypeId} (T : ByteTypes P t e) {ops : Array Oper} {rest : List Oper} {o : Oper} {a : Act} {w : World} {Q : Exit → Act → World → Prop} (hgd : o.guard = none) (x z : Operand)
    (ho : o.op = .slice t x none (some z) none) (A : Option Addr) (n c m : Nat) (hx : a.eval x = .slice A n c) (hz : a.eval z = .int .i64 (m : Int)) (hm : m ≤ n) (hnc : n ≤ c)
    (h : ∀ A', (∀ w l, Bs w A n l → Bs w A' m (l.take m)) → wpList P ops Q rest (a.put o.dst (.slice A' m c)) w) : wpList P ops Q (o :: rest) a w := by
  have hrun : ∃ A', (∀ w, (Instr.sliceAt t (.slice A n c) none (some (.int .i64 (m : Int))) none).run P w = .ok (.slice A' m c) w) ∧ (∀ w l, Bs w A n l → Bs w A' m (l.take m)) := by
    refine ⟨if c = 0 then A else A.map (·.add (0 * 1)), fun w => ?_, fun w l hb => ?_⟩
    · have h2 : (m : Int) ≤ c := by omega
      simp [Instr.sliceAt, Instr.slice, run_underlying T.ht, Instr.sliceBounds, run_sliceBound, size_of T w, h2]
    · by_cases hc : c = 0
      · rw [if_pos hc]; exact hb.take hm
      · rw [if_neg hc]
        by_cases hn : n = 0
        · rw [show m = 0 by omega, List.take_zero]; exact Bs.nil _ _
        · obtain ⟨b, off, x, hA, _⟩ := hb.get (k := 0) (by omega)
          subst hA
          rw [Option.map_some, Addr.add_mid]
          exact hb.take hm
  obtain ⟨A', hrun, hA'⟩ := hrun
  refine wpList_plain hgd fun K hK => ?_
  unfold Oper.wp execOp
  simp [ho, hx, hz, hrun, Result.andThen]
  exact hK _ _ (h A' hA')
end
theorem triple {α β : Type} (r : Int × α × β) : ∃ E V S, r = (E, V, S) := ⟨r.1, r.2.1, r.2.2, rfl⟩
set_option maxHeartbeats 1000000 in
theorem readLength_any (A : Option Addr) (n c : Nat) (l : List UInt8) (g : Nat) (v : Value) (most : Int) (w : World) (hB : Bs w A n l) (hnc : n ≤ c) (hn : n ≤ 1000000000000) (hr : Row w g 61 #[v, .int .i64 0]) (hm : most < 9223372036854775808) :
    Calls Try.prog 48 #[.slice A n c, .int .i64 most, failV g] w (Rd2 w g v .i64 (rdLen l most)) := by
  have HN := Lib.hid (readNum_any A n c l g v w hB hnc hn hr)
  have hlt := rdNum_lt l
  have hok := rdNum_ok l
  obtain ⟨E1, V1, S1, hq⟩ := triple (rdNum l)
  have HD : Hid (rdLen l most = if E1 = 0 then (if most < V1 then (42, 0, 0) else (E1, V1, S1)) else (E1, V1, S1)) := Lib.hid (by unfold rdLen; rw [hq])
  have hcs : E1 ≠ 0 → V1 = 0 := fun h => by
    rcases rdNum_cases l with ⟨_, h2⟩ | ⟨x, r, rfl, _, _, _, h2⟩
    · rw [hq] at h2; exact congrArg Prod.fst h2
    · rw [hq] at h2; exact absurd (congrArg Prod.fst h2) h
  rw [hq] at HN hlt hok
  simp only at hlt hok
  unfold Rd2 at HN
  simp only at HN
  generalize rdLen l most = q at *
  clear hB hr hq
  by_cases hS : S1 = 0
  · subst hS
    have hE : E1 ≠ 0 := fun h => absurd rfl (hok.1 h)
    have HQ := Lib.hid (show q = (E1, 0, 0) by rw [HD.out, if_neg hE, hcs hE])
    clear HD hok hcs hE
    unfold failV at *
    go_enter Try.func48, Try.ntmps48
    go_wp2_with (go_at_call 41; refine HN.out.mono ?_; rintro e w1 ⟨rfl, h1, h2⟩)
    go_ret2
    rw [HQ.out]
    exact ⟨rfl, h1, h2⟩
  · obtain rfl : E1 = 0 := hok.2 hS
    have hS2 : ((S1 : Int) == 0) = false := by simp; omega
    by_cases hmost : most < (V1 : Int)
    · have HQ := Lib.hid (show q = (42, 0, 0) by rw [HD.out, if_pos rfl, if_pos hmost])
      clear HD hok hcs hS
      by_cases h0 : most < 0
      · unfold failV at *
        go_enter Try.func48, Try.ntmps48
        go_wp2_with (first
          | (go_at_call 41; refine HN.out.mono ?_; rintro e w1 ⟨rfl, h1, h2⟩)
          | (go_at_call 42; refine (fail_any g v _ 42 _ h1).mono ?_; rintro e w2 ⟨rfl, h3, h4⟩))
        go_ret2
        rw [HQ.out]
        exact ⟨rfl, h3, h2.trans h4⟩
      · unfold failV at *
        go_enter Try.func48, Try.ntmps48
        go_wp2_with (first
          | (go_at_call 41; refine HN.out.mono ?_; rintro e w1 ⟨rfl, h1, h2⟩)
          | (go_at_call 42; refine (fail_any g v _ 42 _ h1).mono ?_; rintro e w2 ⟨rfl, h3, h4⟩))
        go_ret2
        rw [HQ.out]
        exact ⟨rfl, h3, h2.trans h4⟩
    · have HQ := Lib.hid (show q = (0, V1, S1) by rw [HD.out, if_pos rfl, if_neg hmost])
      have h0 : ¬ most < 0 := by omega
      clear HD hok hcs hS
      unfold failV at *
      go_enter Try.func48, Try.ntmps48
      go_wp2_with (go_at_call 41; refine HN.out.mono ?_; rintro e w1 ⟨rfl, h1, h2⟩)
      go_ret2
      rw [HQ.out]
      exact ⟨rfl, h1, h2⟩
/-- a text's reading -/
def RdT (w : World) (g : Nat) (v : Value) (r : Int × List UInt8 × Nat) (e : Ending) (w' : World) : Prop :=
  ∃ A c, e = .returned (.tuple #[.slice A r.2.1.length c, .int .i64 (r.2.2 : Int)]) ∧ r.2.1.length ≤ c ∧ Own w' w.heap.size 5 (.slice A r.2.1.length c) r.2.1.length r.2.1 ∧ Row w' g 61 #[v, .int .i64 r.1] ∧ Only g w w'
set_option maxHeartbeats 1000000 in
theorem readText_any (A : Option Addr) (n c : Nat) (l : List UInt8) (g : Nat) (v : Value) (most : Int) (w : World) (hB : Bs w A n l) (hA : Apart A n g) (hnc : n ≤ c) (hn : n ≤ 1000000000000) (hr : Row w g 61 #[v, .int .i64 0]) (hm : most < 9223372036854775808) :
    Calls Try.prog 44 #[.slice A n c, .int .i64 most, failV g] w (RdT w g v (rdText l most)) := by
  have HN := Lib.hid (readLength_any A n c l g v most w hB hnc hn hr hm)
  have hlt := rdLen_lt l most
  have hok := rdLen_ok l most
  have hsz := rdLen_size l most
  have hl := hB.1
  have hgw := hr.lt
  obtain ⟨E1, V1, S1, hq⟩ := triple (rdLen l most)
  have HD : Hid (rdText l most = if E1 = 0 then (if l.length < S1 + V1 then (40, [], 0) else (0, (l.drop S1).take V1, S1 + V1)) else (E1, [], 0)) := Lib.hid (by unfold rdText; rw [hq])
  rw [hq] at HN hlt hok hsz
  rw [hl] at hsz HD
  simp only at hlt hok hsz
  unfold Rd2 at HN
  simp only at HN
  generalize rdText l most = q at *
  have HB := Lib.hid hB
  have HA := Lib.hid hA
  clear hB hA hr hq hl
  by_cases hS : S1 = 0
  · subst hS
    have hE : E1 ≠ 0 := fun h => absurd rfl (hok.1 h)
    have HQ := Lib.hid (show q = (E1, [], 0) by rw [HD.out, if_neg hE])
    clear HD hok hE
    unfold failV at *
    go_enter Try.func44, Try.ntmps44
    go_wp2_with (go_at_call 48; refine HN.out.mono ?_; rintro e w1 ⟨rfl, h1, h2⟩)
    go_ret2
    rw [HQ.out]
    exact ⟨none, 0, rfl, Nat.le_refl _, Own.nil _ _ _, h1, h2⟩
  · obtain rfl : E1 = 0 := hok.2 hS
    have hS2 : ((S1 : Int) == 0) = false := by simp; omega
    by_cases hv : n < S1 + V1
    · have HQ := Lib.hid (show q = (40, [], 0) by rw [HD.out, if_pos rfl, if_pos hv])
      have hv2 : ((n - S1 : Nat) : Int) < (V1 : Int) := by omega
      clear HD hok hS
      unfold failV at *
      go_enter Try.func44, Try.ntmps44
      go_wp2_with (first
        | (go_at_call 48; refine HN.out.mono ?_; rintro e w1 ⟨rfl, h1, h2⟩)
        | ((with_reducible refine wpList_from Try.byteTypes rfl (.tmp 20) (.tmp 21) rfl A n c S1 rfl rfl hsz hnc ?_); intro A1 hA1 hI1)
        | (go_at_call 42; refine (fail_any g v _ 40 _ h1).mono ?_; rintro e w2 ⟨rfl, h3, h4⟩))
      go_ret2
      rw [HQ.out]
      exact ⟨none, 0, rfl, Nat.le_refl _, Own.nil _ _ _, h3, h2.trans h4⟩
    · have HQ := Lib.hid (show q = (0, (l.drop S1).take V1, S1 + V1) by rw [HD.out, if_pos rfl, if_neg hv])
      have hv2 : (V1 : Int) ≤ ((n - S1 : Nat) : Int) := by omega
      clear HD hok hS
      unfold failV at *
      go_enter Try.func44, Try.ntmps44
      go_wp2_with (first
        | (go_at_call 48; refine HN.out.mono ?_; rintro e w1 ⟨rfl, h1, h2⟩; have hs1 := h2.size)
        | ((with_reducible refine wpList_from Try.byteTypes rfl (.tmp 20) (.tmp 21) rfl A n c S1 rfl rfl hsz hnc ?_); intro A1 hA1 hI1)
        | ((with_reducible refine wpList_head Try.byteTypes rfl (.tmp 29) (.tmp 30) rfl A1 (n - S1) (c - S1) V1 rfl rfl (by omega) (by omega) ?_); intro A2 hA2)
        | (go_at_call 40; refine (Clone_any A2 V1 (c - S1) _ w1 (hA2 _ _ (hA1 _ _ (HB.out.only HA.out h2))) (by omega)).mono ?_; rintro e w2 ⟨A3, c3, rfl, hc3, hb3, ho3⟩))
      go_ret2
      rw [HQ.out]
      exact ⟨A3, c3, by simp, hc3, ho3.mono hs1, h1.below hb3 h1.lt, h2.trans (Only.of_below hb3)⟩
theorem Only.then_below {g : Nat} {a b c : World} (h : Only g a b) (k : Below a.heap.size b c) : Only g a c :=
  ⟨k.os.trans h.os, k.tape.trans h.tape, k.output.trans h.output, Nat.le_trans h.size k.size, fun i hi hg => (k.block i hi).trans (h.block i hi hg)⟩
/-- a list's reading -/
def RdL (w : World) (g : Nat) (v : Value) (r : Int × List (List UInt8) × Nat) (e : Ending) (w' : World) : Prop :=
  ∃ A c, e = .returned (.tuple #[.slice A r.2.1.length c, .int .i64 (r.2.2 : Int)]) ∧ r.2.1.length ≤ c ∧ OwnL w' w.heap.size (.slice A r.2.1.length c) r.2.1.length r.2.1 ∧ Row w' g 61 #[v, .int .i64 r.1] ∧ Only g w w'
theorem OwnL.rdl {w w' : World} {g : Nat} {v : Value} {A : Option Addr} {k c S : Nat} {L : List (List UInt8)} (h : OwnL w' w.heap.size (.slice A k c) k L) (hr : Row w' g 61 #[v, .int .i64 0]) (ho : Only g w w') : RdL w g v (0, L, S) (.returned (.tuple #[.slice A k c, .int .i64 (S : Int)])) w' := by
  have hl := h.length
  subst hl
  obtain ⟨A', c', hv, hc⟩ := h.form
  injection hv with h1 h2 h3
  subst h1 h3
  exact ⟨A, c, rfl, hc, h, hr, ho⟩
set_option maxHeartbeats 2000000 in
theorem readList_any (A : Option Addr) (n c : Nat) (l : List UInt8) (g : Nat) (v : Value) (most each : Int) (w : World) (hB : Bs w A n l) (hA : Apart A n g) (hnc : n ≤ c) (hn : n ≤ 1000000000) (hr : Row w g 61 #[v, .int .i64 0]) (hm : most < 9223372036854775808) (he : each < 9223372036854775808) :
    Calls Try.prog 45 #[.slice A n c, .int .i64 most, .int .i64 each, failV g] w (RdL w g v (rdList l most each)) := by
  have HN := Lib.hid (readLength_any A n c l g v most w hB hnc (by omega) hr hm)
  have hok := rdLen_ok l most
  have hsz := rdLen_size l most
  have hl := hB.1
  have hgw := hr.lt
  have HD := Lib.hid (rdList_no l most each)
  have HP := Lib.hid (rdList_pre l most each)
  have hV := rdLen_cases l most
  obtain ⟨E1, V1, S1, hq⟩ := triple (rdLen l most)
  have hV1 : (V1 : Int) < 9223372036854775808 := by
    rcases hV with ⟨_, h⟩ | ⟨_, h, h2⟩
    · rw [hq] at h
      have h0 : V1 = 0 := congrArg Prod.fst h
      omega
    · rw [← h, hq] at h2
      have h3 : (V1 : Int) ≤ most := h2
      omega
  rw [hq] at HN hok hsz HD HP
  rw [hl] at hsz
  simp only at hok hsz HD HP
  unfold Rd2 at HN
  simp only at HN
  have HB := Lib.hid hB
  have HA := Lib.hid hA
  have HL := Lib.hid hl
  clear hB hA hr hq hl hV
  by_cases hS : S1 = 0
  · subst hS
    have hE : E1 ≠ 0 := fun h => absurd rfl (hok.1 h)
    have HQ := Lib.hid (HD.out hE)
    clear HD HP hok hE
    generalize rdList l most each = q at *
    unfold failV at *
    go_enter Try.func45, Try.ntmps45
    go_wp2_with (go_at_call 48; refine HN.out.mono ?_; rintro e w1 ⟨rfl, h1, h2⟩)
    go_ret2
    rw [HQ.out]
    exact ⟨none, 0, rfl, Nat.le_refl _, OwnL.nil _ _, h1, h2⟩
  · obtain rfl : E1 = 0 := hok.2 hS
    have hS2 : ((S1 : Int) == 0) = false := by simp; omega
    have HQ := Lib.hid (HP.out rfl)
    have hS1 : 0 < S1 := by omega
    clear HD HP hok hS
    generalize rdList l most each = q at *
    unfold failV at *
    go_enter Try.func45, Try.ntmps45
    go_wp2_with (go_at_call 48; refine HN.out.mono ?_; rintro e w1 ⟨rfl, h1, h2⟩; have H1 := Lib.hid h1; have H2 := Lib.hid h2; clear h1 h2)
    go_loopw [11, 12, 25] (fun z o i wr => ∃ (k s : Nat) (A1 : Option Addr) (c1 : Nat) (acc : List (List UInt8)), k ≤ V1 ∧ i = .int .i64 k ∧ z = .int .i64 s ∧ o = .slice A1 k c1 ∧ k ≤ s ∧ s ≤ n ∧ Only g w wr ∧ Row wr g 61 #[v, .int .i64 0] ∧ OwnL wr w.heap.size (.slice A1 k c1) k acc ∧ Hid (q = pre acc s (rdTexts each (V1 - k) (l.drop s)))) (fun _ _ i _ => V1 - (intOf i).toNat)
    case atStart => exact ⟨0, S1, none, 0, [], Nat.zero_le _, rfl, rfl, rfl, Nat.zero_le _, hsz, H2.out, H1.out, OwnL.nil _ _, HQ⟩
    case round =>
      obtain ⟨k, s, A1, c1, acc, hk, rfl, rfl, rfl, hks, hsn, ho, hrow, hown, HQ2⟩ := hrel
      have hsw := ho.size
      by_cases hlt : k < V1
      · have HO := Lib.hid hown
        have HR := Lib.hid hrow
        have HOn := Lib.hid ho
        obtain ⟨E3, T3, S3, hq3⟩ := triple (rdText (l.drop s) each)
        have hok3 := rdText_ok (l.drop s) each
        have hsz3 := rdText_size (l.drop s) each
        rw [hq3, List.length_drop, HL.out] at hsz3
        rw [hq3] at hok3
        simp only at hok3 hsz3
        have HT := Lib.hid (fun A2 h1 h2 => readText_any A2 (n - s) (c - s) (l.drop s) g v each wr h1 h2 (by omega) (by omega) hrow he)
        rw [hq3] at HT
        unfold RdT failV at HT
        simp only at HT
        have hVk : V1 - k = V1 - (k + 1) + 1 := by omega
        have hsnw : s ≤ n := hsn
        by_cases hS3 : S3 = 0
        · have hE3 : E3 ≠ 0 := fun h => absurd hS3 (hok3.1 h)
          have HQ3 := Lib.hid (show q = (E3, [], 0) by rw [HQ2.out, hVk, pre_step_no _ _ _ _ _ (by rw [hq3]; exact hE3), hq3])
          subst hS3
          clear HQ2 HQ hq3 hok3 hE3 hown hrow ho
          go_wp2_with (first
            | ((with_reducible refine wpList_from Try.byteTypes rfl (.tmp 28) (.tmp 29) rfl A n c s rfl rfl hsnw hnc ?_); intro A2 hA2 hI2)
            | (go_at_call 44; refine (HT.out A2 (hA2 _ _ (HB.out.only HA.out HOn.out)) ?_).mono ?_; rotate_left; rintro e w2 ⟨A3, c3, rfl, hc3, ho3, hr3, hon3⟩))
          · go_ret2
            rw [HQ3.out]
            exact ⟨none, 0, rfl, Nat.le_refl _, OwnL.nil _ _, hr3, HOn.out.trans hon3⟩
          · rcases HA.out with h0 | ⟨b, off, hAe, hbg⟩
            · exact .inl (by omega)
            · rcases hI2 b (.inr ⟨off, hAe⟩) with h | ⟨off2, h⟩
              · exact .inl h
              · exact .inr ⟨b, off2, h, hbg⟩
        · obtain rfl : E3 = 0 := hok3.2 hS3
          have HQ3 := Lib.hid (show q = pre (acc ++ [T3]) (s + S3) (rdTexts each (V1 - (k + 1)) (l.drop (s + S3))) by rw [HQ2.out, hVk, pre_step_ok _ _ _ _ _ (by rw [hq3]), hq3, List.drop_drop])
          have hS4 : ((S3 : Int) == 0) = false := by simp; omega
          clear HQ2 HQ hq3 hok3 hown hrow ho
          go_wp2_with (first
            | ((with_reducible refine wpList_from Try.byteTypes rfl (.tmp 28) (.tmp 29) rfl A n c s rfl rfl hsnw hnc ?_); intro A2 hA2 hI2)
            | (go_at_call 44; refine (HT.out A2 (hA2 _ _ (HB.out.only HA.out HOn.out)) ?_).mono ?_; rotate_left; rintro e w2 ⟨A3, c3, rfl, hc3, ho3, hr3, hon3⟩; have hs3 := hon3.size)
            | (at_builtin; refine wpList_appT rfl (.tmp 38) (.tmp 40) rfl w.heap.size (.slice A1 k c1) k acc rfl (HO.out.only hon3 hgw) (.slice A3 T3.length c3) T3 (ho3.mono hsw) (by omega) (by omega) rfl ?_; intro A4 c4 w4 ho4 hb4))
          · go_roundw
            case rel => exact ⟨k + 1, s + S3, A4, c4, _, by omega, by go_num, by go_num, rfl, by omega, by omega, (HOn.out.trans hon3).then_below hb4, hr3.below hb4 hgw, ho4, HQ3⟩
            case measure => simp [intOf]; omega
          · rcases HA.out with h0 | ⟨b, off, hAe, hbg⟩
            · exact .inl (by omega)
            · rcases hI2 b (.inr ⟨off, hAe⟩) with h | ⟨off2, h⟩
              · exact .inl h
              · exact .inr ⟨b, off2, h, hbg⟩
      · obtain rfl : k = V1 := by omega
        have HO := Lib.hid hown
        have HQ3 := Lib.hid (show q = (0, acc, s) by rw [HQ2.out, Nat.sub_self, pre_zero])
        have HR := Lib.hid hrow
        have HOn := Lib.hid ho
        clear HQ2 HQ hown hrow ho
        go_wp2
        go_ret2
        rw [HQ3.out]
        exact HO.out.rdl HR.out HOn.out
end Go.Proofs.Ytjifahocfbbicaa
