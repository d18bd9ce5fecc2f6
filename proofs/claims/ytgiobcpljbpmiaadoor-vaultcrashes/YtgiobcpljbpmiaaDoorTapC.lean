/-
  The calls of the program's tape: Append, Cut, Sync.
-/
import Derived.Test.YtgiobcpljbpmiaaDoorTapB
namespace Go.Proofs.YtgiobcpljbpmiaaDoor
open Go.RowKit
/-- what is answered, and the tape that is left -/
def Did (w : World) (g : Nat) (F : Nat → Nat → Prop) (r : Tp × Int) (e : Ending) (w' : World) : Prop := e = .returned (.int .i64 r.2) ∧ Grow w g F r.1 w'
theorem Tap.grew {w w' : World} {g : Nat} {F : Nat → Nat → Prop} {S : Tp} (h : Tap w' g F S) (ho : Off (· = g) w w') : Grow w g F S w' := ⟨⟨F, fun _ _ q => .inl q, h⟩, ho.mono (fun _ q => .inl q)⟩
theorem isF_nat {z : Int} (h : isF z) : ∃ i : Nat, z = i ∧ i < 4 ∧ z.toNat = i := by
  unfold isF at h
  exact ⟨z.toNat, by omega, by omega, rfl⟩
theorem isF_of {i : Nat} (h : i < 4) : isF (i : Int) := by unfold isF; omega
theorem drop_cons {α : Type} {l : List α} {k : Nat} {x : α} (h : l[k]? = some x) : l.drop k = x :: l.drop (k + 1) := by
  obtain ⟨hk, rfl⟩ := List.getElem?_eq_some_iff.1 h
  exact List.drop_eq_getElem_cons hk
set_option maxRecDepth 100000 in
set_option maxHeartbeats 2000000 in
theorem App_any {S : Tp} (g K m c : Nat) (z : Int) (A : Option Addr) (l : List UInt8) (F : Nat → Nat → Prop) (w : World) (h : Tap w g F S) (hok : S.ok K) (hK : K + m ≤ 100000000) (hB : Bs w A m l) (hA : ∀ b off, A = some ⟨b, off, none⟩ → ¬ Foot g F b) :
    Calls Tryd.prog 29 #[.pointer (some ⟨g, 0, none⟩), .int .i64 z, .slice A m c] w (Did w g F (S.append z l)) := by
  have HT := Lib.hid h
  unfold Did
  by_cases hz : isF z
  · obtain ⟨i, rfl, hi, hzi⟩ := isF_nat hz
    have c13 := h.cell.2
    by_cases hd : S.down = true
    · have HQ := Lib.hid (show S.append (i : Int) l = (S, 100) by unfold Tp.append; rw [if_pos hz, if_pos hd])
      rw [hd] at c13
      clear h hok hB hA hz hzi hd
      generalize S.append (i : Int) l = R at *
      go_enter Tryd.func29, Tryd.ntmps29
      go_wp2_with (go_at_call 42; refine (file_ok g i hi _).mono ?_; rintro e1 w1 ⟨rfl, rfl⟩)
      go_ret
      rw [HQ.out]
      exact ⟨rfl, Grow.refl HT.out⟩
    · have hd' : S.down = false := by simpa using hd
      rw [hd'] at c13
      have csz := h.size hi
      obtain ⟨N, hN⟩ : ∃ N, (S.f i).now.length = N := ⟨_, rfl⟩
      have hNM : N ≤ 1048576 := by have := hok.now i; omega
      have hm : l.length = m := hB.1
      rw [hN] at csz
      have hw : wrap64 (1048576 - (N : Int)) = 1048576 - (N : Int) := by unfold wrap64; omega
      by_cases hf : 1048576 < N + m
      · have HQ := Lib.hid (show S.append (i : Int) l = (S, 90) by unfold Tp.append Tp.now; rw [if_pos hz, if_neg hd, hzi, hN, hm, if_pos hf])
        have hf1 : (1048576 : Int) - (N : Int) < (m : Int) := by omega
        clear h hok hB hA hz hzi hd hd' hN hNM hm hf
        generalize S.append (i : Int) l = R at *
        go_enter Tryd.func29, Tryd.ntmps29
        go_wp2_with (go_at_call 42; refine (file_ok g i hi _).mono ?_; rintro e1 w1 ⟨rfl, rfl⟩)
        go_ret
        rw [HQ.out]
        exact ⟨rfl, Grow.refl HT.out⟩
      · have HQ := Lib.hid (show S.append (i : Int) l = S.run i l by unfold Tp.append Tp.now; rw [if_pos hz, if_neg hd, hzi, hN, hm, if_neg hf])
        have hf1 : ¬ (1048576 : Int) - (N : Int) < (m : Int) := by omega
        have HB := Lib.hid hB
        have HA := Lib.hid hA
        have HOK := Lib.hid hok
        have HN := Lib.hid hN
        have hNm : N + m ≤ 1048576 := by omega
        clear h hok hB hA hz hzi hd hd' hN hm hf
        go_enter Tryd.func29, Tryd.ntmps29
        go_wp2_with (go_at_call 42; refine (file_ok g i hi _).mono ?_; rintro e1 w1 ⟨rfl, rfl⟩)
        clear csz c13 hw hf1
        go_loopw [34] (fun x wr => ∃ (k : Nat) (T : Tp) (F' : Nat → Nat → Prop), k ≤ m ∧ x = .int .i64 (k : Int) ∧ Hid (Within w F F') ∧ Hid (Tap wr g F' T) ∧ Hid (S.run i l = T.run i (l.drop k)) ∧ Hid (T.ok (K + k)) ∧ Hid ((T.f i).now.length = N + k) ∧ Off (Foot g F) w wr) (fun x _ => m - (intOf x).toNat)
        case atStart => exact ⟨0, S, F, Nat.zero_le _, rfl, Lib.hid (fun _ _ q => .inl q), HT, Lib.hid (by rw [List.drop_zero]), HOK, HN, Off.of_below (Below.refl _ _)⟩
        case round =>
          obtain ⟨k, T, F', hk, rfl, HW, HTk, HRun, HOk, HLn, hoff⟩ := hrel
          by_cases hlt : k < m
          · obtain ⟨b, off, x, rfl, hbl, hx, hc⟩ := (HB.out.off (fun b off e => HA.out b off e) hoff).get hlt
            have HDr := Lib.hid (drop_cons hx)
            obtain ⟨M, hM⟩ : ∃ M, (T.f i).now.length = M := ⟨_, rfl⟩
            have HM := Lib.hid hM
            have hM1 : M + 1 ≤ 1048576 := by have := HLn.out; omega
            have hKk : K + k ≤ 100000000 := by omega
            clear hx hM
            cases hp : T.pow with
            | none =>
              have HE := Lib.hid (show T.run i (x :: l.drop (k + 1)) = (T.dead, 100) by rw [Tp.run, hp])
              have HP := Lib.hid hp
              clear hp
              go_wp2_with (go_at_call 43; refine (pow_none g F' _ HTk.out HP.out).mono ?_; rintro e2 w2 ⟨rfl, ht2, ho2⟩)
              go_ret
              rw [HQ.out, HRun.out, HDr.out, HE.out]
              exact ⟨rfl, Grow.trans HW.out hoff (ht2.grew ho2)⟩
            | some U =>
              have HE := Lib.hid (show T.run i (x :: l.drop (k + 1)) = (U.add i (.app x)).run i (l.drop (k + 1)) by rw [Tp.run, hp])
              have HP := Lib.hid hp
              have HUf := Lib.hid (pow_f hp)
              have HUok := Lib.hid (HOk.out.pow hp)
              have HUn := Lib.hid (show (U.f i).now.length = M by rw [HUf.out]; exact HM.out)
              have HAn := Lib.hid (show ((U.add i (.app x)).f i).now.length = M + 1 by rw [add_now]; simp [pstep]; exact HUn.out)
              clear hp
              go_wp2_with (first
                | (go_at_call 43; refine (pow_some g F' _ HTk.out HP.out).mono ?_; rintro e2 w2 ⟨rfl, ht2, ho2⟩; have HT2 := Lib.hid ht2; have hs2 := ht2.size hi; rw [HUn.out] at hs2; have HO2 := Lib.hid ho2; clear ht2 ho2)
                | (go_at_call 44; refine (add_tap g i (K + k) F' (.app x) _ w2 HT2.out hi HUok.out hKk (by rw [HAn.out]; push_cast; rfl)).mono ?_; rintro e3 w3 ⟨rfl, hg3⟩; have HG3 := Lib.hid hg3; clear hg3))
              go_roundw
              case rel =>
                obtain ⟨⟨F3, hw3, ht3⟩, ho3⟩ := Grow.trans (w := wr) (F := F') (fun _ _ q => .inl q) (HO2.out.mono (fun b (q : b = g) => .inl q)) HG3.out
                refine ⟨k + 1, U.add i (.app x), F3, by omega, by go_num, Lib.hid (HW.out.trans hw3 hoff.size), Lib.hid ht3, Lib.hid (by rw [HRun.out, HDr.out, HE.out]), Lib.hid ?_, Lib.hid ?_, hoff.trans ho3 HW.out.foot⟩
                · exact HUok.out.addA (by rw [HUn.out]; exact hM1)
                · have := HAn.out; have := HLn.out; have := HM.out; omega
              case measure => simp [intOf]; omega
          · obtain rfl : k = m := by omega
            have HE := Lib.hid (show l.drop k = [] from List.drop_eq_nil_of_le (by rw [HB.out.1]; exact Nat.le_refl _))
            go_wp2
            go_ret
            rw [HQ.out, HRun.out, HE.out]
            exact ⟨rfl, ⟨F', HW.out, HTk.out⟩, hoff⟩
  · have HQ := Lib.hid (show S.append z l = (S, 1) by unfold Tp.append; rw [if_neg hz])
    clear h hok hB hA
    generalize S.append z l = R at *
    go_enter Tryd.func29, Tryd.ntmps29
    go_wp2_with (go_at_call 42; refine (file_no g z hz _).mono ?_; rintro e1 w1 ⟨rfl, rfl⟩)
    go_ret
    rw [HQ.out]
    exact ⟨rfl, Grow.refl HT.out⟩
end Go.Proofs.YtgiobcpljbpmiaaDoor
