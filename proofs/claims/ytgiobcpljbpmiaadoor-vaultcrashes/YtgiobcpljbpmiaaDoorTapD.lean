/-
  The calls of the program's tape: Cut, Sync, Read, Open, Fuse, Down; of a nil tape.
-/
import Derived.Test.YtgiobcpljbpmiaaDoorTapC
namespace Go.Proofs.YtgiobcpljbpmiaaDoor
open Go.RowKit
set_option maxRecDepth 100000 in
set_option maxHeartbeats 2000000 in
theorem Cut_any {S : Tp} (g K : Nat) (z n : Int) (F : Nat → Nat → Prop) (w : World) (h : Tap w g F S) (hok : S.ok K) (hK : K ≤ 100000000) :
    Calls Tryd.prog 53 #[.pointer (some ⟨g, 0, none⟩), .int .i64 z, .int .i64 n] w (Did w g F (S.cutT z n)) := by
  have HT := Lib.hid h
  unfold Did
  by_cases hz : isF z
  · obtain ⟨i, rfl, hi, hzi⟩ := isF_nat hz
    have csz := h.size hi
    obtain ⟨N, hN⟩ : ∃ N, (S.f i).now.length = N := ⟨_, rfl⟩
    have hNM : N ≤ 1048576 := by have := hok.now i; omega
    rw [hN] at csz
    by_cases hn0 : n < 0
    · have HQ := Lib.hid (show S.cutT (i : Int) n = (S, 1) by unfold Tp.cutT; rw [if_neg (by intro q; omega)])
      clear h hok hz hzi hN
      generalize S.cutT (i : Int) n = R at *
      go_enter Tryd.func53, Tryd.ntmps53
      go_wp2_with (go_at_call 42; refine (file_ok g i hi _).mono ?_; rintro e1 w1 ⟨rfl, rfl⟩)
      go_ret
      rw [HQ.out]
      exact ⟨rfl, Grow.refl HT.out⟩
    · by_cases hnN : (N : Int) < n
      · have HQ := Lib.hid (show S.cutT (i : Int) n = (S, 1) by unfold Tp.cutT Tp.now; rw [hzi, hN, if_neg (by intro q; omega)])
        clear h hok hz hzi hN
        generalize S.cutT (i : Int) n = R at *
        go_enter Tryd.func53, Tryd.ntmps53
        go_wp2_with (go_at_call 42; refine (file_ok g i hi _).mono ?_; rintro e1 w1 ⟨rfl, rfl⟩)
        go_ret
        rw [HQ.out]
        exact ⟨rfl, Grow.refl HT.out⟩
      · obtain ⟨q, rfl⟩ := Int.eq_ofNat_of_zero_le (show 0 ≤ n by omega)
        have hqN : q ≤ N := by omega
        have HC : S.cutT (i : Int) (q : Int) = (match S.pow with | none => (S.dead, 100) | some T => (T.add i (.cut q), 0)) := by
          unfold Tp.cutT Tp.now
          rw [hzi, hN, if_pos ⟨hz, by omega, by omega⟩]
          rfl
        have HOK := Lib.hid hok
        have HN := Lib.hid hN
        cases hp : S.pow with
        | none =>
          rw [hp] at HC
          have HQ := Lib.hid HC
          have HP := Lib.hid hp
          clear h hok hz hzi hN HC hp
          generalize S.cutT (i : Int) (q : Int) = R at *
          go_enter Tryd.func53, Tryd.ntmps53
          go_wp2_with (first
            | (go_at_call 42; refine (file_ok g i hi _).mono ?_; rintro e1 w1 ⟨rfl, rfl⟩)
            | (go_at_call 43; refine (pow_none g F _ HT.out HP.out).mono ?_; rintro e2 w2 ⟨rfl, ht2, ho2⟩))
          go_ret
          rw [HQ.out]
          exact ⟨rfl, ht2.grew ho2⟩
        | some U =>
          rw [hp] at HC
          have HQ := Lib.hid HC
          have HP := Lib.hid hp
          have HUok := Lib.hid (hok.pow hp)
          have HUn := Lib.hid (show (U.f i).now.length = N by rw [pow_f hp]; exact hN)
          have HAn := Lib.hid (show ((U.add i (.cut q)).f i).now.length = q by rw [add_now]; simp [pstep]; have := HUn.out; omega)
          have hw32 : IntKind.i32.wrap (q : Int) = (q : Int) := by simp [IntKind.wrap, IntKind.bits, IntKind.signed]; omega
          clear h hok hz hzi hN HC hp
          generalize S.cutT (i : Int) (q : Int) = R at *
          go_enter Tryd.func53, Tryd.ntmps53
          go_wp2_with (first
            | (go_at_call 42; refine (file_ok g i hi _).mono ?_; rintro e1 w1 ⟨rfl, rfl⟩)
            | (go_at_call 43; refine (pow_some g F _ HT.out HP.out).mono ?_; rintro e2 w2 ⟨rfl, ht2, ho2⟩; have HT2 := Lib.hid ht2; have HO2 := Lib.hid ho2; clear ht2 ho2)
            | (go_at_call 44; refine (add_tap g i K F (.cut q) _ w2 HT2.out hi HUok.out hK (by rw [HAn.out])).mono ?_; rintro e3 w3 ⟨rfl, hg3⟩; have HG3 := Lib.hid hg3; clear hg3))
          go_ret
          rw [HQ.out]
          exact ⟨rfl, Grow.trans (fun _ _ q => .inl q) (HO2.out.mono (fun b (q : b = g) => .inl q)) HG3.out⟩
  · have HQ := Lib.hid (show S.cutT z n = (S, 1) by unfold Tp.cutT; rw [if_neg (fun q => hz q.1)])
    clear h hok
    generalize S.cutT z n = R at *
    go_enter Tryd.func53, Tryd.ntmps53
    go_wp2_with (go_at_call 42; refine (file_no g z hz _).mono ?_; rintro e1 w1 ⟨rfl, rfl⟩)
    go_ret
    rw [HQ.out]
    exact ⟨rfl, Grow.refl HT.out⟩
set_option maxRecDepth 100000 in
set_option maxHeartbeats 2000000 in
theorem Sync_any {S : Tp} (g K : Nat) (z : Int) (F : Nat → Nat → Prop) (w : World) (h : Tap w g F S) (hok : S.ok K) (hK : K ≤ 100000000) :
    Calls Tryd.prog 55 #[.pointer (some ⟨g, 0, none⟩), .int .i64 z] w (Did w g F (S.syncT z)) := by
  have HT := Lib.hid h
  unfold Did
  by_cases hz : isF z
  · obtain ⟨i, rfl, hi, hzi⟩ := isF_nat hz
    have HC : S.syncT (i : Int) = (match S.pow with | none => (S.dead, 100) | some T => (T.settle i, 0)) := by
      unfold Tp.syncT
      rw [if_pos hz, hzi]
      rfl
    cases hp : S.pow with
    | none =>
      rw [hp] at HC
      have HQ := Lib.hid HC
      have HP := Lib.hid hp
      clear h hok hz hzi HC hp
      generalize S.syncT (i : Int) = R at *
      go_enter Tryd.func55, Tryd.ntmps55
      go_wp2_with (first
        | (go_at_call 42; refine (file_ok g i hi _).mono ?_; rintro e1 w1 ⟨rfl, rfl⟩)
        | (go_at_call 43; refine (pow_none g F _ HT.out HP.out).mono ?_; rintro e2 w2 ⟨rfl, ht2, ho2⟩))
      go_ret
      rw [HQ.out]
      exact ⟨rfl, ht2.grew ho2⟩
    | some U =>
      rw [hp] at HC
      have HQ := Lib.hid HC
      have HP := Lib.hid hp
      have HUok := Lib.hid (hok.pow hp)
      clear h hok hz hzi HC hp
      generalize S.syncT (i : Int) = R at *
      go_enter Tryd.func55, Tryd.ntmps55
      go_wp2_with (first
        | (go_at_call 42; refine (file_ok g i hi _).mono ?_; rintro e1 w1 ⟨rfl, rfl⟩)
        | (go_at_call 43; refine (pow_some g F _ HT.out HP.out).mono ?_; rintro e2 w2 ⟨rfl, ht2, ho2⟩; have HT2 := Lib.hid ht2; have HO2 := Lib.hid ho2; clear ht2 ho2)
        | (go_at_call 72; refine (settle_tap g i K F w2 HT2.out hi HUok.out hK).mono ?_; rintro e3 w3 ⟨rfl, hg3⟩; have HG3 := Lib.hid hg3; clear hg3))
      go_ret
      rw [HQ.out]
      exact ⟨rfl, Grow.trans (fun _ _ q => .inl q) (HO2.out.mono (fun b (q : b = g) => .inl q)) HG3.out⟩
  · have HQ := Lib.hid (show S.syncT z = (S, 1) by unfold Tp.syncT; rw [if_neg hz])
    clear h hok
    generalize S.syncT z = R at *
    go_enter Tryd.func55, Tryd.ntmps55
    go_wp2_with (go_at_call 42; refine (file_no g z hz _).mono ?_; rintro e1 w1 ⟨rfl, rfl⟩)
    go_ret
    rw [HQ.out]
    exact ⟨rfl, Grow.refl HT.out⟩
/-- bytes in new memory, and an error -/
def Got (w : World) (L : List UInt8) (E : Int) (e : Ending) (w' : World) : Prop := ∃ A n c, e = .returned (.tuple #[.slice A n c, .int .i64 E]) ∧ Own w' w.heap.size 5 (.slice A n c) n L ∧ Below w.heap.size w w'
theorem Got.none (w : World) (E : Int) : Got w [] E (.returned (.tuple #[.slice none 0 0, .int .i64 E])) w := ⟨Option.none, 0, 0, rfl, Own.nil _ _ _, Below.refl _ _⟩
set_option maxRecDepth 100000 in
set_option maxHeartbeats 2000000 in
theorem TRead_any {S : Tp} (g K : Nat) (z : Int) (F : Nat → Nat → Prop) (w : World) (h : Tap w g F S) (hok : S.ok K) (hK : K ≤ 100000000) :
    Calls Tryd.prog 31 #[.pointer (some ⟨g, 0, none⟩), .int .i64 z] w (Got w (S.readL z) (S.readE z)) := by
  have HT := Lib.hid h
  by_cases hz : isF z
  · obtain ⟨i, rfl, hi, hzi⟩ := isF_nat hz
    have c13 := h.cell.2
    by_cases hd : S.down = true
    · have HL := Lib.hid (show S.readL (i : Int) = [] by unfold Tp.readL; rw [if_neg (by rw [hd]; exact fun q => by cases q.2)])
      have HE := Lib.hid (show S.readE (i : Int) = 100 by unfold Tp.readE; rw [if_pos hz, if_pos hd])
      rw [hd] at c13
      clear h hok hz hzi hd
      generalize S.readL (i : Int) = L at *
      generalize S.readE (i : Int) = E at *
      go_enter Tryd.func31, Tryd.ntmps31
      go_wp2_with (go_at_call 42; refine (file_ok g i hi _).mono ?_; rintro e1 w1 ⟨rfl, rfl⟩)
      go_ret2
      rw [HL.out, HE.out]
      exact Got.none _ _
    · have hd' : S.down = false := by simpa using hd
      rw [hd'] at c13
      have HL := Lib.hid (show S.readL (i : Int) = (S.f i).after (S.f i).opn.length by unfold Tp.readL Tp.now; rw [if_pos ⟨hz, hd'⟩, hzi]; unfold Fl.now Fl.after; rw [List.take_length])
      have HE := Lib.hid (show S.readE (i : Int) = 0 by unfold Tp.readE; rw [if_pos hz, if_neg hd])
      obtain ⟨Ao, co, cop⟩ := h.steps hi
      have HAf := Lib.hid (after_tap g i _ K F w h hi hok hK (Nat.le_refl _))
      obtain ⟨M, hM⟩ : ∃ M, (S.f i).opn.length = M := ⟨_, rfl⟩
      rw [hM] at cop HAf HL
      clear h hok hz hzi hd hd' hM
      generalize S.readL (i : Int) = L at *
      generalize S.readE (i : Int) = E at *
      generalize (S.f i).after M = L2 at *
      go_enter Tryd.func31, Tryd.ntmps31
      go_wp2_with (first
        | (go_at_call 42; refine (file_ok g i hi _).mono ?_; rintro e1 w1 ⟨rfl, rfl⟩)
        | (go_at_call 36; refine HAf.out.mono ?_; rintro e2 w2 ⟨A2, n2, c2, rfl, ho2, hb2⟩))
      go_ret2
      rw [HL.out, HE.out]
      exact ⟨A2, n2, c2, rfl, ho2, hb2⟩
  · have HL := Lib.hid (show S.readL z = [] by unfold Tp.readL; rw [if_neg (fun q => hz q.1)])
    have HE := Lib.hid (show S.readE z = 1 by unfold Tp.readE; rw [if_neg hz])
    clear h hok
    generalize S.readL z = L at *
    generalize S.readE z = E at *
    go_enter Tryd.func31, Tryd.ntmps31
    go_wp2_with (go_at_call 42; refine (file_no g z hz _).mono ?_; rintro e1 w1 ⟨rfl, rfl⟩)
    go_ret2
    rw [HL.out, HE.out]
    exact Got.none _ _
set_option maxRecDepth 100000 in
theorem Down_any {S : Tp} (g : Nat) (F : Nat → Nat → Prop) (w : World) (h : Tap w g F S) :
    Calls Tryd.prog 18 #[.pointer (some ⟨g, 0, none⟩)] w fun e w' => e = .returned (.bool S.down) ∧ w = w' := by
  have c13 := h.cell.2
  clear h
  generalize S.down = d at *
  cases d <;> (go_enter Tryd.func18, Tryd.ntmps18; go_wp2; go_ret; exact ⟨rfl, rfl⟩)
set_option maxRecDepth 100000 in
set_option maxHeartbeats 1000000 in
theorem Fuse_any {S : Tp} (g : Nat) (n : Int) (F : Nat → Nat → Prop) (w : World) (h : Tap w g F S) (hn : n < 9223372036854775808) :
    Calls Tryd.prog 17 #[.pointer (some ⟨g, 0, none⟩), .int .i64 n] w fun e w' => e = .returned (.tuple #[]) ∧ Tap w' g F (S.fuseT n) ∧ Off (· = g) w w' := by
  obtain ⟨cs, hr, hs, h12, h13, _⟩ := h.row
  have HT := Lib.hid h
  have HR := Lib.hid hr
  have H13 := Lib.hid h13
  have HS := Lib.hid hs
  have HN := Lib.hid hn
  have c12 : w.cell? ⟨g, 12, none⟩ = some (.int .i64 S.fuse) := (hr.cell 12).trans h12
  have f12 := hr.frozen 12
  clear h hr h12 h13 hs hn
  unfold Tp.fuseT
  by_cases hm : ¬ (-1 : Int) ≤ n
  · have HI := Lib.hid (show max n (-1) = -1 by omega)
    go_enter Tryd.func17, Tryd.ntmps17
    go_wp2
    refine bodyPost_end (v := .tuple #[]) (by simp [results, Tryd.results17]) rfl ⟨rfl, ?_, Off.setCell w g 12 _ rfl⟩
    rw [HI.out]
    refine HT.out.head HR.out (HR.out.set 12 _) (by rw [Array.size_setIfInBounds]; exact HS.out) ?_ ?_ (by decide) ?_ (Off.setCell w g 12 _ rfl)
    · rw [Array.getElem?_setIfInBounds, if_pos rfl, if_pos (by rw [HS.out]; omega)]
    · rw [Array.getElem?_setIfInBounds, if_neg (by omega)]; exact H13.out
    · intro k hk; rw [Array.getElem?_setIfInBounds, if_neg (by omega)]
  · have hm' : (-1 : Int) ≤ n := by omega
    have HI := Lib.hid (show max n (-1) = n by omega)
    clear hm
    go_enter Tryd.func17, Tryd.ntmps17
    go_wp2
    refine bodyPost_end (v := .tuple #[]) (by simp [results, Tryd.results17]) rfl ⟨rfl, ?_, Off.setCell w g 12 _ rfl⟩
    rw [HI.out]
    refine HT.out.head HR.out (HR.out.set 12 _) (by rw [Array.size_setIfInBounds]; exact HS.out) ?_ ?_ HN.out ?_ (Off.setCell w g 12 _ rfl)
    · rw [Array.getElem?_setIfInBounds, if_pos rfl, if_pos (by rw [HS.out]; omega)]
    · rw [Array.getElem?_setIfInBounds, if_neg (by omega)]; exact H13.out
    · intro k hk; rw [Array.getElem?_setIfInBounds, if_neg (by omega)]
end Go.Proofs.YtgiobcpljbpmiaaDoor
