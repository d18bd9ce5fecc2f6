/-
  What the document reads of frames: one frame, and all at the beginning.
-/
import Derived.Test.YtgiobcpljbpmiaaDoorFrB
import Derived.Deep.QuietTactic
namespace Go.Proofs.YtgiobcpljbpmiaaDoor
open Go.RowKit
theorem rdr_of (A : Option Addr) (n c : Nat) (l : List UInt8) (w : World) (hB : Bs w A n l) (hnc : n ≤ c) : ∃ b, Rdr (w.alloc (.cells #[.slice A n c, .int .i64 0] 101)) 101 w.heap.size b 0 l := by
  have hb := hB.below ((Below.refl w.heap.size w).alloc (Nat.le_refl _) (.cells #[.slice A n c, .int .i64 0] 101))
  rcases Nat.eq_zero_or_pos n with h | h
  · exact ⟨w.heap.size + 1, A, n, c, Row.new w 101 _, hb, hnc, .inl h, by omega⟩
  · obtain ⟨b, off, x, hA, hlt, _⟩ := hB.get h
    exact ⟨b, A, n, c, Row.new w 101 _, hb, hnc, .inr ⟨off, hA⟩, by omega⟩
theorem cut_to8 (A : Option Addr) (n c : Nat) (hm : 8 ≤ n) (hnc : n ≤ c) :
    ∃ A', (∀ w, (Instr.sliceAt 32 (.slice A n c) none (some (.int .i64 8)) none).run Tryd.prog w = .ok (.slice A' 8 c) w) ∧ (∀ w l, Bs w A n l → Bs w A' 8 (l.take 8)) := by
  refine ⟨if c = 0 then A else A.map (·.add (0 * 1)), fun w => ?_, fun w l hb => ?_⟩
  · have h2 : (8 : Int) ≤ c := by omega
    simp [Instr.sliceAt, Instr.slice, run_underlying Tryd.byteTypes.ht, Instr.sliceBounds, run_sliceBound, h2]
  · have hc : c ≠ 0 := by omega
    rw [if_neg hc]
    obtain ⟨b, off, x, hA, _⟩ := hb.get (k := 0) (by omega)
    subst hA
    rw [Option.map_some, Addr.add_mid]
    exact hb.take hm
/-- what First answers -/
def FirstE (w : World) (l : List UInt8) (e : Ending) (w' : World) : Prop :=
  ∃ (ok : Bool) (t : List UInt8) (s : Nat) (A : Option Addr) (c : Nat), e = .returned (.tuple #[.slice A t.length c, .int .i64 (s : Int), .bool ok]) ∧ ok = (rdFr l).1 ∧ (ok = true → rdFr l = (true, t, s)) ∧ t.length ≤ c ∧ Own w' w.heap.size 5 (.slice A t.length c) t.length t ∧ Below w.heap.size w w'
theorem firstE_no {w w' : World} {l : List UInt8} (h : rdFr l = (false, [], 0)) (hb : Below w.heap.size w w') : FirstE w l (.returned (.tuple #[.slice none 0 0, .int .i64 0, .bool false])) w' :=
  ⟨false, [], 0, none, 0, rfl, by rw [h], (fun x => by cases x), Nat.le_refl _, Own.nil _ _ _, hb⟩
theorem firstE_is {w w' : World} {l t : List UInt8} {m S c : Nat} {A : Option Addr} (ok : Bool) (hm : t.length = m) (h : ok = (rdFr l).1) (h2 : ok = true → rdFr l = (true, t, S + 8)) (hc : m ≤ c) (ho : Own w' w.heap.size 5 (.slice A m c) m t) (hb : Below w.heap.size w w') : FirstE w l (.returned (.tuple #[.slice A m c, .int .i64 ((S : Int) + 8), .bool ok])) w' := by
  subst hm
  exact ⟨ok, t, S + 8, A, c, rfl, h, h2, hc, ho, hb⟩
set_option maxRecDepth 100000 in
set_option maxHeartbeats 2000000 in
theorem First_any (A : Option Addr) (n c : Nat) (l : List UInt8) (w : World) (hB : Bs w A n l) (hnc : n ≤ c) (hn : n ≤ 900000) (hF : First w) (hT : Tab 1 w) : Calls Tryd.prog 47 #[.slice A n c] w (FirstE w l) := by
  obtain ⟨b, hr⟩ := rdr_of A n c l w hB hnc
  have hl := hB.1
  have HX := Lib.hid (RefText_r w.heap.size b 0 l 262144 _ hr (by omega) (by omega) (by omega))
  have hsz := rdText_size l 262144
  obtain ⟨E, T, S, hq⟩ := triple (rdText l 262144)
  have HErr := Lib.hid (rdFr_err l E T S hq)
  have HSh := Lib.hid (rdFr_short l E T S hq)
  have HYes := Lib.hid (rdFr_yes l E T S hq)
  have HOth := Lib.hid (rdFr_other l E T S hq)
  rw [hq, hl] at hsz
  simp only at hsz
  have hs0 : sText 0 l 262144 = (E, T, S) := by unfold sText; rw [if_pos rfl, hq]
  rw [hs0] at HX
  unfold RText at HX
  simp only at HX
  have hb0 : Below w.heap.size w (w.alloc (.cells #[.slice A n c, .int .i64 0] 101)) := (Below.refl _ _).alloc (Nat.le_refl _) _
  have HB0 := Lib.hid hb0
  have HB := Lib.hid hB
  have HF := Lib.hid hF
  have HT := Lib.hid hT
  have HLd := Lib.hid (show (l.drop S).length = n - S by rw [List.length_drop, hl])
  have HLn := Lib.hid hl
  obtain ⟨m, hm⟩ : ∃ m, T.length = m := ⟨_, rfl⟩
  have HM := Lib.hid hm
  rw [hm] at HX
  clear hr hq hs0 hB hF hT hb0 hl hm
  by_cases hE : E = 0
  · subst hE
    by_cases h8 : n < S + 8
    · have HQ := Lib.hid (HSh.out (by rw [HLn.out]; exact h8))
      have h8i : ((n - S : Nat) : Int) < 8 := by omega
      clear HErr HSh HYes HOth
      go_enter Tryd.func47, Tryd.ntmps47
      go_wp2_with (go_at_call 59; refine HX.out.mono ?_; rintro e1 w1 ⟨A1, c1, rfl, hc1, ho1, ⟨A2, n2, c2, hr2, hB2, _⟩, hon⟩; obtain rfl : n2 = n - S := hB2.1.symm.trans HLd.out; have k0 : w1.cell? ⟨w.heap.size, 0, none⟩ = some (.slice A2 (n - S) c2) := hr2.cell 0; have k1 : w1.cell? ⟨w.heap.size, 1, none⟩ = some (.int .i64 0) := hr2.cell 1; have hb1 := HB0.out.trans (hon.below (Nat.le_refl _) HB0.out.size); clear hr2 hB2)
      go_ret3
      exact firstE_no HQ.out hb1
    · have HY2 := Lib.hid (HYes.out rfl (by rw [HLn.out]; omega))
      have h8i : ¬ ((n - S : Nat) : Int) < 8 := by omega
      have h8n : 8 ≤ n - S := by omega
      have hsub : (n : Int) - ((n - S : Nat) : Int) = (S : Int) := by omega
      have HS := Lib.hid (fun A c w hB hc hF hT => RefSum_any A S c (l.take S) w hB hc hF hT (by omega))
      have HD := Lib.hid (fun w => DBytes_any (sumL (l.take S)) w (sumL_length _))
      have HS8 := Lib.hid (show sum8 (l.take S) = (sumL (l.take S)).take 8 from rfl)
      have HL32 := Lib.hid (sumL_length (l.take S))
      unfold NewSlice at HD
      generalize sumL (l.take S) = R at *
      generalize sum8 (l.take S) = R8 at *
      clear HErr HSh HYes
      go_enter Tryd.func47, Tryd.ntmps47
      go_wp2_with (first
        | (go_at_call 59; refine HX.out.mono ?_; rintro e1 w1 ⟨A1, c1, rfl, hc1, ho1, ⟨A2, n2, c2, hr2, hB2, hnc2, _⟩, hon⟩; obtain rfl : n2 = n - S := hB2.1.symm.trans HLd.out; have k0 : w1.cell? ⟨w.heap.size, 0, none⟩ = some (.slice A2 (n - S) c2) := hr2.cell 0; have k1 : w1.cell? ⟨w.heap.size, 1, none⟩ = some (.int .i64 0) := hr2.cell 1; have hb1 := HB0.out.trans (hon.below (Nat.le_refl _) HB0.out.size); have hs1 := hb1.size; have hlt1 := hr2.lt; have HR2 := Lib.hid hr2; have HB2 := Lib.hid hB2; clear hr2 hB2)
        | ((with_reducible refine wpList_head Tryd.byteTypes rfl (.tmp 35) (.tmp 36) rfl A n c S rfl rfl hsz hnc ?_); intro A3 hA3)
        | (go_at_call 61; refine (HS.out A3 c w1 (hA3 _ _ (HB.out.below hb1)) (by omega) (HF.out.below hb1) (HT.out.below hb1)).mono ?_; rintro e2 w2 ⟨rfl, hb2⟩; have hs2 := hb2.size)
        | (go_at_call 60; refine (HD.out w2).mono ?_; rintro e3 w3 ⟨A5, n5, c5, rfl, hB5, hc5, hb5, -⟩; obtain rfl : n5 = 32 := hB5.1.symm.trans HL32.out; have HB5 := Lib.hid hB5; have hs5 := hb5.size; have hb3 : Below w1.heap.size w1 w3 := hb2.trans (hb5.mono hs2); clear hB5))
      obtain ⟨A6, hc6, hb6⟩ := cut_to8 A5 32 c5 (by omega) hc5
      obtain ⟨A7, hc7, hb7⟩ := cut_to8 A2 (n - S) c2 h8n hnc2
      have k3 : w3.cell? ⟨w.heap.size, 0, none⟩ = some (.slice A2 (n - S) c2) := (hb3.cell (p := ⟨w.heap.size, 0, none⟩) hlt1).trans k0
      have HB6 := Lib.hid (hb6 _ _ HB5.out)
      have HB7 := Lib.hid (hb7 _ _ (HB2.out.below hb3))
      have HO3 := Lib.hid ((own_below ho1 hb3).mono (base' := w.heap.size) HB0.out.size)
      have hb3' := hb1.trans (hb3.mono hs1)
      rw [← HS8.out] at HB6
      clear k0 k1 hb6 hb7 HB5 HB2 HR2 hb2 hb5 hA3 HX HD HS
      by_cases hx : (l.drop S).take 8 = R8
      · have HQ := Lib.hid (HY2.out hx)
        rw [hx] at HB7
        clear hx HY2 HOth
        go_quiet ((go_at_call 26; exact quiet_drew (Same_yes A6 A7 8 c5 c2 R8 _ HB6.out HB7.out (by omega))))
        go_wp2
        go_ret3
        exact firstE_is true HM.out (by rw [HQ.out]) (fun _ => HQ.out) hc1 HO3.out (below_drewN hb3' _)
      · have HQ := Lib.hid (HOth.out hx)
        have HX := Lib.hid (fun h => hx (Eq.symm h))
        clear hx HY2 HOth
        go_quiet ((go_at_call 26; exact quiet_drew (Same_no A6 A7 8 8 c5 c2 R8 _ _ HB6.out HB7.out (by omega) (by omega) HX.out)))
        go_wp2
        go_ret3
        exact firstE_is false HM.out (by rw [HQ.out]) (fun x => by cases x) hc1 HO3.out (below_drewN hb3' _)
  · have HQ := Lib.hid (HErr.out hE)
    have hE2 : (E != 0) = true := bne0 hE
    clear HErr HSh HYes HOth
    go_enter Tryd.func47, Tryd.ntmps47
    go_wp2_with (go_at_call 59; refine HX.out.mono ?_; rintro e1 w1 ⟨A1, c1, rfl, hc1, ho1, ⟨A2, n2, c2, hr2, hB2, hnc2, _⟩, hon⟩; obtain rfl : n2 = n - S := hB2.1.symm.trans HLd.out; have k0 : w1.cell? ⟨w.heap.size, 0, none⟩ = some (.slice A2 (n - S) c2) := hr2.cell 0; have k1 : w1.cell? ⟨w.heap.size, 1, none⟩ = some (.int .i64 E) := hr2.cell 1; have hb1 := HB0.out.trans (hon.below (Nat.le_refl _) HB0.out.size); have hs1 := hb1.size; have hlt1 := hr2.lt; have HR2 := Lib.hid hr2; have HB2 := Lib.hid hB2; clear hr2 hB2)
    go_ret3
    exact firstE_no HQ.out hb1
/-- what a scan answers -/
def ScanE (w : World) (l : List UInt8) (e : Ending) (w' : World) : Prop :=
  ∃ (L : List (List UInt8)) (k s : Nat) (A : Option Addr) (c : Nat), e = .returned (.tuple #[.slice A k c, .int .i64 (s : Int)]) ∧ Scans l L s ∧ OwnL w' w.heap.size (.slice A k c) k L ∧ Below w.heap.size w w'
end Go.Proofs.YtgiobcpljbpmiaaDoor
