/-
  What keys.Verify and the document's own Verify and Right, and the statements' own great and own answer.
-/
import Derived.Test.YtfelmdndjdaniaaDoorKeyB
import Derived.Test.YtfelmdndjdaniaaDoorTreeR
namespace Go.Proofs.YtfelmdndjdaniaaDoor
open Go.RowKit
set_option maxHeartbeats 400000 in
theorem kRight_any (b h : Int) (w : World) : Calls Tryd.prog 14 #[.int .i64 b, .int .i64 h] w fun e w' => e = .returned (.bool (okK b h)) ∧ w = w' := by
  by_cases h0 : 1 ≤ b ∧ b ≤ 256
  · have HR := Lib.hid (fun w => Right_yes b w h0.1 h0.2)
    by_cases h3 : 0 ≤ h
    · by_cases h4 : h ≤ 6
      · rw [show okK b h = true by simp [okK, h0, h3, h4]]
        clear h0
        go_enter Tryd.func14, Tryd.ntmps14
        go_wp2_with (go_at_call 37; refine (HR.out _).mono ?_; rintro e1 w1 ⟨rfl, rfl⟩)
        go_ret
        exact ⟨rfl, rfl⟩
      · rw [show okK b h = false by simp [okK, h4]]
        clear h0
        go_enter Tryd.func14, Tryd.ntmps14
        go_wp2_with (go_at_call 37; refine (HR.out _).mono ?_; rintro e1 w1 ⟨rfl, rfl⟩)
        go_ret
        exact ⟨by simp [h4], rfl⟩
    · rw [show okK b h = false by simp [okK, h3]]
      clear h0
      go_enter Tryd.func14, Tryd.ntmps14
      go_wp2_with (go_at_call 37; refine (HR.out _).mono ?_; rintro e1 w1 ⟨rfl, rfl⟩)
      go_ret
      exact ⟨rfl, rfl⟩
  · have HR := Lib.hid (fun w => Right_no b w (by omega))
    rw [show okK b h = false by
      cases q : okK b h
      · rfl
      · obtain ⟨b', h', rfl, rfl, q1, q2, q3⟩ := okK_yes q
        omega]
    clear h0
    go_enter Tryd.func14, Tryd.ntmps14
    go_wp2_with (go_at_call 37; refine (HR.out _).mono ?_; rintro e1 w1 ⟨rfl, rfl⟩)
    go_ret
    exact ⟨rfl, rfl⟩
def greatB (b h : Int) : Bool := (decide (24 < b) && decide (b ≤ 256)) || (decide (3 < h) && decide (h ≤ 6))
set_option maxHeartbeats 400000 in
theorem great_any (b h : Int) (w : World) : Calls Tryd.prog 11 #[.int .i64 b, .int .i64 h] w fun e w' => e = .returned (.bool (greatB b h)) ∧ w = w' := by
  by_cases h1 : 24 < b
  · by_cases h2 : b ≤ 256
    · rw [show greatB b h = true by simp [greatB, h1, h2]]
      go_enter Tryd.func11, Tryd.ntmps11
      go_wp2
      go_ret
      exact ⟨rfl, rfl⟩
    · by_cases h3 : 3 < h
      · by_cases h4 : h ≤ 6
        · rw [show greatB b h = true by simp [greatB, h3, h4]]
          go_enter Tryd.func11, Tryd.ntmps11
          go_wp2
          go_ret
          exact ⟨rfl, rfl⟩
        · rw [show greatB b h = false by simp [greatB, h2, h4]]
          go_enter Tryd.func11, Tryd.ntmps11
          go_wp2
          go_ret
          exact ⟨rfl, rfl⟩
      · rw [show greatB b h = false by simp [greatB, h2, h3]]
        go_enter Tryd.func11, Tryd.ntmps11
        go_wp2
        go_ret
        exact ⟨rfl, rfl⟩
  · by_cases h3 : 3 < h
    · by_cases h4 : h ≤ 6
      · rw [show greatB b h = true by simp [greatB, h3, h4]]
        go_enter Tryd.func11, Tryd.ntmps11
        go_wp2
        go_ret
        exact ⟨rfl, rfl⟩
      · rw [show greatB b h = false by simp [greatB, h1, h4]]
        go_enter Tryd.func11, Tryd.ntmps11
        go_wp2
        go_ret
        exact ⟨rfl, rfl⟩
    · rw [show greatB b h = false by simp [greatB, h1, h3]]
      go_enter Tryd.func11, Tryd.ntmps11
      go_wp2
      go_ret
      exact ⟨rfl, rfl⟩
set_option maxHeartbeats 400000 in
theorem kown_any (A : Option Addr) (n c : Nat) (l : List UInt8) (w : World) (hB : Bs w A n l) (hn : n ≤ 140737488355328) : Calls Tryd.prog 22 #[.slice A n c] w (NewSlice w 5 l) := by
  have HB := Lib.hid hB
  clear hB
  go_enter Tryd.func22, Tryd.ntmps22
  go_wp2_with (at_builtin; refine wpList_copy Tryd.byteTypes rfl (.tmp 3) (.tmp 4) rfl rfl A n c l rfl HB.out (by omega) ?_; intro A1 c1 w1 hB1 hc1 hb1 ho1)
  go_ret
  exact ⟨_, _, _, rfl, hB1, hc1, hb1, ho1⟩
set_option maxRecDepth 100000 in
set_option maxHeartbeats 4000000 in
theorem kVerify_any (p : List UInt8) (b h i : Int) (A A1 A2 : Option Addr) (nt ct n1 c1 n2 c2 : Nat) (l : List UInt8) (O P : List (List UInt8)) (w : World) (hp : p.length = 32) (hB : Bs w A nt l) (hnc : nt ≤ ct) (hnt : nt ≤ 1000000) (hO : Ds w A1 n1 O) (hP : Ds w A2 n2 P) (hT : Tab 1 w) :
    Calls Tryd.prog 25 #[.agg (bcells p), .int .i64 b, .int .i64 h, .slice A nt ct, .agg (sigC i A1 n1 c1 A2 n2 c2)] w fun e w' => e = .returned (.bool (verK p b h (sumL l) i O P)) ∧ Below w.heap.size w w' := by
  obtain ⟨w0, hw0⟩ : ∃ w0, (w.alloc (.cells (bcells p) 23)).alloc (.cells (sigC i A1 n1 c1 A2 n2 c2) 44) = w0 := ⟨_, rfl⟩
  have hb0 : Below w.heap.size w w0 := by rw [← hw0]; exact ((Below.refl w.heap.size w).alloc (Nat.le_refl _) _).alloc (by simp) _
  have hs0 : w.heap.size + 1 < w0.heap.size := by rw [← hw0]; simp
  have hrp : Row w0 w.heap.size 23 (bcells p) := by rw [← hw0]; exact (Row.new w 23 _).alloc _
  have hrs : Row w0 (w.heap.size + 1) 44 (sigC i A1 n1 c1 A2 n2 c2) := by rw [← hw0]; exact Row.new1 w _ 44 _
  have HM := Lib.hid (fun w => kMay_any b h w)
  have HR := Lib.hid (fun w hb => Recover_any b A A1 nt ct n1 c1 l O w (hB.below hb) hnc hnt (hO.below hb) (hT.below hb))
  have HC := Lib.hid (fun w hb => Climb_any (recI b (sumL l) O) i A2 n2 c2 P w (recI_length _ _ _) (hP.below hb) (hT.below hb))
  have HRS := Lib.hid (show (bcells (recI b (sumL l) O)).size = 32 by rw [bcells_size, recI_length])
  have HCL := Lib.hid (climbI_length (recI b (sumL l) O) i P (recI_length _ _ _))
  have HCS := Lib.hid (show (bcells (climbI (recI b (sumL l) O) i P)).size = 32 by rw [bcells_size, climbI_length _ _ _ (recI_length _ _ _)])
  have HPS := Lib.hid (show (bcells p).size = 32 by rw [bcells_size, hp])
  have heq := eqD (climbI (recI b (sumL l) O) i P) p HCL.out hp
  have HPL := Lib.hid hp
  have HRP := Lib.hid hrp
  have HSG := Lib.hid hrs
  have k1 : w0.cell? ⟨w.heap.size + 1, 1, none⟩ = some (.slice A1 n1 c1) := hrs.cell 1
  have k2 : w0.cell? ⟨w.heap.size + 1, 2, none⟩ = some (.slice A2 n2 c2) := hrs.cell 2
  have hPl := hP.1
  unfold verK
  generalize okK b h = v at *
  generalize recI b (sumL l) O = R at *
  generalize errR b O.length = E at *
  generalize climbI R i P = C at *
  generalize errC P.length i = F at *
  rw [hPl]
  clear hp hB hO hP hPl hrp hrs hT
  cases v
  · go_enter Tryd.func25, Tryd.ntmps25
    go_wp2_with (first
      | (go_at_call 33; refine (HM.out _).mono ?_; rintro e1 w1 ⟨rfl, rfl⟩))
    go_ret
    exact ⟨by simp, hb0⟩
  · by_cases hl : (n2 : Int) = h
    · have hl0 : ((n2 : Int) != h) = false := by simp [hl]
      have HLN := Lib.hid hl
      clear hl
      by_cases hE : E = 0
      · subst hE
        by_cases hF : F = 0
        · subst hF
          go_enter Tryd.func25, Tryd.ntmps25
          go_wp2_with (first
            | (go_at_call 33; refine (HM.out _).mono ?_; rintro e1 w1 ⟨rfl, rfl⟩)
            | (go_at_call 47; refine (HR.out w0 hb0).mono ?_; rintro e1 w1 ⟨rfl, hb1⟩; have hs1 := hb1.size; have hb1' := hb0.trans (hb1.mono (by omega)))
            | ((with_reducible refine wpList_store_row Tryd.agg25 rfl (.tmp 11) (.tmp 31) rfl _ (bcells R) rfl rfl 23 lit32 (Row.new w1 23 lit32) HRS.out lit32_size (bcells_one _) ?_); intro w2 hr2 ho2; have HL2 := Lib.hid hr2; have hs2 := ho2.size; simp at hs2; have hb2 := (hb1'.alloc hb1'.size (.cells lit32 23)).trans (ho2.below (B := w.heap.size) (by omega) (by simp; omega)); have HSG2 := Lib.hid (((HSG.out.below hb1 hs0).alloc (.cells lit32 23)).only ho2 (by omega)); have HRP2 := Lib.hid (((HRP.out.below hb1 (by omega)).alloc (.cells lit32 23)).only ho2 (by omega)); have k0' : w2.cell? ⟨w.heap.size + 1, 0, none⟩ = some (.int .i64 i) := HSG2.out.cell 0; have k2' : w2.cell? ⟨w.heap.size + 1, 2, none⟩ = some (.slice A2 n2 c2) := HSG2.out.cell 2; clear hr2)
            | (with_reducible refine wpList_load_row Tryd.agg25 rfl (.tmp 11) rfl _ rfl 23 _ HL2.out HRS.out ?_)
            | (go_at_call 48; refine (HC.out w2 hb2).mono ?_; rintro e3 w3 ⟨rfl, hb3⟩; have hs3 := hb3.size; have HRP3 := Lib.hid (HRP2.out.below hb3 (by omega)); have hb3' := hb2.trans (hb3.mono hb2.size))
            | (with_reducible refine wpList_store_row Tryd.agg25 rfl (.tmp 13) (.tmp 42) rfl _ (bcells C) rfl rfl 23 lit32 (Row.new w3 23 lit32) HCS.out lit32_size (bcells_one _) ?_; intro w4 hr4 ho4; have HC4 := Lib.hid hr4; have hs4 := ho4.size; simp at hs4; have HRP4 := Lib.hid ((HRP3.out.alloc (.cells lit32 23)).only ho4 (by omega)); have hb4 := (hb3'.alloc hb3'.size (.cells lit32 23)).trans (ho4.below (B := w.heap.size) (by omega) (by simp; omega)); clear hr4)
            | (with_reducible refine wpList_loadG (by with_unfolding_all rfl) (.tmp 13) rfl _ 0 C rfl (range_row HC4.out) HCL.out ?_)
            | (with_reducible refine wpList_loadG (by with_unfolding_all rfl) (.tmp 5) rfl _ 0 p rfl (range_row HRP4.out) HPL.out ?_))
          go_ret
          exact ⟨by simp [HLN.out], hb4⟩
        · have hF0 : (F == 0) = false := by simp [hF]
          have HF := Lib.hid hF
          clear hF
          go_enter Tryd.func25, Tryd.ntmps25
          go_wp2_with (first
            | (go_at_call 33; refine (HM.out _).mono ?_; rintro e1 w1 ⟨rfl, rfl⟩)
            | (go_at_call 47; refine (HR.out w0 hb0).mono ?_; rintro e1 w1 ⟨rfl, hb1⟩; have hs1 := hb1.size; have hb1' := hb0.trans (hb1.mono (by omega)))
            | ((with_reducible refine wpList_store_row Tryd.agg25 rfl (.tmp 11) (.tmp 31) rfl _ (bcells R) rfl rfl 23 lit32 (Row.new w1 23 lit32) HRS.out lit32_size (bcells_one _) ?_); intro w2 hr2 ho2; have HL2 := Lib.hid hr2; have hs2 := ho2.size; simp at hs2; have hb2 := (hb1'.alloc hb1'.size (.cells lit32 23)).trans (ho2.below (B := w.heap.size) (by omega) (by simp; omega)); have HSG2 := Lib.hid (((HSG.out.below hb1 hs0).alloc (.cells lit32 23)).only ho2 (by omega)); have HRP2 := Lib.hid (((HRP.out.below hb1 (by omega)).alloc (.cells lit32 23)).only ho2 (by omega)); have k0' : w2.cell? ⟨w.heap.size + 1, 0, none⟩ = some (.int .i64 i) := HSG2.out.cell 0; have k2' : w2.cell? ⟨w.heap.size + 1, 2, none⟩ = some (.slice A2 n2 c2) := HSG2.out.cell 2; clear hr2)
            | (with_reducible refine wpList_load_row Tryd.agg25 rfl (.tmp 11) rfl _ rfl 23 _ HL2.out HRS.out ?_)
            | (go_at_call 48; refine (HC.out w2 hb2).mono ?_; rintro e3 w3 ⟨rfl, hb3⟩; have hs3 := hb3.size; have HRP3 := Lib.hid (HRP2.out.below hb3 (by omega)); have hb3' := hb2.trans (hb3.mono hb2.size))
            | (with_reducible refine wpList_store_row Tryd.agg25 rfl (.tmp 13) (.tmp 42) rfl _ (bcells C) rfl rfl 23 lit32 (Row.new w3 23 lit32) HCS.out lit32_size (bcells_one _) ?_; intro w4 hr4 ho4; have HC4 := Lib.hid hr4; have hs4 := ho4.size; simp at hs4; have HRP4 := Lib.hid ((HRP3.out.alloc (.cells lit32 23)).only ho4 (by omega)); have hb4 := (hb3'.alloc hb3'.size (.cells lit32 23)).trans (ho4.below (B := w.heap.size) (by omega) (by simp; omega)); clear hr4))
          go_ret
          exact ⟨by simp [HF.out], hb4⟩
      · have hE0 : (E != 0) = true := by simp [hE]
        have HE := Lib.hid hE
        clear hE
        go_enter Tryd.func25, Tryd.ntmps25
        go_wp2_with (first
          | (go_at_call 33; refine (HM.out _).mono ?_; rintro e1 w1 ⟨rfl, rfl⟩)
          | (go_at_call 47; refine (HR.out w0 hb0).mono ?_; rintro e1 w1 ⟨rfl, hb1⟩; have hs1 := hb1.size; have hb1' := hb0.trans (hb1.mono (by omega)))
          | (with_reducible refine wpList_store_row Tryd.agg25 rfl (.tmp 11) (.tmp 31) rfl _ (bcells R) rfl rfl 23 lit32 (Row.new w1 23 lit32) HRS.out lit32_size (bcells_one _) ?_; intro w2 hr2 ho2; have hs2 := ho2.size; simp at hs2; have hb2 := (hb1'.alloc hb1'.size (.cells lit32 23)).trans (ho2.below (B := w.heap.size) (by omega) (by simp; omega)); clear hr2))
        go_ret
        exact ⟨by simp [HE.out], hb2⟩
    · have hl0 : ((n2 : Int) != h) = true := by simp [hl]
      have HLN := Lib.hid hl
      clear hl
      go_enter Tryd.func25, Tryd.ntmps25
      go_wp2_with (first
        | (go_at_call 33; refine (HM.out _).mono ?_; rintro e1 w1 ⟨rfl, rfl⟩))
      go_ret
      exact ⟨by simp [HLN.out], hb0⟩
set_option maxRecDepth 100000 in
set_option maxHeartbeats 4000000 in
theorem kRefVerify_any (p : List UInt8) (b h i : Int) (A A1 A2 : Option Addr) (nt ct n1 c1 n2 c2 : Nat) (l : List UInt8) (O P : List (List UInt8)) (w : World) (hp : p.length = 32) (hi : i < 9223372036854775808) (hB : Bs w A nt l) (hnc : nt ≤ ct) (hnt : nt ≤ 1000000) (hO : Ds w A1 n1 O) (hP : Ds w A2 n2 P) (hF : First w) (hT : Tab 2 w) :
    Calls Tryd.prog 27 #[.agg (bcells p), .int .i64 b, .int .i64 h, .slice A nt ct, .agg (sigC i A1 n1 c1 A2 n2 c2)] w fun e w' => e = .returned (.bool (verK p b h (sumL l) i O P)) ∧ Below w.heap.size w w' := by
  obtain ⟨w0, hw0⟩ : ∃ w0, (w.alloc (.cells (bcells p) 23)).alloc (.cells (sigC i A1 n1 c1 A2 n2 c2) 44) = w0 := ⟨_, rfl⟩
  have hb0 : Below w.heap.size w w0 := by rw [← hw0]; exact ((Below.refl w.heap.size w).alloc (Nat.le_refl _) _).alloc (by simp) _
  have hs0 : w.heap.size + 1 < w0.heap.size := by rw [← hw0]; simp
  have hrp : Row w0 w.heap.size 23 (bcells p) := by rw [← hw0]; exact (Row.new w 23 _).alloc _
  have hrs : Row w0 (w.heap.size + 1) 44 (sigC i A1 n1 c1 A2 n2 c2) := by rw [← hw0]; exact Row.new1 w _ 44 _
  have HM := Lib.hid (fun w => kRight_any b h w)
  have HR := Lib.hid (fun w hb => RefRecover_any b A A1 nt ct n1 c1 l O w (hB.below hb) hnc hnt (hO.below hb) (hF.below hb) (hT.below hb))
  have HC := Lib.hid (fun w hb => RefClimb_all (recI b (sumL l) O) i A2 n2 c2 P w (recI_length _ _ _) hi (hP.below hb) (hF.below hb) (hT.below hb))
  have HRS := Lib.hid (show (bcells (recI b (sumL l) O)).size = 32 by rw [bcells_size, recI_length])
  have HCL := Lib.hid (climbI_length (recI b (sumL l) O) i P (recI_length _ _ _))
  have HCS := Lib.hid (show (bcells (climbI (recI b (sumL l) O) i P)).size = 32 by rw [bcells_size, climbI_length _ _ _ (recI_length _ _ _)])
  have HPS := Lib.hid (show (bcells p).size = 32 by rw [bcells_size, hp])
  have heq := eqD (climbI (recI b (sumL l) O) i P) p HCL.out hp
  have HPL := Lib.hid hp
  have HRP := Lib.hid hrp
  have HSG := Lib.hid hrs
  have k1 : w0.cell? ⟨w.heap.size + 1, 1, none⟩ = some (.slice A1 n1 c1) := hrs.cell 1
  have k2 : w0.cell? ⟨w.heap.size + 1, 2, none⟩ = some (.slice A2 n2 c2) := hrs.cell 2
  have hPl := hP.1
  unfold verK
  generalize okK b h = v at *
  generalize recI b (sumL l) O = R at *
  generalize errR b O.length = E at *
  generalize climbI R i P = C at *
  generalize errC P.length i = F at *
  rw [hPl]
  clear hp hB hO hP hPl hrp hrs hT hF hi
  cases v
  · go_enter Tryd.func27, Tryd.ntmps27
    go_wp2_with (first
      | (go_at_call 14; refine (HM.out _).mono ?_; rintro e1 w1 ⟨rfl, rfl⟩))
    go_ret
    exact ⟨by simp, hb0⟩
  · by_cases hl : (n2 : Int) = h
    · have hl0 : ((n2 : Int) != h) = false := by simp [hl]
      have HLN := Lib.hid hl
      clear hl
      by_cases hE : E = 0
      · subst hE
        by_cases hF : F = 0
        · subst hF
          go_enter Tryd.func27, Tryd.ntmps27
          go_wp2_with (first
            | (go_at_call 14; refine (HM.out _).mono ?_; rintro e1 w1 ⟨rfl, rfl⟩)
            | (go_at_call 49; refine (HR.out w0 hb0).mono ?_; rintro e1 w1 ⟨rfl, hb1⟩; have hs1 := hb1.size; have hb1' := hb0.trans (hb1.mono (by omega)))
            | ((with_reducible refine wpList_store_row Tryd.agg25 rfl (.tmp 11) (.tmp 32) rfl _ (bcells R) rfl rfl 23 lit32 (Row.new w1 23 lit32) HRS.out lit32_size (bcells_one _) ?_); intro w2 hr2 ho2; have HL2 := Lib.hid hr2; have hs2 := ho2.size; simp at hs2; have hb2 := (hb1'.alloc hb1'.size (.cells lit32 23)).trans (ho2.below (B := w.heap.size) (by omega) (by simp; omega)); have HSG2 := Lib.hid (((HSG.out.below hb1 hs0).alloc (.cells lit32 23)).only ho2 (by omega)); have HRP2 := Lib.hid (((HRP.out.below hb1 (by omega)).alloc (.cells lit32 23)).only ho2 (by omega)); have k0' : w2.cell? ⟨w.heap.size + 1, 0, none⟩ = some (.int .i64 i) := HSG2.out.cell 0; have k2' : w2.cell? ⟨w.heap.size + 1, 2, none⟩ = some (.slice A2 n2 c2) := HSG2.out.cell 2; clear hr2)
            | (with_reducible refine wpList_load_row Tryd.agg25 rfl (.tmp 11) rfl _ rfl 23 _ HL2.out HRS.out ?_)
            | (go_at_call 50; refine (HC.out w2 hb2).mono ?_; rintro e3 w3 ⟨rfl, hb3⟩; have hs3 := hb3.size; have HRP3 := Lib.hid (HRP2.out.below hb3 (by omega)); have hb3' := hb2.trans (hb3.mono hb2.size))
            | (with_reducible refine wpList_store_row Tryd.agg25 rfl (.tmp 13) (.tmp 41) rfl _ (bcells C) rfl rfl 23 lit32 (Row.new w3 23 lit32) HCS.out lit32_size (bcells_one _) ?_; intro w4 hr4 ho4; have HC4 := Lib.hid hr4; have hs4 := ho4.size; simp at hs4; have HRP4 := Lib.hid ((HRP3.out.alloc (.cells lit32 23)).only ho4 (by omega)); have hb4 := (hb3'.alloc hb3'.size (.cells lit32 23)).trans (ho4.below (B := w.heap.size) (by omega) (by simp; omega)); clear hr4)
            | (with_reducible refine wpList_loadG (by with_unfolding_all rfl) (.tmp 13) rfl _ 0 C rfl (range_row HC4.out) HCL.out ?_)
            | (with_reducible refine wpList_loadG (by with_unfolding_all rfl) (.tmp 5) rfl _ 0 p rfl (range_row HRP4.out) HPL.out ?_))
          go_ret
          exact ⟨by simp [HLN.out], hb4⟩
        · have hF0 : (F == 0) = false := by simp [hF]
          have HF := Lib.hid hF
          clear hF
          go_enter Tryd.func27, Tryd.ntmps27
          go_wp2_with (first
            | (go_at_call 14; refine (HM.out _).mono ?_; rintro e1 w1 ⟨rfl, rfl⟩)
            | (go_at_call 49; refine (HR.out w0 hb0).mono ?_; rintro e1 w1 ⟨rfl, hb1⟩; have hs1 := hb1.size; have hb1' := hb0.trans (hb1.mono (by omega)))
            | ((with_reducible refine wpList_store_row Tryd.agg25 rfl (.tmp 11) (.tmp 32) rfl _ (bcells R) rfl rfl 23 lit32 (Row.new w1 23 lit32) HRS.out lit32_size (bcells_one _) ?_); intro w2 hr2 ho2; have HL2 := Lib.hid hr2; have hs2 := ho2.size; simp at hs2; have hb2 := (hb1'.alloc hb1'.size (.cells lit32 23)).trans (ho2.below (B := w.heap.size) (by omega) (by simp; omega)); have HSG2 := Lib.hid (((HSG.out.below hb1 hs0).alloc (.cells lit32 23)).only ho2 (by omega)); have HRP2 := Lib.hid (((HRP.out.below hb1 (by omega)).alloc (.cells lit32 23)).only ho2 (by omega)); have k0' : w2.cell? ⟨w.heap.size + 1, 0, none⟩ = some (.int .i64 i) := HSG2.out.cell 0; have k2' : w2.cell? ⟨w.heap.size + 1, 2, none⟩ = some (.slice A2 n2 c2) := HSG2.out.cell 2; clear hr2)
            | (with_reducible refine wpList_load_row Tryd.agg25 rfl (.tmp 11) rfl _ rfl 23 _ HL2.out HRS.out ?_)
            | (go_at_call 50; refine (HC.out w2 hb2).mono ?_; rintro e3 w3 ⟨rfl, hb3⟩; have hs3 := hb3.size; have HRP3 := Lib.hid (HRP2.out.below hb3 (by omega)); have hb3' := hb2.trans (hb3.mono hb2.size))
            | (with_reducible refine wpList_store_row Tryd.agg25 rfl (.tmp 13) (.tmp 41) rfl _ (bcells C) rfl rfl 23 lit32 (Row.new w3 23 lit32) HCS.out lit32_size (bcells_one _) ?_; intro w4 hr4 ho4; have HC4 := Lib.hid hr4; have hs4 := ho4.size; simp at hs4; have HRP4 := Lib.hid ((HRP3.out.alloc (.cells lit32 23)).only ho4 (by omega)); have hb4 := (hb3'.alloc hb3'.size (.cells lit32 23)).trans (ho4.below (B := w.heap.size) (by omega) (by simp; omega)); clear hr4))
          go_ret
          exact ⟨by simp [HF.out], hb4⟩
      · have hE0 : (E == 0) = false := by simp [hE]
        have HE := Lib.hid hE
        clear hE
        go_enter Tryd.func27, Tryd.ntmps27
        go_wp2_with (first
          | (go_at_call 14; refine (HM.out _).mono ?_; rintro e1 w1 ⟨rfl, rfl⟩)
          | (go_at_call 49; refine (HR.out w0 hb0).mono ?_; rintro e1 w1 ⟨rfl, hb1⟩; have hs1 := hb1.size; have hb1' := hb0.trans (hb1.mono (by omega)))
          | ((with_reducible refine wpList_store_row Tryd.agg25 rfl (.tmp 11) (.tmp 32) rfl _ (bcells R) rfl rfl 23 lit32 (Row.new w1 23 lit32) HRS.out lit32_size (bcells_one _) ?_); intro w2 hr2 ho2; have HL2 := Lib.hid hr2; have hs2 := ho2.size; simp at hs2; have hb2 := (hb1'.alloc hb1'.size (.cells lit32 23)).trans (ho2.below (B := w.heap.size) (by omega) (by simp; omega)); have HSG2 := Lib.hid (((HSG.out.below hb1 hs0).alloc (.cells lit32 23)).only ho2 (by omega)); have HRP2 := Lib.hid (((HRP.out.below hb1 (by omega)).alloc (.cells lit32 23)).only ho2 (by omega)); have k0' : w2.cell? ⟨w.heap.size + 1, 0, none⟩ = some (.int .i64 i) := HSG2.out.cell 0; have k2' : w2.cell? ⟨w.heap.size + 1, 2, none⟩ = some (.slice A2 n2 c2) := HSG2.out.cell 2; clear hr2)
          | (with_reducible refine wpList_load_row Tryd.agg25 rfl (.tmp 11) rfl _ rfl 23 _ HL2.out HRS.out ?_)
          | (go_at_call 50; refine (HC.out w2 hb2).mono ?_; rintro e3 w3 ⟨rfl, hb3⟩; have hs3 := hb3.size; have HRP3 := Lib.hid (HRP2.out.below hb3 (by omega)); have hb3' := hb2.trans (hb3.mono hb2.size))
          | (with_reducible refine wpList_store_row Tryd.agg25 rfl (.tmp 13) (.tmp 41) rfl _ (bcells C) rfl rfl 23 lit32 (Row.new w3 23 lit32) HCS.out lit32_size (bcells_one _) ?_; intro w4 hr4 ho4; have HC4 := Lib.hid hr4; have hs4 := ho4.size; simp at hs4; have HRP4 := Lib.hid ((HRP3.out.alloc (.cells lit32 23)).only ho4 (by omega)); have hb4 := (hb3'.alloc hb3'.size (.cells lit32 23)).trans (ho4.below (B := w.heap.size) (by omega) (by simp; omega)); clear hr4))
        go_ret
        exact ⟨by simp [HE.out], hb4⟩
    · have hl0 : ((n2 : Int) != h) = true := by simp [hl]
      have HLN := Lib.hid hl
      clear hl
      go_enter Tryd.func27, Tryd.ntmps27
      go_wp2_with (first
        | (go_at_call 14; refine (HM.out _).mono ?_; rintro e1 w1 ⟨rfl, rfl⟩))
      go_ret
      exact ⟨by simp [HLN.out], hb0⟩
end Go.Proofs.YtfelmdndjdaniaaDoor
