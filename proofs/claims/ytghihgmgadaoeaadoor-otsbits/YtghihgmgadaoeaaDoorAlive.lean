/-
  What is answered at whatever number of bits, in one form each: ots.Public, Sign, Recover, Verify and the document's own; the laws' own and awake.
-/
import Derived.Test.YtghihgmgadaoeaaDoorRefRec
import Derived.Test.YtghihgmgadaoeaaDoorKnown
namespace Go.Proofs.YtghihgmgadaoeaaDoor
open Go.RowKit
/-- may there be so many bits? -/
def okB (n : Int) : Bool := decide (1 ≤ n) && decide (n ≤ 256)
def errA (n : Int) : Int := if okB n then 0 else 1
def pubI (s : List UInt8) (n : Int) : List (List UInt8) := if okB n then pubN s n.toNat else []
def sigI (s d : List UInt8) (n : Int) : List (List UInt8) := if okB n then sigN s d n.toNat else []
def errR (n : Int) (k : Nat) : Int := if okB n then (if (k : Int) = 2 * n then 0 else 41) else 1
def recI (n : Int) (d : List UInt8) (L : List (List UInt8)) : List UInt8 := if okB n && decide ((L.length : Int) = 2 * n) then rootL (ledN d L n.toNat) else zero32
theorem okB_yes {n : Int} (h : okB n = true) : 1 ≤ n ∧ n ≤ 256 := by simpa [okB] using h
theorem okB_no {n : Int} (h : okB n = false) : n < 1 ∨ 256 < n := by
  unfold okB at h
  simp only [Bool.and_eq_false_iff, decide_eq_false_iff_not] at h
  omega
theorem okB_of {n : Nat} (h1 : 1 ≤ n) (h2 : n ≤ 256) : okB (n : Int) = true := by simp [okB]; omega
theorem zero32_length : zero32.length = 32 := by unfold zero32; rw [List.length_replicate]
theorem recI_length (n : Int) (d : List UInt8) (L : List (List UInt8)) : (recI n d L).length = 32 := by
  unfold recI; split
  · exact rootL_length _
  · exact zero32_length
theorem pubI_length (s : List UInt8) (n : Int) : (pubI s n).length ≤ 512 := by
  unfold pubI
  cases h : okB n
  · simp
  · have := okB_yes h
    simp only [if_true, pubN_length]; omega
theorem sigI_length (s d : List UInt8) (n : Int) : (sigI s d n).length ≤ 512 := by
  unfold sigI
  cases h : okB n
  · simp
  · have := okB_yes h
    simp only [if_true, sigN_length]; omega
theorem Public_any (s : List UInt8) (n : Int) (w : World) (hs : s.length = 32) (hT : Tab 2 w) : Calls Tryd.prog 10 #[.agg (bcells s), .int .i64 n] w (NewD w (pubI s n) (errA n)) := by
  unfold pubI errA
  cases h : okB n
  · exact Public_no s n w (okB_no h)
  · obtain ⟨h1, h2⟩ := okB_yes h
    obtain ⟨k, rfl⟩ := Int.eq_ofNat_of_zero_le (show 0 ≤ n by omega)
    exact Public_ok s k w hs (by omega) (by omega) hT
theorem RefPublic_any (s : List UInt8) (n : Int) (w : World) (hs : s.length = 32) (hF : First w) (hT : Tab 1 w) : Calls Tryd.prog 11 #[.agg (bcells s), .int .i64 n] w (NewD w (pubI s n) (errA n)) := by
  unfold pubI errA
  cases h : okB n
  · exact RefPublic_no s n w (okB_no h)
  · obtain ⟨h1, h2⟩ := okB_yes h
    obtain ⟨k, rfl⟩ := Int.eq_ofNat_of_zero_le (show 0 ≤ n by omega)
    exact RefPublic_ok s k w hs (by omega) (by omega) hF hT
theorem Sign_any (s : List UInt8) (n : Int) (A : Option Addr) (nt ct : Nat) (l : List UInt8) (w : World) (hs : s.length = 32) (hB : Bs w A nt l) (hnc : nt ≤ ct) (hnt : nt ≤ 1000000) (hT : Tab 2 w) :
    Calls Tryd.prog 15 #[.agg (bcells s), .int .i64 n, .slice A nt ct] w (NewD w (sigI s (sumL l) n) (errA n)) := by
  unfold sigI errA
  cases h : okB n
  · exact Sign_no s n A nt ct w (okB_no h)
  · obtain ⟨h1, h2⟩ := okB_yes h
    obtain ⟨k, rfl⟩ := Int.eq_ofNat_of_zero_le (show 0 ≤ n by omega)
    exact Sign_ok s k A nt ct l w hs (by omega) (by omega) hB hnc hnt hT
theorem RefSign_any (s : List UInt8) (n : Int) (A : Option Addr) (nt ct : Nat) (l : List UInt8) (w : World) (hs : s.length = 32) (hB : Bs w A nt l) (hnc : nt ≤ ct) (hnt : nt ≤ 1000000) (hF : First w) (hT : Tab 1 w) :
    Calls Tryd.prog 17 #[.agg (bcells s), .int .i64 n, .slice A nt ct] w (NewD w (sigI s (sumL l) n) (errA n)) := by
  unfold sigI errA
  cases h : okB n
  · exact RefSign_no s n A nt ct w (okB_no h)
  · obtain ⟨h1, h2⟩ := okB_yes h
    obtain ⟨k, rfl⟩ := Int.eq_ofNat_of_zero_le (show 0 ≤ n by omega)
    exact RefSign_ok s k A nt ct l w hs (by omega) (by omega) hB hnc hnt hF hT
theorem Recover_any (n : Int) (A B : Option Addr) (nt ct ns cs : Nat) (l : List UInt8) (L : List (List UInt8)) (w : World) (hB : Bs w A nt l) (hnc : nt ≤ ct) (hnt : nt ≤ 1000000) (hD : Ds w B ns L) (hT : Tab 2 w) :
    Calls Tryd.prog 18 #[.int .i64 n, .slice A nt ct, .slice B ns cs] w (RecD w (recI n (sumL l) L) (errR n L.length)) := by
  unfold recI errR
  cases h : okB n
  · exact Recover_no n A B nt ct ns cs w (okB_no h)
  · obtain ⟨h1, h2⟩ := okB_yes h
    obtain ⟨k, rfl⟩ := Int.eq_ofNat_of_zero_le (show 0 ≤ n by omega)
    have hl := hD.1
    by_cases hk : ns = 2 * k
    · have hk' : (L.length : Int) = 2 * (k : Int) := by omega
      rw [if_pos (by simp [hk']), if_pos rfl, if_pos hk']
      exact Recover_ok k A B nt ct ns cs l L w (by omega) (by omega) hk hB hnc hnt hD hT
    · have hk' : ¬ (L.length : Int) = 2 * (k : Int) := by omega
      rw [if_neg (by simp [hk']), if_pos rfl, if_neg hk']
      exact Recover_form k A B nt ct ns cs w (by omega) (by omega) hk
theorem RefRecover_any (n : Int) (A B : Option Addr) (nt ct ns cs : Nat) (l : List UInt8) (L : List (List UInt8)) (w : World) (hB : Bs w A nt l) (hnc : nt ≤ ct) (hnt : nt ≤ 1000000) (hD : Ds w B ns L) (hF : First w) (hT : Tab 1 w) :
    Calls Tryd.prog 19 #[.int .i64 n, .slice A nt ct, .slice B ns cs] w (RecD w (recI n (sumL l) L) (errR n L.length)) := by
  unfold recI errR
  cases h : okB n
  · exact RefRecover_no n A B nt ct ns cs w (okB_no h)
  · obtain ⟨h1, h2⟩ := okB_yes h
    obtain ⟨k, rfl⟩ := Int.eq_ofNat_of_zero_le (show 0 ≤ n by omega)
    have hl := hD.1
    by_cases hk : ns = 2 * k
    · have hk' : (L.length : Int) = 2 * (k : Int) := by omega
      rw [if_pos (by simp [hk']), if_pos rfl, if_pos hk']
      exact RefRecover_ok k A B nt ct ns cs l L w (by omega) (by omega) hk hB hnc hnt hD hF hT
    · have hk' : ¬ (L.length : Int) = 2 * (k : Int) := by omega
      rw [if_neg (by simp [hk']), if_pos rfl, if_neg hk']
      exact RefRecover_form k A B nt ct ns cs w (by omega) (by omega) hk
/-- what Verify tells -/
def verI (r : List UInt8) (n : Int) (d : List UInt8) (L : List (List UInt8)) : Bool := decide (errR n L.length = 0) && decide (recI n d L = r)
theorem Verify_any (r : List UInt8) (n : Int) (A B : Option Addr) (nt ct ns cs : Nat) (l : List UInt8) (L : List (List UInt8)) (w : World) (hr : r.length = 32) (hB : Bs w A nt l) (hnc : nt ≤ ct) (hnt : nt ≤ 1000000) (hD : Ds w B ns L) (hT : Tab 2 w) :
    Calls Tryd.prog 21 #[.agg (bcells r), .int .i64 n, .slice A nt ct, .slice B ns cs] w fun e w' => e = .returned (.bool (verI r n (sumL l) L)) ∧ Below w.heap.size w w' :=
  Verify_of r (recI n (sumL l) L) (errR n L.length) n A B nt ct ns cs w hr (recI_length _ _ _) _ rfl fun _ hb => Recover_any n A B nt ct ns cs l L _ (hB.below hb) hnc hnt (hD.below hb) (hT.below hb)
/-- what is signed is verified -/
theorem verI_back (s d : List UInt8) (n : Int) : verI (rootL (pubI s n)) n d (sigI s d n) = okB n := by
  unfold verI errR recI pubI sigI
  cases h : okB n
  · simp
  · obtain ⟨h1, h2⟩ := okB_yes h
    obtain ⟨k, rfl⟩ := Int.eq_ofNat_of_zero_le (show 0 ≤ n by omega)
    have e : ((sigN s d k).length : Int) = 2 * (k : Int) := by rw [sigN_length]; omega
    simp only [if_true, Int.toNat_natCast, e, decide_true, Bool.and_self, ledN_sig s d k k (Nat.le_refl _)]
theorem verI_zero (d : List UInt8) : verI zero32 2 d (sigI zero32 d 2) = false := by
  have h := awake_root
  have e1 : sigI zero32 d 2 = sigN zero32 d 2 := rfl
  have e2 : errR 2 (sigN zero32 d 2).length = 0 := by rw [sigN_length]; rfl
  have e3 : recI 2 d (sigN zero32 d 2) = rootL (pubN zero32 2) := by
    unfold recI
    rw [if_pos (by rw [sigN_length]; rfl)]
    exact congrArg rootL (ledN_sig zero32 d 2 2 (Nat.le_refl _))
  unfold verI
  rw [e1, e3, Bool.and_eq_false_iff]
  refine .inr (decide_eq_false fun q => ?_)
  rw [q] at h
  simp at h
set_option maxRecDepth 100000 in
set_option maxHeartbeats 400000 in
theorem own_any (A : Option Addr) (n c : Nat) (l : List UInt8) (w : World) (hB : Bs w A n l) (hn : n ≤ 140737488355328) : Calls Tryd.prog 16 #[.slice A n c] w (NewSlice w 5 l) := by
  have HB := Lib.hid hB
  clear hB
  go_enter Tryd.func16, Tryd.ntmps16
  go_wp2_with (at_builtin; refine wpList_copy Tryd.byteTypes rfl (.tmp 3) (.tmp 4) rfl rfl A n c l rfl HB.out (by omega) ?_; intro A1 c1 w1 hB1 hc1 hb1 ho1)
  go_ret
  exact ⟨_, _, _, rfl, hB1, hc1, hb1, ho1⟩
theorem lit_one (w : World) : Bs (w.alloc (.cells #[.int .u8 97] 5)) (some ⟨w.heap.size, 0, none⟩) 1 [97] := (one_of w 97 5).bs
set_option maxRecDepth 100000 in
set_option maxHeartbeats 2000000 in
theorem awake_any (w : World) (hT : Tab 2 w) : Calls Tryd.prog 9 #[] w fun e w' => e = .returned (.bool true) ∧ Below w.heap.size w w' := by
  have HP := Lib.hid (fun w hT => show Calls Tryd.prog 10 #[.agg lit32, .int .i64 2] w fun e w' => ∃ A c, e = .returned (.tuple #[.slice A 4 c, .int .i64 0]) ∧ Ds w' A 4 (pubN zero32 2) ∧ Below w.heap.size w w' from
    (show Calls Tryd.prog 10 #[.agg (bcells zero32), .int .i64 2] w _ from Public_ok zero32 2 w zero32_length (by omega) (by omega) hT).mono fun e w' ⟨A, c, he, _, hd, hb⟩ => ⟨A, c, he, hd, hb⟩)
  have HS := Lib.hid (fun A w hB hT => show Calls Tryd.prog 15 #[.agg lit32, .int .i64 2, .slice A 1 1] w fun e w' => ∃ A c, e = .returned (.tuple #[.slice A 4 c, .int .i64 0]) ∧ Ds w' A 4 (sigN zero32 (sumL [97]) 2) ∧ Below w.heap.size w w' from
    (show Calls Tryd.prog 15 #[.agg (bcells zero32), .int .i64 2, .slice A 1 1] w _ from Sign_ok zero32 2 A 1 1 [97] w zero32_length (by omega) (by omega) hB (Nat.le_refl _) (by omega) hT).mono fun e w' ⟨A, c, he, _, hd, hb⟩ => ⟨A, c, he, hd, hb⟩)
  have HR := Lib.hid (fun A c w hD hT => Root_any A 4 c (pubN zero32 2) w hD hT (by omega))
  have HV := Lib.hid (fun A B c w hB hD hT => show Calls Tryd.prog 21 #[.agg (bcells (rootL (pubN zero32 2))), .int .i64 2, .slice A 1 1, .slice B 4 c] w fun e w' => e = .returned (.bool true) ∧ Below w.heap.size w w' from by
    have h := Verify_any (rootL (pubN zero32 2)) 2 A B 1 1 4 c [97] (sigN zero32 (sumL [97]) 2) w (rootL_length _) hB (Nat.le_refl _) (by omega) hD hT
    rw [show verI (rootL (pubN zero32 2)) 2 (sumL [97]) (sigN zero32 (sumL [97]) 2) = true from verI_back zero32 (sumL [97]) 2] at h
    exact h)
  have HZ := Lib.hid (fun A B c w hB hD hT => show Calls Tryd.prog 21 #[.agg lit32, .int .i64 2, .slice A 1 1, .slice B 4 c] w fun e w' => e = .returned (.bool false) ∧ Below w.heap.size w w' from by
    have h := Verify_any zero32 2 A B 1 1 4 c [97] (sigN zero32 (sumL [97]) 2) w zero32_length hB (Nat.le_refl _) (by omega) hD hT
    rw [show verI zero32 2 (sumL [97]) (sigN zero32 (sumL [97]) 2) = false from verI_zero (sumL [97])] at h
    exact h)
  generalize sigN zero32 (sumL [97]) 2 = SG at *
  generalize rootL (pubN zero32 2) = R at *
  generalize pubN zero32 2 = PB at *
  have HT := Lib.hid hT
  clear hT
  go_enter Tryd.func9, Tryd.ntmps9
  go_wp2_with (first
    | (go_at_call 10; refine (HP.out w HT.out).mono ?_; rintro e1 w1 ⟨A1, c1, rfl, hd1, hb1⟩; have HD1 := Lib.hid hd1; have b1 : Below w1.heap.size w1 (w1.alloc (.cells #[.int .u8 97] 5)) := (Below.refl _ _).alloc (Nat.le_refl _) _; have hb1' := hb1.alloc hb1.size (.cells #[.int .u8 97] 5); clear hd1)
    | (go_at_call 15; refine (HS.out _ _ (lit_one w1) (HT.out.below hb1')).mono ?_; rintro e2 w2 ⟨A2, c2, rfl, hd2, hb2⟩; have HD2 := Lib.hid hd2; have hb2' := hb1'.trans (hb2.mono hb1'.size); have HD12 := Lib.hid ((HD1.out.below b1).below hb2); clear hd2)
    | (go_at_call 13; refine (HR.out A1 c1 w2 HD12.out (HT.out.below hb2')).mono ?_; rintro e3 w3 ⟨rfl, hb3⟩; have hb3' := hb2'.trans (hb3.mono hb2'.size); have b3 : Below w3.heap.size w3 (w3.alloc (.cells #[.int .u8 97] 5)) := (Below.refl _ _).alloc (Nat.le_refl _) _; have hb3a := hb3'.alloc hb3'.size (.cells #[.int .u8 97] 5); have HD23 := Lib.hid ((HD2.out.below hb3).below b3))
    | (go_at_call_of 21 (Value.agg (bcells R)); refine (HV.out _ A2 c2 _ (lit_one w3) HD23.out (HT.out.below hb3a)).mono ?_; rintro e4 w4 ⟨rfl, hb4⟩; have hb4' := hb3a.trans (hb4.mono hb3a.size); have b4 : Below w4.heap.size w4 (w4.alloc (.cells #[.int .u8 97] 5)) := (Below.refl _ _).alloc (Nat.le_refl _) _; have hb4a := hb4'.alloc hb4'.size (.cells #[.int .u8 97] 5); have HD24 := Lib.hid ((HD23.out.below hb4).below b4))
    | (go_at_call 21; refine (HZ.out _ A2 c2 _ (lit_one w4) HD24.out (HT.out.below hb4a)).mono ?_; rintro e5 w5 ⟨rfl, hb5⟩; have hb5' := hb4a.trans (hb5.mono hb4a.size)))
  go_ret
  exact ⟨rfl, hb5'⟩
end Go.Proofs.YtghihgmgadaoeaaDoor
