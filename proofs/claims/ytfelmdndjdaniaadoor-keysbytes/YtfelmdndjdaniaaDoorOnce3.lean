/-
  Once3: ported texts, joined.
-/
import Derived.Test.YtfelmdndjdaniaaDoorDigA
import Derived.Test.YtfelmdndjdaniaaDoorOnce2
namespace Go.Proofs.YtfelmdndjdaniaaDoor
section
theorem awake_root : (rootL (pubN zero32 2) == zero32) = false := by decide +kernel
end
section
open Go.RowKit
/-- may there be so many bits? -/
def okB (n : Int) : Bool := decide (1 ≤ n) && decide (n ≤ 256)
def errA (n : Int) : Int := if okB n then 0 else 1
def pubI (s : List UInt8) (n : Int) : List (List UInt8) := if okB n then pubN s n.toNat else []
def sigI (s d : List UInt8) (n : Int) : List (List UInt8) := if okB n then sigN s d n.toNat else []
def errR (n : Int) (k : Nat) : Int := if okB n then (if (k : Int) = 2 * n then 0 else 41) else 1
def recI (n : Int) (d : List UInt8) (L : List (List UInt8)) : List UInt8 := if okB n && decide ((L.length : Int) = 2 * n) then rootL (ledN d L n.toNat) else zero32
theorem okB_yes {n : Int} (h : okB n = true) : 1 ≤ n ∧ n ≤ 256 := by simpa [okB] using h
theorem okB_no {n : Int} (h : okB n = false) : n < 1 ∨ 256 < n := by
  unfold okB at h
  simp only [Bool.and_eq_false_iff, decide_eq_false_iff_not] at h
  omega
theorem okB_of {n : Nat} (h1 : 1 ≤ n) (h2 : n ≤ 256) : okB (n : Int) = true := by simp [okB]; omega
theorem recI_length (n : Int) (d : List UInt8) (L : List (List UInt8)) : (recI n d L).length = 32 := by
  unfold recI; split
  · exact rootL_length _
  · exact zero32_length
theorem pubI_length (s : List UInt8) (n : Int) : (pubI s n).length ≤ 512 := by
  unfold pubI
  cases h : okB n
  · simp
  · have := okB_yes h
    simp only [if_true, pubN_length]; omega
theorem sigI_length (s d : List UInt8) (n : Int) : (sigI s d n).length ≤ 512 := by
  unfold sigI
  cases h : okB n
  · simp
  · have := okB_yes h
    simp only [if_true, sigN_length]; omega
theorem Public_any (s : List UInt8) (n : Int) (w : World) (hs : s.length = 32) (hT : Tab 1 w) : Calls Tryd.prog 65 #[.agg (bcells s), .int .i64 n] w (NewD w (pubI s n) (errA n)) := by
  unfold pubI errA
  cases h : okB n
  · exact Public_no s n w (okB_no h)
  · obtain ⟨h1, h2⟩ := okB_yes h
    obtain ⟨k, rfl⟩ := Int.eq_ofNat_of_zero_le (show 0 ≤ n by omega)
    exact Public_ok s k w hs (by omega) (by omega) hT
theorem RefPublic_any (s : List UInt8) (n : Int) (w : World) (hs : s.length = 32) (hF : First w) (hT : Tab 2 w) : Calls Tryd.prog 72 #[.agg (bcells s), .int .i64 n] w (NewD w (pubI s n) (errA n)) := by
  unfold pubI errA
  cases h : okB n
  · exact RefPublic_no s n w (okB_no h)
  · obtain ⟨h1, h2⟩ := okB_yes h
    obtain ⟨k, rfl⟩ := Int.eq_ofNat_of_zero_le (show 0 ≤ n by omega)
    exact RefPublic_ok s k w hs (by omega) (by omega) hF hT
theorem Sign_any (s : List UInt8) (n : Int) (A : Option Addr) (nt ct : Nat) (l : List UInt8) (w : World) (hs : s.length = 32) (hB : Bs w A nt l) (hnc : nt ≤ ct) (hnt : nt ≤ 1000000) (hT : Tab 1 w) :
    Calls Tryd.prog 41 #[.agg (bcells s), .int .i64 n, .slice A nt ct] w (NewD w (sigI s (sumL l) n) (errA n)) := by
  unfold sigI errA
  cases h : okB n
  · exact Sign_no s n A nt ct w (okB_no h)
  · obtain ⟨h1, h2⟩ := okB_yes h
    obtain ⟨k, rfl⟩ := Int.eq_ofNat_of_zero_le (show 0 ≤ n by omega)
    exact Sign_ok s k A nt ct l w hs (by omega) (by omega) hB hnc hnt hT
theorem RefSign_any (s : List UInt8) (n : Int) (A : Option Addr) (nt ct : Nat) (l : List UInt8) (w : World) (hs : s.length = 32) (hB : Bs w A nt l) (hnc : nt ≤ ct) (hnt : nt ≤ 1000000) (hF : First w) (hT : Tab 2 w) :
    Calls Tryd.prog 43 #[.agg (bcells s), .int .i64 n, .slice A nt ct] w (NewD w (sigI s (sumL l) n) (errA n)) := by
  unfold sigI errA
  cases h : okB n
  · exact RefSign_no s n A nt ct w (okB_no h)
  · obtain ⟨h1, h2⟩ := okB_yes h
    obtain ⟨k, rfl⟩ := Int.eq_ofNat_of_zero_le (show 0 ≤ n by omega)
    exact RefSign_ok s k A nt ct l w hs (by omega) (by omega) hB hnc hnt hF hT
theorem Recover_any (n : Int) (A B : Option Addr) (nt ct ns cs : Nat) (l : List UInt8) (L : List (List UInt8)) (w : World) (hB : Bs w A nt l) (hnc : nt ≤ ct) (hnt : nt ≤ 1000000) (hD : Ds w B ns L) (hT : Tab 1 w) :
    Calls Tryd.prog 47 #[.int .i64 n, .slice A nt ct, .slice B ns cs] w (RecD w (recI n (sumL l) L) (errR n L.length)) := by
  unfold recI errR
  cases h : okB n
  · exact Recover_no n A B nt ct ns cs w (okB_no h)
  · obtain ⟨h1, h2⟩ := okB_yes h
    obtain ⟨k, rfl⟩ := Int.eq_ofNat_of_zero_le (show 0 ≤ n by omega)
    have hl := hD.1
    by_cases hk : ns = 2 * k
    · have hk' : (L.length : Int) = 2 * (k : Int) := by omega
      rw [if_pos (by simp [hk']), if_pos rfl, if_pos hk']
      exact Recover_ok k A B nt ct ns cs l L w (by omega) (by omega) hk hB hnc hnt hD hT
    · have hk' : ¬ (L.length : Int) = 2 * (k : Int) := by omega
      rw [if_neg (by simp [hk']), if_pos rfl, if_neg hk']
      exact Recover_form k A B nt ct ns cs w (by omega) (by omega) hk
theorem RefRecover_any (n : Int) (A B : Option Addr) (nt ct ns cs : Nat) (l : List UInt8) (L : List (List UInt8)) (w : World) (hB : Bs w A nt l) (hnc : nt ≤ ct) (hnt : nt ≤ 1000000) (hD : Ds w B ns L) (hF : First w) (hT : Tab 2 w) :
    Calls Tryd.prog 49 #[.int .i64 n, .slice A nt ct, .slice B ns cs] w (RecD w (recI n (sumL l) L) (errR n L.length)) := by
  unfold recI errR
  cases h : okB n
  · exact RefRecover_no n A B nt ct ns cs w (okB_no h)
  · obtain ⟨h1, h2⟩ := okB_yes h
    obtain ⟨k, rfl⟩ := Int.eq_ofNat_of_zero_le (show 0 ≤ n by omega)
    have hl := hD.1
    by_cases hk : ns = 2 * k
    · have hk' : (L.length : Int) = 2 * (k : Int) := by omega
      rw [if_pos (by simp [hk']), if_pos rfl, if_pos hk']
      exact RefRecover_ok k A B nt ct ns cs l L w (by omega) (by omega) hk hB hnc hnt hD hF hT
    · have hk' : ¬ (L.length : Int) = 2 * (k : Int) := by omega
      rw [if_neg (by simp [hk']), if_pos rfl, if_neg hk']
      exact RefRecover_form k A B nt ct ns cs w (by omega) (by omega) hk
/-- what Verify tells -/
def verI (r : List UInt8) (n : Int) (d : List UInt8) (L : List (List UInt8)) : Bool := decide (errR n L.length = 0) && decide (recI n d L = r)
/-- what is signed is verified -/
theorem verI_back (s d : List UInt8) (n : Int) : verI (rootL (pubI s n)) n d (sigI s d n) = okB n := by
  unfold verI errR recI pubI sigI
  cases h : okB n
  · simp
  · obtain ⟨h1, h2⟩ := okB_yes h
    obtain ⟨k, rfl⟩ := Int.eq_ofNat_of_zero_le (show 0 ≤ n by omega)
    have e : ((sigN s d k).length : Int) = 2 * (k : Int) := by rw [sigN_length]; omega
    simp only [if_true, Int.toNat_natCast, e, decide_true, Bool.and_self, ledN_sig s d k k (Nat.le_refl _)]
theorem verI_zero (d : List UInt8) : verI zero32 2 d (sigI zero32 d 2) = false := by
  have h := awake_root
  have e1 : sigI zero32 d 2 = sigN zero32 d 2 := rfl
  have e2 : errR 2 (sigN zero32 d 2).length = 0 := by rw [sigN_length]; rfl
  have e3 : recI 2 d (sigN zero32 d 2) = rootL (pubN zero32 2) := by
    unfold recI
    rw [if_pos (by rw [sigN_length]; rfl)]
    exact congrArg rootL (ledN_sig zero32 d 2 2 (Nat.le_refl _))
  unfold verI
  rw [e1, e3, Bool.and_eq_false_iff]
  refine .inr (decide_eq_false fun q => ?_)
  rw [q] at h
  simp at h
theorem lit_one (w : World) : Bs (w.alloc (.cells #[.int .u8 97] 5)) (some ⟨w.heap.size, 0, none⟩) 1 [97] := (one_of w 97 5).bs
end
end Go.Proofs.YtfelmdndjdaniaaDoor
