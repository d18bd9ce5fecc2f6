/-
  Digests that are read, plainly, and by keys.digests.
-/
import Derived.Test.YtfelmdndjdaniaaDoorKeyW
namespace Go.Proofs.YtfelmdndjdaniaaDoor
open Go.RowKit
def rdS : Nat → Int × List UInt8 → Int × List UInt8
  | 0, s => s
  | k + 1, s => ((sFill (rdS k s).1 (rdS k s).2 32).1, (rdS k s).2.drop (sFill (rdS k s).1 (rdS k s).2 32).2.2)
def rdD : Nat → Int × List UInt8 → List (List UInt8)
  | 0, _ => []
  | k + 1, s => rdD k s ++ [(sFill (rdS k s).1 (rdS k s).2 32).2.1]
theorem rdD_length : ∀ k s, (rdD k s).length = k
  | 0, _ => rfl
  | k + 1, s => by rw [rdD, List.length_append, rdD_length k s]; rfl
theorem rdD_digs : ∀ k s, Digs (rdD k s)
  | 0, _ => Digs.nil
  | k + 1, s => (rdD_digs k s).app (Digs.one (sFill_length _ _ _))
theorem rdS_len : ∀ k s, (rdS k s).2.length ≤ s.2.length
  | 0, _ => Nat.le_refl _
  | k + 1, s => by rw [rdS, List.length_drop]; have := rdS_len k s; omega
theorem sFill_ok {E : Int} {l : List UInt8} (h : (sFill E l 32).1 = 0) : E = 0 ∧ sFill E l 32 = (0, l.take 32, 32) := by
  unfold sFill at h ⊢
  split at h
  · rename_i h0
    split at h
    · simp at h
    · rename_i h1
      exact ⟨h0, by rw [if_pos h0, if_neg h1]⟩
  · exact absurd h ‹_›
theorem rdS_one : ∀ k s, (rdS k s).1 = 0 → s.1 = 0 ∧ flat (rdD k s) ++ (rdS k s).2 = s.2
  | 0, s, h => ⟨h, by simp [rdD, rdS, flat]⟩
  | k + 1, s, h => by
    rw [rdS] at h
    obtain ⟨h0, h1⟩ := sFill_ok h
    obtain ⟨h2, h3⟩ := rdS_one k s h0
    refine ⟨h2, ?_⟩
    rw [rdS, rdD, h1, flat_app, show flat [(rdS k s).2.take 32] = (rdS k s).2.take 32 by simp [flat], List.append_assoc, List.take_append_drop]
    exact h3
theorem rdS_back {L : List (List UInt8)} (hL : Digs L) (r : List UInt8) : ∀ k, k ≤ L.length → rdS k (0, flat L ++ r) = (0, (flat L ++ r).drop (32 * k)) ∧ rdD k (0, flat L ++ r) = L.take k
  | 0, _ => ⟨by simp [rdS], by simp [rdD]⟩
  | k + 1, h => by
    obtain ⟨h1, h2⟩ := rdS_back hL r k (by omega)
    have hfl := flat_length hL
    have hd : L[k]? = some L[k] := List.getElem?_eq_getElem (by omega)
    have hg := flat_get hL hd
    have e1 : (flat L ++ r).drop (32 * k) = (flat L).drop (32 * k) ++ r := List.drop_append_of_le_length (by omega)
    have hl : 32 ≤ ((flat L).drop (32 * k)).length := by rw [List.length_drop]; omega
    have e2 : ((flat L ++ r).drop (32 * k)).take 32 = L[k] := by rw [e1, List.take_append_of_le_length hl, hg]
    have e3 : sFill 0 ((flat L ++ r).drop (32 * k)) 32 = (0, L[k], 32) := by
      unfold sFill
      rw [if_pos rfl, if_neg (by rw [e1, List.length_append]; omega), e2]
    rw [rdS, rdD, h1, h2]
    simp only [e3]
    refine ⟨by rw [List.drop_drop]; rfl, ?_⟩
    rw [List.take_add_one, hd]; rfl
theorem rdS_all {L : List (List UInt8)} (hL : Digs L) (r : List UInt8) {k : Nat} (hk : L.length = k) : rdS k (0, flat L ++ r) = (0, r) ∧ rdD k (0, flat L ++ r) = L := by
  obtain ⟨h1, h2⟩ := rdS_back hL r k (by omega)
  have hfl := flat_length hL
  refine ⟨?_, by rw [h2, List.take_of_length_le (by omega)]⟩
  rw [h1, ← hk, ← hfl, List.drop_left]
/-- what keys.Decode answers: an error, an index, digests, a path -/
def decR (b h : Nat) (l : List UInt8) : Int × Int × List (List UInt8) × List (List UInt8) :=
  if sEnd (rdS h (rdS (2 * b) ((rdNum l).1, l.drop (rdNum l).2.2))).1 (rdS h (rdS (2 * b) ((rdNum l).1, l.drop (rdNum l).2.2))).2 ≠ 0 then (sEnd (rdS h (rdS (2 * b) ((rdNum l).1, l.drop (rdNum l).2.2))).1 (rdS h (rdS (2 * b) ((rdNum l).1, l.drop (rdNum l).2.2))).2, 0, [], [])
  else if 2 ^ h ≤ (rdNum l).2.1 then (41, 0, [], [])
  else (0, ((rdNum l).2.1 : Int), rdD (2 * b) ((rdNum l).1, l.drop (rdNum l).2.2), rdD h (rdS (2 * b) ((rdNum l).1, l.drop (rdNum l).2.2)))
theorem decR_back {b h N : Nat} {O P : List (List UInt8)} (hO : Digs O) (hP : Digs P) (h1 : O.length = 2 * b) (h2 : P.length = h) (hN : N < 2 ^ h) (hh : h ≤ 6) : decR b h (encL (N : Int) O P) = (0, (N : Int), O, P) := by
  have hN2 : N < 18446744073709551616 := Nat.lt_of_lt_of_le hN (Nat.le_trans (pow_le6 hh) (by decide))
  have e0 : encL (N : Int) O P = numB N ++ (flat O ++ (flat P ++ [])) := by unfold encL; simp
  have e1 := rdNum_back N hN2 (flat O ++ (flat P ++ []))
  obtain ⟨q1, q2⟩ := rdS_all hO (flat P ++ []) h1
  obtain ⟨q3, q4⟩ := rdS_all hP [] h2
  unfold decR
  rw [e0, e1]
  have e2 : (numB N ++ (flat O ++ (flat P ++ []))).drop (wide N + 1) = flat O ++ (flat P ++ []) := by rw [← numB_length N, List.drop_left]
  simp only [e2, q1, q2, q3, q4]
  rw [if_neg (by simp [sEnd]), if_neg (by omega)]
theorem decR_one {b h : Nat} {l : List UInt8} (he : (decR b h l).1 = 0) : encL (decR b h l).2.1 (decR b h l).2.2.1 (decR b h l).2.2.2 = l ∧ (decR b h l).2.2.1.length = 2 * b ∧ (decR b h l).2.2.2.length = h ∧ Digs (decR b h l).2.2.1 ∧ Digs (decR b h l).2.2.2 ∧ (decR b h l).2.1 < ((2 ^ h : Nat) : Int) := by
  unfold decR at he ⊢
  split at he
  · rename_i h0; exact absurd he h0
  · rename_i h0
    split at he
    · simp at he
    · rename_i h1
      rw [if_neg h0, if_neg h1]
      simp only [Decidable.not_not] at h0
      have h0' := h0
      unfold sEnd at h0
      split at h0
      · simp at h0
      · rename_i hc
        have hnil : (rdS h (rdS (2 * b) ((rdNum l).1, l.drop (rdNum l).2.2))).2 = [] := by
          cases hq : (rdS h (rdS (2 * b) ((rdNum l).1, l.drop (rdNum l).2.2))).2 with
          | nil => rfl
          | cons a t => exact absurd ⟨h0, by rw [hq]; simp⟩ hc
        obtain ⟨r1, r2⟩ := rdS_one h _ h0
        obtain ⟨r3, r4⟩ := rdS_one (2 * b) _ r1
        refine ⟨?_, rdD_length _ _, rdD_length _ _, rdD_digs _ _, rdD_digs _ _, by simp only; omega⟩
        rw [hnil, List.append_nil] at r2
        unfold encL
        rw [Int.toNat_natCast, numB_one l r3, List.append_assoc, r2, r4, List.take_append_drop]
theorem decR_le (b h : Nat) (l : List UInt8) (hb : b ≤ 256) (hh : h ≤ 6) : (decR b h l).2.2.1.length ≤ 512 ∧ (decR b h l).2.2.2.length ≤ 6 ∧ (decR b h l).2.1 < 9223372036854775808 := by
  have hp := pow_le6 hh
  unfold decR
  split
  · exact ⟨by simp, by simp, by simp⟩
  · split
    · exact ⟨by simp, by simp, by simp⟩
    · exact ⟨by simp only [rdD_length]; omega, by simp only [rdD_length]; omega, by simp only; omega⟩
/-- digests in a row, the rest zeros -/
theorem row_step {L : List (List UInt8)} {D : List UInt8} {n k : Nat} (hL : Digs L) (hl : L.length = k) (hD : D.length = 32) (h : k < n) :
    spl (bcells (flat L ++ List.replicate ((n - k) * 32) 0)) (32 * k) D = bcells (flat (L ++ [D]) ++ List.replicate ((n - (k + 1)) * 32) 0) := by
  rw [spl_bcells]
  congr 1
  rw [show (n - k) * 32 = 32 + (n - (k + 1)) * 32 by omega, ← List.replicate_append_replicate]
  have h0 := splice_app (flat L) (List.replicate 32 0 ++ List.replicate ((n - (k + 1)) * 32) 0) D 0
  rw [flat_length hL, hl] at h0
  have h1 : splice (flat L ++ (List.replicate 32 0 ++ List.replicate ((n - (k + 1)) * 32) 0)) (32 * k) D = _ := h0
  rw [h1, splice_zero _ _ _ (by rw [hD, List.length_replicate]), flat_app]
  simp [flat]
/-- a reader, wherever its bytes lie -/
def RdX (w : World) (t : TypeId) (g : Nat) (E : Int) (l : List UInt8) : Prop := ∃ b, Rdr w t g b E l
theorem RdX.below {w w' : World} {t : TypeId} {g : Nat} {E : Int} {l : List UInt8} (h : RdX w t g E l) (hb : Below w.heap.size w w') : RdX w' t g E l := by
  obtain ⟨b, h⟩ := h; exact ⟨b, h.below hb⟩
theorem RdX.lt {w : World} {t : TypeId} {g : Nat} {E : Int} {l : List UInt8} (h : RdX w t g E l) : g < w.heap.size := by obtain ⟨b, h⟩ := h; exact h.lt
theorem RdX.low {w : World} {t : TypeId} {g : Nat} {E : Int} {l : List UInt8} (h : RdX w t g E l) (h2 : 1 < w.heap.size) : ∃ b, b < w.heap.size ∧ Rdr w t g b E l := by
  obtain ⟨b, h⟩ := h
  by_cases hl : l = []
  · by_cases hg : g = 0
    · exact ⟨1, h2, h.any hl 1 (by omega)⟩
    · exact ⟨0, by omega, h.any hl 0 (by omega)⟩
  · exact ⟨b, h.blt hl, h⟩
def DgK (w : World) (g k : Nat) (s : Int × List UInt8) (e : Ending) (w' : World) : Prop :=
  ∃ gl, e = .returned (.slice (some ⟨gl, 0, none⟩) k k) ∧ w.heap.size ≤ gl ∧ Row w' gl 23 (bcells (flat (rdD k s))) ∧ RdX w' 116 g (rdS k s).1 (rdS k s).2 ∧ Only g w w'
set_option maxRecDepth 100000 in
set_option maxHeartbeats 2000000 in
theorem kDigests_any (g n : Nat) (E : Int) (l : List UInt8) (w : World) (h : RdX w 116 g E l) (hn : n ≤ 512) (h2 : 1 < w.heap.size) :
    Calls Tryd.prog 53 #[.pointer (some ⟨g, 0, none⟩), .int .i64 (n : Int)] w (DgK w g n (E, l)) := by
  obtain ⟨b, hbl, h⟩ := h.low h2
  have hgl := h.lt
  have hmk := run_madeD n n (n : Int) (n : Int) rfl rfl (Nat.le_refl _) (by omega)
  unfold DgK
  generalize hs : (E, l) = s at *
  have hs1 : Hid (E = s.1 ∧ l = s.2) := Lib.hid (by rw [← hs]; exact ⟨rfl, rfl⟩)
  have HR := Lib.hid h
  clear h hs
  go_enter Tryd.func53, Tryd.ntmps53
  go_wp2_with fail
  go_loopw [6, 11] (fun _ i wr => ∃ k : Nat, k ≤ n ∧ i = .int .i64 (k : Int) ∧ Only g w wr ∧ Rdr wr 116 g b (rdS k s).1 (rdS k s).2 ∧ Row wr w.heap.size 23 (bcells (flat (rdD k s) ++ List.replicate ((n - k) * 32) 0))) (fun _ i _ => n - (intOf i).toNat)
  case atStart =>
    have hb0 : Below w.heap.size w (w.alloc (.cells (bcells (List.replicate (n * 32) 0)) 23)) := (Below.refl _ _).alloc (Nat.le_refl _) _
    refine ⟨0, Nat.zero_le _, rfl, Only.of_below hb0, ?_, ?_⟩
    · have q := HR.out.below hb0
      rw [hs1.out.1, hs1.out.2] at q
      exact q
    · have q := Row.new w 23 (bcells (List.replicate (n * 32) 0))
      simpa [rdD, flat] using q
  case round =>
    obtain ⟨k, hk, rfl, hon, hrd, hrow⟩ := hrel
    have hos := hon.size
    have hrl := hrow.lt
    have HRd := Lib.hid hrd
    have HRw := Lib.hid hrow
    clear hrd hrow
    by_cases hlt : k < n
    · have him : (k : Int) < (n : Int) := by omega
      have HDg := Lib.hid (fun w h => Digest_any g b (rdS k s).1 (rdS k s).2 w h)
      have HDl := Lib.hid (sFill_length (rdS k s).1 (rdS k s).2 32)
      have HST := Lib.hid (fun (D : List UInt8) (hD : D.length = 32) => row_step (n := n) (rdD_digs k s) (rdD_length k s) hD hlt)
      have HSZ := Lib.hid (show (bcells (flat (rdD k s) ++ List.replicate ((n - k) * 32) 0)).size = n * 32 by rw [bcells_size, List.length_append, flat_length (rdD_digs k s), rdD_length, List.length_replicate]; omega)
      have HS1 := Lib.hid (show rdS (k + 1) s = ((sFill (rdS k s).1 (rdS k s).2 32).1, (rdS k s).2.drop (sFill (rdS k s).1 (rdS k s).2 32).2.2) from rfl)
      have HD1 := Lib.hid (show rdD (k + 1) s = rdD k s ++ [(sFill (rdS k s).1 (rdS k s).2 32).2.1] from rfl)
      generalize sFill (rdS k s).1 (rdS k s).2 32 = q at *
      go_wp2_with (first
        | (go_at_call 91; refine (HDg.out wr HRd.out).mono ?_; rintro e3 w3 ⟨rfl, hr3, ho3⟩; have HR3 := Lib.hid hr3; have HW3 := Lib.hid (HRw.out.only ho3 (by omega)); have hs3 := ho3.size; clear hr3)
        | (with_reducible refine wpList_indexO rfl (.tmp 14) (.tmp 15) rfl w.heap.size 0 n n k (32 * k) _ rfl rfl rfl hlt (by rw [Nat.zero_add]) ?_)
        | (with_reducible refine wpList_storeD rfl (.tmp 18) (.tmp 17) rfl w.heap.size (32 * k) q.2.1 rfl rfl 23 _ HW3.out HDl.out (by rw [HSZ.out]; omega) ?_; intro w4 hr4 ho4; rw [HST.out _ HDl.out] at hr4; have HW4 := Lib.hid hr4; have HR4 := Lib.hid (HR3.out.only ho4 (by omega) (by omega)); have hon4 : Only g w w4 := (hon.trans ho3).thenB (ho4.below (Nat.le_refl _) (by omega)); clear hr4))
      go_roundw
      case rel => exact ⟨k + 1, by omega, by go_num, hon4, by rw [HS1.out]; exact HR4.out, by rw [HD1.out]; exact HW4.out⟩
      case measure => simp [intOf]; omega
    · obtain rfl : n = k := by omega
      have HW := Lib.hid (show Row wr w.heap.size 23 (bcells (flat (rdD n s))) by have q := HRw.out; rwa [Nat.sub_self, Nat.zero_mul, List.replicate_zero, List.append_nil] at q)
      go_wp2_with fail
      go_ret
      exact ⟨w.heap.size, rfl, Nat.le_refl _, HW.out, ⟨b, HRd.out⟩, hon⟩
end Go.Proofs.YtfelmdndjdaniaaDoor
