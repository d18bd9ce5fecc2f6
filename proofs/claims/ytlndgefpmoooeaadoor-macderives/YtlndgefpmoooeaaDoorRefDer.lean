/-
  What the document's own Derive (juratref03) answers: bytes out of a key, or the error.
-/
import Derived.Test.YtlndgefpmoooeaaDoorDer
namespace Go.Proofs.YtlndgefpmoooeaaDoor
open Go.RowKit
set_option maxHeartbeats 400000 in
theorem RefDerive_neg (A : Option Addr) (nk ck : Nat) (s : ByteArray) (n : Int) (w : World) (h : n < 0) :
    Calls Tryd.prog 16 #[.slice A nk ck, .string s, .int .i64 n] w fun e w' => e = .returned (.tuple #[.slice none 0 0, .int .i64 1]) ∧ w = w' := by
  go_enter Tryd.func16, Tryd.ntmps16
  go_wp2
  go_ret2
  exact ⟨rfl, rfl⟩
set_option maxHeartbeats 400000 in
theorem RefDerive_long (A : Option Addr) (nk ck : Nat) (s : ByteArray) (n : Int) (w : World) (h : 8160 < n) :
    Calls Tryd.prog 16 #[.slice A nk ck, .string s, .int .i64 n] w fun e w' => e = .returned (.tuple #[.slice none 0 0, .int .i64 42]) ∧ w = w' := by
  have h0 : ¬ n < 0 := by omega
  go_enter Tryd.func16, Tryd.ntmps16
  go_wp2
  go_ret2
  exact ⟨rfl, rfl⟩
/-- new bytes and a number -/
def NewR (w : World) (l : List UInt8) (E : Int) (e : Ending) (w' : World) : Prop :=
  ∃ A n c, e = .returned (.tuple #[.slice A n c, .int .i64 E]) ∧ Bs w' A n l ∧ n ≤ c ∧ Below w.heap.size w w'
set_option maxRecDepth 100000 in
set_option maxHeartbeats 2000000 in
theorem RefDerive_any (A : Option Addr) (nk ck : Nat) (k : List UInt8) (s : ByteArray) (n : Nat) (w : World) (hB : Bs w A nk k) (hnc : nk ≤ ck) (hF : First w) (hT : Tab 1 w) (hn : n ≤ 8160) (hk : nk ≤ 1000000) (hs : s.size ≤ 200) :
    Calls Tryd.prog 16 #[.slice A nk ck, .string s, .int .i64 (n : Int)] w (NewR w (deriveL k s n) 0) := by
  have h0 : ¬ (n : Int) < 0 := by omega
  have h1 : ¬ 8160 < (n : Int) := by omega
  have HB := Lib.hid hB
  have HF := Lib.hid hF
  have HT := Lib.hid hT
  have h2 := hT.1
  have HRM := Lib.hid (fun (m : Nat) B n' d w hA hB hF hT hm => RefMac_any A B nk n' ck d k (partL ((m : Int) + 1) s n) w hA hB hnc hF hT hk hm)
  clear hB hF hT
  go_enter Tryd.func16, Tryd.ntmps16
  go_wp2_with fail
  go_loopw [8, 9] (fun t i wr => ∃ (m : Nat) (A1 : Option Addr) (c1 : Nat), i = .int .i64 ((m : Int) + 1) ∧ t = .slice A1 (32 * m) c1 ∧ 32 * m ≤ c1 ∧ m ≤ 256 ∧ Below w.heap.size w wr ∧ Own wr w.heap.size 5 (.slice A1 (32 * m) c1) (32 * m) (derN k s n m)) (fun _ i _ => 300 - (intOf i).toNat)
  case atStart => exact ⟨0, none, 0, rfl, rfl, Nat.le_refl _, by omega, Below.refl _ _, Own.nil _ _ _⟩
  case round =>
    obtain ⟨m, A1, c1, rfl, rfl, hc1, hm, hbel, ho⟩ := hrel
    have hbs := hbel.size
    have HO := Lib.hid ho
    clear ho
    obtain ⟨L, hL⟩ : ∃ L, 32 * m = L := ⟨_, rfl⟩
    rw [hL] at HO ⊢
    by_cases hlt : L < n
    · have i1 : (L : Int) < (n : Int) := by omega
      have w1i : ((m : Int) + 1) % 18446744073709551616 = (m : Int) + 1 := by omega
      have w2i : (n : Int) % 18446744073709551616 = (n : Int) := by omega
      have HI := Lib.hid (fun w => RefBytes_any ((m : Int) + 1) 4 w (by omega) (by omega))
      have HN := Lib.hid (fun w => RefBytes_any (n : Int) 4 w (by omega) (by omega))
      have HRMm := Lib.hid (fun B n' d w hA hB hF hT hm => HRM.out m B n' d w hA hB hF hT hm)
      have HDE : Hid (derN k s n (m + 1) = derN k s n m ++ macL k (partL ((m : Int) + 1) s n)) := Lib.hid rfl
      have HDL := Lib.hid (macL_length k (partL ((m : Int) + 1) s n))
      have hp : partL ((m : Int) + 1) s n = bytesL ((m : Int) + 1) 4 ++ s.data.toList ++ [0] ++ bytesL (n : Int) 4 := by
        unfold partL closedL u64; rw [w1i, w2i]; simp
      rw [hp] at HRMm HDE HDL
      have l1 := bytesL4_length ((m : Int) + 1)
      have l2 := bytesL4_length (n : Int)
      generalize bytesL ((m : Int) + 1) 4 = L1 at *
      generalize bytesL (n : Int) 4 = L2 at *
      generalize macL k (L1 ++ s.data.toList ++ [0] ++ L2) = D at *
      generalize derN k s n m = E at *
      clear hp HRM
      go_wp2_with (first
        | (go_at_call_of 27 (Value.int .u64 (n : Int)); refine (HN.out _).mono ?_; rintro e4 w4 ⟨A4, n4, c4, rfl, hB4, hc4, hb4, -⟩; have HB4 := Lib.hid hB4; have HN4 := Lib.hid (hB4.1.symm.trans l2); have hs4 := hb4.size; have B4 : Below wr.heap.size wr w4 := B3.trans (hb4.mono (by omega)); clear hB4)
        | (go_at_call 27; refine (HI.out wr).mono ?_; rintro e1 w1 ⟨A2, n2, c2, rfl, hB2, hc2, hb1, ho1⟩; have HO1 := Lib.hid ho1; have HN2 := Lib.hid (hB2.1.symm.trans l1); have hs1 := hb1.size; clear hB2 ho1)
        | (at_builtin; refine wpList_appS Tryd.byteTypes Tryd.underlying9 rfl (.tmp 30) (.tmp 31) rfl wr.heap.size _ n2 L1 rfl HO1.out s rfl (by have := HN2.out; omega) hb1.size ?_; intro A3 c3 w2 ho2 hb2; have HO2 := Lib.hid ho2; have hs2 := hb2.size; clear ho2)
        | (at_builtin; refine wpList_app Tryd.byteTypes rfl (.tmp 33) (.tmp 34) rfl wr.heap.size _ (n2 + s.size) (L1 ++ s.data.toList) rfl (own_below HO2.out ((Below.refl _ _).alloc (Nat.le_refl _) _)) _ 1 1 [0] rfl (zero_new w2 5) (by have := HN2.out; omega) (by simp; omega) ?_; intro A5 c5 w3 ho3 hb3 _; have HO3 := Lib.hid ho3; have hs3 := hb3.size; have B3 : Below wr.heap.size wr w3 := ((hb1.trans hb2).alloc (by omega) _).trans hb3; simp at hs3; clear ho3)
        | (at_builtin; refine wpList_app Tryd.byteTypes rfl (.tmp 42) (.tmp 43) rfl wr.heap.size _ (n2 + s.size + 1) (L1 ++ s.data.toList ++ [0]) rfl (own_below HO3.out hb4) A4 n4 c4 L2 rfl HB4.out (by have := HN2.out; have := HN4.out; omega) (by omega) ?_; intro A6 c6 w5 ho5 hb5 _; have HB5 := Lib.hid ho5.bs; have hs5 := hb5.size; have B5 : Below wr.heap.size wr w5 := B4.trans hb5; have BW5 := hbel.trans (B5.mono hbs); clear ho5)
        | (go_at_call 12; refine (HRMm.out _ _ _ w5 (HB.out.below BW5) HB5.out (HF.out.below BW5) (HT.out.below BW5) (by have := HN2.out; have := HN4.out; omega)).mono ?_; rintro e6 w6 ⟨rfl, hb6⟩; have hs6 := hb6.size; have B6 := B5.trans (hb6.mono B5.size))
        | (go_at_call 20; refine (DBytes_any D w6 HDL.out).mono ?_; rintro e7 w7 ⟨A7, n7, c7, rfl, hB7, hc7, hb7, -⟩; have HB7 := Lib.hid hB7; have HN7 := Lib.hid (hB7.1.symm.trans HDL.out); have hs7 := hb7.size; have B7 := B6.trans (hb7.mono B6.size); clear hB7)
        | (at_builtin; refine wpList_app Tryd.byteTypes rfl (.tmp 45) (.tmp 49) rfl w.heap.size _ L E rfl (own_below HO.out B7) A7 n7 c7 D rfl HB7.out (by have := HN7.out; omega) (by omega) ?_; intro A8 c8 w8 ho8 hb8 _; have HO8 := Lib.hid ho8; obtain ⟨_, _, e8, hc8⟩ := ho8.form; injection e8 with e81 e82 e83; subst e81 e83; clear ho8))
      have hn7 := HN7.out
      refine ⟨⟨m + 1, A8, c8, by go_num, by rw [show 32 * (m + 1) = L + n7 by omega], by omega, by omega, (hbel.trans (B7.mono hbs)).trans hb8, ?_⟩, by simp [intOf]; omega⟩
      rw [HDE.out, show 32 * (m + 1) = L + n7 by omega]
      exact HO8.out
    · have i1 : ¬ (L : Int) < (n : Int) := by omega
      have i2 : (n : Int) ≤ (c1 : Int) := by omega
      have i3 : (0 : Int) ≤ (n : Int) := by omega
      have HD := Lib.hid (derive_take k s n m (by omega))
      have HBS := Lib.hid (HO.out.bs.take (m := n) (by omega))
      rw [HD.out] at HBS
      clear HRM
      go_wp2_with fail
      go_ret2
      exact ⟨_, n, c1, rfl, HBS.out, by omega, hbel⟩
end Go.Proofs.YtlndgefpmoooeaaDoor
