/-
  What sha.Pad and the document's own Pad (juratref02.Pad) answer: what fills up a message of n bytes.
-/
import Derived.Test.YtiidcnjhjojhoaaDoorSpec
import Derived.Test.YtiidcnjhjojhoaaDoorCalls
import Derived.Test.YtiidcnjhjojhoaaDoorCopy
import Derived.Test.YtiidcnjhjojhoaaDoorSame
namespace Go.Proofs.YtiidcnjhjojhoaaDoor
open Go.RowKit
set_option maxHeartbeats 400000 in
theorem Pad_no (n : Int) (w : World) (h : n < 0 ∨ 1152921504606846976 < n) :
    Calls Tryd.prog 35 #[.int .i64 n] w fun e w' => e = .returned (.tuple #[.slice none 0 0, .int .i64 1]) ∧ w = w' := by
  by_cases h1 : n < 0
  · have hd : decide (n < 0) = true := by simpa using h1
    clear h
    go_enter Tryd.func35, Tryd.ntmps35
    go_wp2
    go_ret2
    exact ⟨rfl, rfl⟩
  · have hd : decide (n < 0) = false := by simpa using h1
    have h2 : 1152921504606846976 < n := by omega
    clear h
    go_enter Tryd.func35, Tryd.ntmps35
    go_wp2
    go_ret2
    exact ⟨rfl, rfl⟩
/-- a row that holds bytes, with room behind them -/
theorem Row.ownCap {w : World} {base g n cap : Nat} {t : TypeId} {cs : Array Value} {l : List UInt8} (h : Row w g t cs) (hb : base ≤ g) (hl : l.length = n) (hs : cs.size = cap) (hnc : n ≤ cap) (hn : cap ≤ 9223372036854775807)
    (hc : ∀ (j : Nat) (x : UInt8), l[j]? = some x → cs[j]? = some (.int .u8 (x.toNat : Int))) : Own w base t (.slice (some ⟨g, 0, none⟩) n cap) n l := by
  refine ⟨by simp [hl], .inr ⟨g, cap, cs, rfl, hb, h, hnc, by simp only [maxLen]; omega, by omega, ?_⟩⟩
  apply List.ext_getElem?
  intro j
  rw [Nat.mul_one, List.getElem?_take, List.getElem?_map]
  rcases hj : l[j]? with _ | x
  · have hge : l.length ≤ j := List.getElem?_eq_none_iff.1 hj
    rw [if_neg (by omega)]; rfl
  · have hlt : j < l.length := (List.getElem?_eq_some_iff.1 hj).1
    rw [if_pos (by omega), Array.getElem?_toList, hc j x hj]; rfl
theorem made_bytes2 (P : Program) {t e : TypeId} (T : ByteTypes P t e) (n c : Nat) (L C : Int) (hL : L = n) (hC : C = c) (hnc : n ≤ c) (hc : c ≤ 140737488355328) (w : World) :
    (Instr.makeSlice t (.int .i64 L) (.int .i64 C)).run P w = .ok (.slice (some ⟨w.heap.size, 0, none⟩) n c) (w.alloc (.cells (madeCells #[.int .u8 0] c) e)) := by
  obtain ⟨i, hi, hz, hsize, hby⟩ := info_parts T.hi
  have hr := run_make (P := P) w t e i (.int .u8 0) T.ht hi hz .i64 .i64 L C (by omega) (by omega) (by rw [hby]; omega) (by omega)
  rw [hr, hsize, hL, hC]
  simp only [Int.toNat_natCast, Nat.mul_one]
  rfl
theorem made_get (c j : Nat) (h : j < c) : (madeCells #[.int .u8 0] c)[j]? = some (.int .u8 0) := by
  rw [← Array.getElem?_toList, toList_madeCells_one, List.getElem?_replicate, if_pos h]
theorem pad_own (w : World) (z : Nat) (w2 : World) (hb : Below (w.alloc (.cells ((madeCells #[.int .u8 0] (1 + z + 8)).setIfInBounds 0 (.int .u8 128)) 5)).heap.size (w.alloc (.cells ((madeCells #[.int .u8 0] (1 + z + 8)).setIfInBounds 0 (.int .u8 128)) 5)) w2) (hz : z ≤ 63) :
    Own w2 w.heap.size 5 (.slice (some ⟨w.heap.size, 0, none⟩) (1 + z) (1 + z + 8)) (1 + z) (128 :: List.replicate z 0) := by
  have hr := (Row.new w 5 ((madeCells #[.int .u8 0] (1 + z + 8)).setIfInBounds 0 (.int .u8 128))).below hb (by simp)
  refine hr.ownCap (Nat.le_refl _) (by simp; omega) (by simp [size_madeCells]) (by omega) (by omega) ?_
  intro j x hx
  rw [Array.getElem?_setIfInBounds]
  rcases j with _ | j
  · simp at hx
    subst hx
    rw [if_pos rfl, if_pos (by rw [size_madeCells]; omega)]; rfl
  · rw [List.getElem?_cons_succ, List.getElem?_replicate] at hx
    split at hx
    · injection hx with hx
      subst hx
      rw [if_neg (by omega), made_get _ _ (by omega)]; rfl
    · cases hx
theorem pad_size {w w2 : World} {o : Obj} (hb : Below (w.alloc o).heap.size (w.alloc o) w2) : w.heap.size ≤ w2.heap.size := by
  have := hb.size
  simp at this
  omega
theorem pad_split (n : Nat) : padL n = (128 :: List.replicate (padZ n) 0) ++ bytesOf (8 * n) 8 := rfl
set_option maxHeartbeats 1000000 in
theorem Pad_ok (n : Nat) (w : World) (h : n ≤ 1152921504606846976) :
    Calls Tryd.prog 35 #[.int .i64 (n : Int)] w (NewBytesE w 5 (padL n) 0) := by
  have hd : decide ((n : Int) < 0) = false := by simp
  have hz : padZ n ≤ 63 := by unfold padZ; omega
  obtain ⟨z, hzz⟩ : ∃ z, padZ n = z := ⟨_, rfl⟩
  have hzi : 63 - ((n : Int) + 8) % 64 = (z : Int) := by rw [← hzz]; unfold padZ; omega
  rw [hzz] at hz
  have HZ := Lib.hid hzz
  have HZI := Lib.hid hzi
  clear hzz hzi
  have hmk := made_bytes2 Tryd.prog Tryd.byteTypes (1 + z) (1 + z + 8) (1 + (63 - ((n : Int) + 8) % 64)) (1 + (63 - ((n : Int) + 8) % 64) + 8) (by have := HZI.out; omega) (by have := HZI.out; omega) (by omega) (by omega)
  have hm0 := made_get (1 + z + 8) 0 (by omega)
  go_enter Tryd.func35, Tryd.ntmps35
  go_wp2_with (first
    | (go_at_call 46; (refine (Bytes_any _ _ _ (by omega) (by omega)).mono ?_; rintro e2 w2 ⟨A2, k2, c2, rfl, hB2, hc2, hb2, ho2⟩; have HB2 := Lib.hid hB2; have HO := Lib.hid (pad_own w z w2 hb2 hz); have hk2 : k2 ≤ 8 := Nat.le_trans (Nat.le_of_eq hB2.1.symm) (bytesL_length _ _); clear hB2 ho2))
    | (at_builtin; refine wpList_app Tryd.byteTypes rfl (.tmp 33) (.tmp 34) rfl w.heap.size _ (1 + z) (128 :: List.replicate z 0) rfl HO.out A2 k2 c2 _ rfl HB2.out (by omega) (pad_size hb2) ?_; intro A3 c3 w3 ho3 hb3 hg3; have HO3 := Lib.hid ho3; clear ho3 hg3))
  go_ret2
  have hz0 : bytesE 8 = 0 := rfl
  have hk8 : k2 = 8 := by rw [← HB2.out.1]; exact bytesOf_length _ _
  have hL : 128 :: List.replicate z 0 ++ bytesL (8 * (n : Int)) 8 = padL n := by
    rw [pad_split, HZ.out]; unfold bytesL; rw [if_pos (by omega)]
    congr 2
  obtain ⟨A4, c4, e4, hc4⟩ := HO3.out.form
  injection e4 with e5 e6 e7
  subst e5 e7
  rw [hL] at HO3
  exact ⟨_, _, _, rfl, HO3.out.bs, hc4, ((Below.refl _ _).alloc (Nat.le_refl _) _).trans ((hb2.mono (by simp)).trans hb3), HO3.out⟩
def lenOf : Value → Nat | .slice _ n _ => n | _ => 0
theorem own_alloc {w : World} {base : Nat} {e : TypeId} {v : Value} {n : Nat} {l : List UInt8} (h : Own w base e v n l) (o : Obj) : Own (w.alloc o) base e v n l := by
  refine ⟨h.1, ?_⟩
  rcases h.2 with h0 | ⟨g, cap, cur, hv, hge, hg, hr⟩
  · exact .inl h0
  · exact .inr ⟨g, cap, cur, hv, hge, (Below.heap_alloc w o g ((Array.getElem?_eq_some_iff.1 hg).1)).trans hg, hr⟩
theorem own_below {w w' : World} {base : Nat} {e : TypeId} {v : Value} {n : Nat} {l : List UInt8} (h : Own w base e v n l) (hb : Below w.heap.size w w') : Own w' base e v n l := by
  refine ⟨h.1, ?_⟩
  rcases h.2 with h0 | ⟨g, cap, cur, hv, hge, hg, hr⟩
  · exact .inl h0
  · exact .inr ⟨g, cap, cur, hv, hge, (hb.block g ((Array.getElem?_eq_some_iff.1 hg).1)).trans hg, hr⟩
/-- a slice of bytes in new memory -/
def NewSlice (w : World) (t : TypeId) (l : List UInt8) (e : Ending) (w' : World) : Prop :=
  ∃ A n c, e = .returned (.slice A n c) ∧ Bs w' A n l ∧ n ≤ c ∧ Below w.heap.size w w' ∧ Own w' w.heap.size t (.slice A n c) n l
theorem one_of (w : World) (x : UInt8) (t : TypeId) : Own (w.alloc (.cells #[.int .u8 (x.toNat : Int)] t)) w.heap.size t (.slice (some ⟨w.heap.size, 0, none⟩) 1 1) 1 [x] := by
  refine (Row.new w t _).own (Nat.le_refl _) rfl rfl (by omega) ?_
  intro j y hy
  rcases j with _ | j
  · simp at hy
    subst hy
    rfl
  · simp at hy
set_option maxHeartbeats 1000000 in
theorem RefPad_ok (n : Nat) (w : World) (h : n ≤ 1152921504606846976) :
    Calls Tryd.prog 37 #[.int .i64 (n : Int)] w (NewSlice w 5 (padL n)) := by
  have hz : padZ n ≤ 63 := by unfold padZ; omega
  obtain ⟨z, hzz⟩ : ∃ z, padZ n = z := ⟨_, rfl⟩
  have hzi : 63 - (n + 8) % 64 = z := hzz
  rw [hzz] at hz
  have HZ := Lib.hid hzz
  have HZI := Lib.hid hzi
  clear hzz hzi
  go_enter Tryd.func37, Tryd.ntmps37
  go_wp2_with fail
  go_loopw [3] (fun o wr => ∃ (k : Nat) (A : Option Addr) (c : Nat), k ≤ z ∧ o = .slice A (1 + k) c ∧ Below w.heap.size w wr ∧ Own wr w.heap.size 5 (.slice A (1 + k) c) (1 + k) (128 :: List.replicate k 0)) (fun o _ => 64 - lenOf o)
  case atStart => exact ⟨0, _, _, Nat.zero_le _, rfl, (Below.refl _ _).alloc (Nat.le_refl _) _, one_of w 128 5⟩
  case round =>
    obtain ⟨k, A, c, hk, rfl, hbel, hown⟩ := hrel
    have HO := Lib.hid hown
    have hbs := hbel.size
    clear hown
    by_cases hlt : k < z
    · have hne : ¬ ((n : Int) + (1 + (k : Int))) % 64 = 56 := by have := HZI.out; omega
      go_wp2_with (at_builtin; refine wpList_app Tryd.byteTypes rfl (.tmp 13) (.tmp 14) rfl w.heap.size _ (1 + k) _ rfl (own_alloc HO.out _) _ 1 1 [0] rfl (one_of wr 0 5).bs (by omega) (by simp; omega) ?_; intro A3 c3 w3 ho3 hb3 hg3; have HO3 := Lib.hid ho3; clear ho3 hg3)
      go_roundw
      case rel =>
        refine ⟨k + 1, A3, c3, by omega, by rw [Nat.add_assoc], (hbel.alloc hbs _).trans hb3, ?_⟩
        have e : (128 :: List.replicate (k + 1) 0 : List UInt8) = 128 :: List.replicate k 0 ++ [0] := by
          rw [List.replicate_succ']; rfl
        rw [e, ← Nat.add_assoc]
        exact HO3.out
      case measure => simp [lenOf]; omega
    · obtain rfl : k = z := by omega
      have heq : ((n : Int) + (1 + (k : Int))) % 64 = 56 := by have := HZI.out; omega
      go_wp2_with (first
        | (go_at_call 47; (refine (RefBytes_any _ _ _ (by omega) (by omega)).mono ?_; rintro e2 w2 ⟨A2, k2, c2, rfl, hB2, hc2, hb2, ho2⟩; have HB2 := Lib.hid hB2; have HO2 := Lib.hid (own_below HO.out hb2); have hk2 : k2 ≤ 8 := Nat.le_trans (Nat.le_of_eq hB2.1.symm) (bytesL_length _ _); have hb2s := hb2.size; clear hB2 ho2))
        | (at_builtin; refine wpList_app Tryd.byteTypes rfl (.tmp 23) (.tmp 24) rfl w.heap.size _ (1 + k) _ rfl HO2.out A2 k2 c2 _ rfl HB2.out (by omega) (by omega) ?_; intro A3 c3 w3 ho3 hb3 hg3; have HO3 := Lib.hid ho3; clear ho3 hg3))
      go_ret
      have hL : 128 :: List.replicate k 0 ++ bytesL ((n : Int) * 8) 8 = padL n := by
        rw [pad_split, HZ.out]; unfold bytesL; rw [if_pos (by omega)]
        congr 2
        omega
      obtain ⟨A4, c4, e4, hc4⟩ := HO3.out.form
      injection e4 with e5 e6 e7
      subst e5 e7
      rw [hL] at HO3
      exact ⟨_, _, _, rfl, HO3.out.bs, hc4, (hbel.trans (hb2.mono hbs)).trans hb3, HO3.out⟩
end Go.Proofs.YtiidcnjhjojhoaaDoor
