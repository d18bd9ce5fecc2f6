/-
  What mac.bytesOf, mac.closed, mac.partText answer: a number's lowest bytes, a label and a byte 0, the text of Derive's part.
-/
import Derived.Test.YtlndgefpmoooeaaDoorMark
import Derived.Test.YtlndgefpmoooeaaDoorPad
namespace Go.Proofs.YtlndgefpmoooeaaDoor
open Go.RowKit
def u64 (n : Int) : Int := n % 18446744073709551616
theorem u64_ok (n : Int) : 0 ≤ u64 n ∧ u64 n < 18446744073709551616 := by unfold u64; omega
set_option maxHeartbeats 400000 in
theorem bytesOf_any (N W : Int) (w : World) : Calls Tryd.prog 28 #[.int .i64 N, .int .i64 W] w (NewSlice w 5 (bytesL (u64 N) W)) := by
  have hu := u64_ok N
  have HB := Lib.hid (Bytes_any (u64 N) W w hu.1 hu.2)
  unfold u64 at HB ⊢
  clear hu
  go_enter Tryd.func28, Tryd.ntmps28
  go_wp2_with (go_at_call 34; refine HB.out.mono ?_; rintro e1 w1 ⟨A1, n1, c1, rfl, hB1, hc1, hb1, ho1⟩)
  go_ret
  exact ⟨A1, n1, c1, rfl, hB1, hc1, hb1, ho1⟩
def NewM (w : World) (t : TypeId) (l : List UInt8) (e : Ending) (w' : World) : Prop :=
  ∃ A n c, e = .returned (.slice A n c) ∧ n ≤ c ∧ Below w.heap.size w w' ∧ OwnM w' w.heap.size t (.slice A n c) n l
def closedL (s : ByteArray) : List UInt8 := s.data.toList ++ [0]
theorem closedL_length (s : ByteArray) : (closedL s).length = s.size + 1 := by unfold closedL; rw [List.length_append]; rfl
theorem zero_new (w : World) (t : TypeId) : Bs (w.alloc (.cells #[.int .u8 0] t)) (some ⟨w.heap.size, 0, none⟩) 1 [0] := by
  refine lit_new w t _ 1 [0] rfl rfl ?_ (by omega)
  intro j x hx
  rcases j with _ | j
  · simp at hx; subst hx; rfl
  · simp at hx
set_option maxRecDepth 100000 in
set_option maxHeartbeats 400000 in
theorem closed_any (s : ByteArray) (w : World) (hs : s.size ≤ 140737488355000) : Calls Tryd.prog 29 #[.string s] w (NewM w 5 (closedL s)) := by
  have hcv := run_bytes_of_string (P := Tryd.prog) w 9 22 5 s Tryd.underlying9 Tryd.underlying22 Tryd.underlying5
  have HO := Lib.hid (bytes_new w s 5 (by omega))
  obtain ⟨w1, hw1⟩ : ∃ w1, w.drew.alloc (.cells (bytesRow s (grownCap w s.size 0 5)) 5 ((bytesRow s (grownCap w s.size 0 5)).size, (bytesRow s (grownCap w s.size 0 5)).size + 1)) = w1 := ⟨_, rfl⟩
  have hb1 : Below w.heap.size w w1 := by rw [← hw1]; exact (Below.refl _ w).drew.alloc (Nat.le_refl _) _
  rw [hw1] at hcv HO
  generalize grownCap w s.size 0 5 = cap at *
  generalize some (⟨w.heap.size, 0, none⟩ : Addr) = A0 at *
  clear hw1
  go_enter Tryd.func29, Tryd.ntmps29
  go_wp2_with (at_builtin; refine wpList_appM Tryd.byteTypes rfl (.tmp 4) (.tmp 5) rfl w.heap.size _ s.size s.data.toList rfl (HO.out.below ((Below.refl _ _).alloc (Nat.le_refl _) _)) _ _ 1 1 [0] rfl (zero_new w1 5) (by omega) (by have := hb1.size; simp; omega) ?_; intro A3 c3 w3 ho3 hb3)
  go_ret
  obtain ⟨A4, c4, e4, hc4⟩ := ho3.form
  injection e4 with e5 e6 e7
  subst e5 e7
  exact ⟨_, _, _, rfl, hc4, (hb1.alloc hb1.size _).trans hb3, ho3⟩
theorem Own.below {w w' : World} {base : Nat} {e : TypeId} {v : Value} {n : Nat} {l : List UInt8} (h : Own w base e v n l) (hb : Below w.heap.size w w') : Own w' base e v n l := by
  refine ⟨h.1, ?_⟩
  rcases h.2 with hn | ⟨g, cap, cur, hv, hbg, hg, r⟩
  · exact .inl hn
  · exact .inr ⟨g, cap, cur, hv, hbg, (hb.block g (Array.getElem?_eq_some_iff.1 hg).1).trans hg, r⟩
def partL (i : Int) (s : ByteArray) (n : Int) : List UInt8 := bytesL (u64 i) 4 ++ closedL s ++ bytesL (u64 n) 4
set_option maxRecDepth 100000 in
set_option maxHeartbeats 400000 in
theorem partText_any (i n : Int) (s : ByteArray) (w : World) (hs : s.size ≤ 140737488000000) : Calls Tryd.prog 26 #[.int .i64 i, .string s, .int .i64 n] w (NewSlice w 5 (partL i s n)) := by
  have l1 := bytesL_length (u64 i) 4
  have l2 := bytesL_length (u64 n) 4
  have l3 := closedL_length s
  have HI := Lib.hid (bytesOf_any i 4)
  have HN := Lib.hid (bytesOf_any n 4)
  have HC := Lib.hid (fun w => closed_any s w (by omega))
  unfold partL
  generalize bytesL (u64 i) 4 = L1 at *
  generalize bytesL (u64 n) 4 = L2 at *
  generalize closedL s = L3 at *
  go_enter Tryd.func26, Tryd.ntmps26
  go_wp2_with (first
    | (go_at_call_of 28 (Value.int .i64 n); refine (HN.out _).mono ?_; rintro e4 w4 ⟨A4, n4, c4, rfl, hB4, hc4, hb4, -⟩; have HB4 := Lib.hid hB4; have hl4 := hB4.1; clear hB4)
    | (go_at_call 28; refine (HI.out _).mono ?_; rintro e1 w1 ⟨A1, n1, c1, rfl, hB1, hc1, hb1, ho1⟩; have HO1 := Lib.hid ho1; have hl1 := hB1.1; clear ho1 hB1)
    | (go_at_call 29; refine (HC.out _).mono ?_; rintro e2 w2 ⟨A2, n2, c2, rfl, hc2, hb2, ho2⟩; have HB2 := Lib.hid ho2.bs; have hl2 := ho2.1; have hb12 := hb1.trans (hb2.mono hb1.size); clear ho2)
    | (at_builtin; refine wpList_app Tryd.byteTypes rfl (.tmp 9) (.tmp 11) rfl w.heap.size _ n1 L1 rfl (Own.below HO1.out hb2) A2 n2 c2 L3 rfl HB2.out (by omega) hb12.size ?_; intro A3 c3 w3 ho3 hb3 _; have HO3 := Lib.hid ho3; have hb13 := hb12.trans hb3; clear ho3)
    | (at_builtin; refine wpList_app Tryd.byteTypes rfl (.tmp 13) (.tmp 15) rfl w.heap.size _ (n1 + n2) (L1 ++ L3) rfl (Own.below HO3.out hb4) A4 n4 c4 L2 rfl HB4.out (by omega) (Nat.le_trans hb13.size hb4.size) ?_; intro A5 c5 w5 ho5 hb5 _))
  go_ret
  obtain ⟨A6, c6, e6, hc6⟩ := ho5.form
  injection e6 with e7 e8 e9
  subst e7 e9
  exact ⟨_, _, _, rfl, ho5.bs, hc6, (hb13.trans (hb4.mono hb13.size)).trans hb5, ho5⟩
end Go.Proofs.YtlndgefpmoooeaaDoor
