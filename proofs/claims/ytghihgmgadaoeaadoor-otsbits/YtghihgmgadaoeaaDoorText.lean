/-
  What mac.bytesOf, mac.closed, mac.partText answer: a number's lowest bytes, a label and a byte 0, the text of Derive's part.
-/
import Derived.Test.YtghihgmgadaoeaaDoorMark
import Derived.Test.YtghihgmgadaoeaaDoorPad
namespace Go.Proofs.YtghihgmgadaoeaaDoor
open Go.RowKit
def u64 (n : Int) : Int := n % 18446744073709551616
theorem u64_ok (n : Int) : 0 ≤ u64 n ∧ u64 n < 18446744073709551616 := by unfold u64; omega
set_option maxHeartbeats 400000 in
theorem bytesOf_any (N W : Int) (w : World) : Calls Tryd.prog 58 #[.int .i64 N, .int .i64 W] w (NewSlice w 5 (bytesL (u64 N) W)) := by
  have hu := u64_ok N
  have HB := Lib.hid (Bytes_any (u64 N) W w hu.1 hu.2)
  unfold u64 at HB ⊢
  clear hu
  go_enter Tryd.func58, Tryd.ntmps58
  go_wp2_with (go_at_call 57; refine HB.out.mono ?_; rintro e1 w1 ⟨A1, n1, c1, rfl, hB1, hc1, hb1, ho1⟩)
  go_ret
  exact ⟨A1, n1, c1, rfl, hB1, hc1, hb1, ho1⟩
def NewM (w : World) (t : TypeId) (l : List UInt8) (e : Ending) (w' : World) : Prop :=
  ∃ A n c, e = .returned (.slice A n c) ∧ n ≤ c ∧ Below w.heap.size w w' ∧ OwnM w' w.heap.size t (.slice A n c) n l
def closedL (s : ByteArray) : List UInt8 := s.data.toList ++ [0]
theorem closedL_length (s : ByteArray) : (closedL s).length = s.size + 1 := by unfold closedL; rw [List.length_append]; rfl
theorem zero_new (w : World) (t : TypeId) : Bs (w.alloc (.cells #[.int .u8 0] t)) (some ⟨w.heap.size, 0, none⟩) 1 [0] := by
  refine lit_new w t _ 1 [0] rfl rfl ?_ (by omega)
  intro j x hx
  rcases j with _ | j
  · simp at hx; subst hx; rfl
  · simp at hx
set_option maxRecDepth 100000 in
set_option maxHeartbeats 400000 in
theorem closed_any (s : ByteArray) (w : World) (hs : s.size ≤ 140737488355000) : Calls Tryd.prog 61 #[.string s] w (NewM w 5 (closedL s)) := by
  have hcv := run_bytes_of_string (P := Tryd.prog) w 9 34 5 s Tryd.underlying9 Tryd.underlying34 Tryd.underlying5
  have HO := Lib.hid (bytes_new w s 5 (by omega))
  obtain ⟨w1, hw1⟩ : ∃ w1, w.drew.alloc (.cells (bytesRow s (grownCap w s.size 0 5)) 5 ((bytesRow s (grownCap w s.size 0 5)).size, (bytesRow s (grownCap w s.size 0 5)).size + 1)) = w1 := ⟨_, rfl⟩
  have hb1 : Below w.heap.size w w1 := by rw [← hw1]; exact (Below.refl _ w).drew.alloc (Nat.le_refl _) _
  rw [hw1] at hcv HO
  generalize grownCap w s.size 0 5 = cap at *
  generalize some (⟨w.heap.size, 0, none⟩ : Addr) = A0 at *
  clear hw1
  go_enter Tryd.func61, Tryd.ntmps61
  go_wp2_with (at_builtin; refine wpList_appM Tryd.byteTypes rfl (.tmp 4) (.tmp 5) rfl w.heap.size _ s.size s.data.toList rfl (HO.out.below ((Below.refl _ _).alloc (Nat.le_refl _) _)) _ _ 1 1 [0] rfl (zero_new w1 5) (by omega) (by have := hb1.size; simp; omega) ?_; intro A3 c3 w3 ho3 hb3)
  go_ret
  obtain ⟨A4, c4, e4, hc4⟩ := ho3.form
  injection e4 with e5 e6 e7
  subst e5 e7
  exact ⟨_, _, _, rfl, hc4, (hb1.alloc hb1.size _).trans hb3, ho3⟩
theorem Own.below {w w' : World} {base : Nat} {e : TypeId} {v : Value} {n : Nat} {l : List UInt8} (h : Own w base e v n l) (hb : Below w.heap.size w w') : Own w' base e v n l := by
  refine ⟨h.1, ?_⟩
  rcases h.2 with hn | ⟨g, cap, cur, hv, hbg, hg, r⟩
  · exact .inl hn
  · exact .inr ⟨g, cap, cur, hv, hbg, (hb.block g (Array.getElem?_eq_some_iff.1 hg).1).trans hg, r⟩
def partL (i : Int) (s : ByteArray) (n : Int) : List UInt8 := bytesL (u64 i) 4 ++ closedL s ++ bytesL (u64 n) 4
end Go.Proofs.YtghihgmgadaoeaaDoor
