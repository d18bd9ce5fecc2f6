/-
  The bytes of a digest, one by one.
-/
import Derived.Test.YtgiobcpljbpmiaaDoorBase
import Derived.Test.YtgiobcpljbpmiaaDoorSha
import Derived.Test.YtgiobcpljbpmiaaDoorShaR
import Derived.Deep.Matrix
import Derived.Deep.RegionHeld3
namespace Go.Proofs.YtgiobcpljbpmiaaDoor
open Go.ChangeShapes Go.WideShapes Go.ChangeAt Go.RowKit
theorem Row.bsB {w : World} {g : Nat} {t : TypeId} {l : List UInt8} {n : Nat} (h : Row w g t (bcells l)) (hl : l.length = n) : Bs w (some ⟨g, 0, none⟩) n l :=
  ⟨hl, fun k x hx => ⟨g, 0, rfl, h.lt, by rw [Nat.zero_add, h.cell k, bcells_get?, hx]; rfl⟩⟩
theorem take_getD (d : List UInt8) (k : Nat) (h : k < d.length) : d.take k ++ [d.getD k 0] = d.take (k + 1) := by
  rw [List.take_add_one, List.getElem?_eq_getElem h, List.getD_eq_getElem?_getD, List.getElem?_eq_getElem h]; rfl
set_option maxRecDepth 100000 in
set_option maxHeartbeats 1000000 in
theorem DBytes_any (d : List UInt8) (w : World) (hd : d.length = 32) : Calls Tryd.prog 60 #[.agg (bcells d)] w (NewSlice w 5 d) := by
  have HD := Lib.hid hd
  clear hd
  go_enter Tryd.func60, Tryd.ntmps60
  go_wp2_with fail
  go_loopw [3, 4] (fun t i wr => ∃ (k : Nat) (A : Option Addr) (c : Nat), k ≤ 32 ∧ i = .int .i64 (k : Int) ∧ t = .slice A k c ∧ Below w.heap.size w wr ∧ Row wr w.heap.size 104 (bcells d) ∧ Own wr (w.heap.size + 1) 5 (.slice A k c) k (d.take k)) (fun _ i _ => 32 - (intOf i).toNat)
  case atStart => exact ⟨0, none, 0, Nat.zero_le _, rfl, rfl, (Below.refl _ _).alloc (Nat.le_refl _) _, Row.new _ _ _, Own.nil _ _ _⟩
  case round =>
    obtain ⟨k, A, c, hk, rfl, rfl, hbel, hr, ho⟩ := hrel
    have hbs := hbel.size
    have hr1 := hr.lt
    have HO := Lib.hid ho
    have HR := Lib.hid hr
    by_cases hlt : k < 32
    · have i0 : (0 : Int) ≤ (k : Int) := by omega
      have i1 : (k : Int) < 32 := by omega
      obtain ⟨X, hX⟩ : ∃ X, d.getD k 0 = X := ⟨_, rfl⟩
      have x1 : wr.cell? ⟨w.heap.size, k, none⟩ = some (.int .u8 (X.toNat : Int)) := by
        rw [hr.cell k, bcells_get _ _ (by rw [HD.out]; exact hlt), hX]
      have HX := Lib.hid hX
      clear hr ho hX
      go_wp2_with (at_builtin; refine wpList_app Tryd.byteTypes rfl (.tmp 9) (.tmp 13) rfl (w.heap.size + 1) _ k (d.take k) rfl (own_below HO.out ((Below.refl _ _).alloc (Nat.le_refl _) _)) _ 1 1 [X] rfl (one_of wr X 5).bs (by omega) (by simp; omega) ?_; intro A3 c3 w3 ho3 hb3 _)
      refine ⟨⟨k + 1, A3, c3, by omega, by go_num, rfl, ?_, ?_, ?_⟩, by simp [intOf]; omega⟩
      · exact (hbel.alloc hbs _).trans (hb3.mono (by omega))
      · exact (HR.out.alloc _).below hb3 (by omega)
      · rw [← take_getD d k (by rw [HD.out]; exact hlt), HX.out]; exact ho3
    · obtain rfl : k = 32 := by omega
      rw [List.take_of_length_le (by rw [HD.out]; exact Nat.le_refl _)] at HO
      clear hr ho
      go_wp2_with fail
      go_ret
      obtain ⟨A4, c4, e4, hc4⟩ := HO.out.form
      injection e4 with e5 e6 e7
      subst e5 e7
      exact ⟨_, _, _, rfl, HO.out.bs, hc4, hbel, HO.out.mono (by omega)⟩
end Go.Proofs.YtgiobcpljbpmiaaDoor
