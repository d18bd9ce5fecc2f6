/-
  What the document's own Join (juratref02.Join) answers: two texts, one behind the other.
-/
import Derived.Test.YtghihgmgadaoeaaDoorRefSum
namespace Go.Proofs.YtghihgmgadaoeaaDoor
open Go.RowKit
set_option maxHeartbeats 400000 in
theorem RefJoin_any (A B : Option Addr) (n m c d : Nat) (l r : List UInt8) (w : World) (hA : Bs w A n l) (hB : Bs w B m r) (hn : n + m ≤ 140737488355328) :
    Calls Tryd.prog 62 #[.slice A n c, .slice B m d] w (NewSlice w 5 (l ++ r)) := by
  have HA := Lib.hid hA
  have HB := Lib.hid hB
  clear hA hB
  go_enter Tryd.func62, Tryd.ntmps62
  go_wp2_with (first
    | (at_builtin; refine wpList_copy Tryd.byteTypes rfl (.tmp 6) (.tmp 7) rfl rfl A n c l rfl HA.out (by omega) ?_; intro A1 c1 w1 hB1 hc1 hb1 ho1; have HO1 := Lib.hid ho1; clear hB1 ho1)
    | (at_builtin; refine wpList_app Tryd.byteTypes rfl (.tmp 9) (.tmp 10) rfl w.heap.size _ n l rfl HO1.out B m d r rfl (HB.out.below hb1) hn hb1.size ?_; intro A3 c3 w3 ho3 hb3 hg3; have HO3 := Lib.hid ho3; clear ho3 hg3))
  go_ret
  obtain ⟨A4, c4, e4, hc4⟩ := HO3.out.form
  injection e4 with e5 e6 e7
  subst e5 e7
  exact ⟨_, _, _, rfl, HO3.out.bs, hc4, hb1.trans hb3, HO3.out⟩
end Go.Proofs.YtghihgmgadaoeaaDoor
