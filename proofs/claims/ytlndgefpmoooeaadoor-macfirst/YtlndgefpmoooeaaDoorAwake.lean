/-
  What juratlaw03.awake and juratlaw03.own answer: that a known mac begins as it should; bytes of one's own.
-/
import Derived.Test.YtlndgefpmoooeaaDoorRound
namespace Go.Proofs.YtlndgefpmoooeaaDoor
open Go.RowKit
def jefe : List UInt8 := [74, 101, 102, 101]
def want : List UInt8 := [119, 104, 97, 116, 32, 100, 111, 32, 121, 97, 32, 119, 97, 110, 116, 32, 102, 111, 114, 32, 110, 111, 116, 104, 105, 110, 103, 63]
theorem known : (macL jefe want).getD 0 0 = 91 ∧ (macL jefe want).getD 1 0 = 220 ∧ (macL jefe want).getD 31 0 = 67 := by decide +kernel
theorem modify_push (a : Array Obj) (x : Obj) (f : Obj → Obj) : (a.push x).modify a.size f = a.push (f x) := by
  apply Array.ext
  · simp
  · intro i h1 h2
    simp only [Array.getElem_modify, Array.getElem_push]
    by_cases h : a.size = i
    · subst h; simp
    · have hi : i < a.size := by simp at h1; omega
      simp [h, hi]
/-- '[]byte("..")': the literal's row bears the run-time's mark behind its last cell -/
theorem conv_lit (w : World) (C : Array Value) (n c : Nat) : (convert 22 22 (.slice (some ⟨w.heap.size, 0, none⟩) n c)).run Tryd.prog (w.alloc (.cells C 5)) = .ok (.slice (some ⟨w.heap.size, 0, none⟩) n c) (w.alloc (.cells C 5 (C.size, C.size + 1))) := by
  have hsh : (w.alloc (.cells C 5)).shape? w.heap.size = some (5, C.size) := by
    have : (w.alloc (.cells C 5)).heap[w.heap.size]? = some (.cells C 5) := by
      show (w.heap.push (.cells C 5))[w.heap.size]? = _
      simp
    unfold World.shape?
    rw [this]
  have hfr : (w.alloc (.cells C 5)).freeze ⟨w.heap.size, C.size, none⟩ 1 = w.alloc (.cells C 5 (C.size, C.size + 1)) := by
    unfold World.freeze
    rw [if_neg (by decide)]
    show ({ w.alloc (.cells C 5) with heap := (w.heap.push (.cells C 5)).modify w.heap.size _ } : World) = _
    rw [modify_push]
    rfl
  simp [convert, run_underlying Tryd.underlying22, run_underlying Tryd.underlying5, markStringish, hsh]
  exact hfr
theorem lit_bsM (w : World) (t : TypeId) (l : List UInt8) (fz : Nat × Nat) : Bs (w.alloc (.cells (bcells l) t fz)) (some ⟨w.heap.size, 0, none⟩) l.length l :=
  ⟨rfl, fun k x hx => ⟨w.heap.size, 0, rfl, by simp, by rw [Nat.zero_add, cell_of_row _ w.heap.size k (bcells l) t fz (heap_alloc_new w _), bcells_get?, hx]; rfl⟩⟩
theorem lit_bs (w : World) (t : TypeId) (l : List UInt8) (n : Nat) (hl : l.length = n) (hn : n ≤ 65536) : Bs (w.alloc (.cells (bcells l) t)) (some ⟨w.heap.size, 0, none⟩) n l :=
  lit_new w t _ n l hl (by rw [bcells_size, hl]) (fun j x hx => by rw [bcells_get?, hx]; rfl) hn
theorem known_cell (j : Nat) (hj : j < 32) (x : UInt8) (z : Int) (h : (macL jefe want).getD j 0 = x) (hz : (x.toNat : Int) = z) : (bcells (macL jefe want))[j]? = some (.int .u8 z) := by
  rw [bcells_get _ j (by rw [macL_length]; exact hj), h, hz]
set_option maxRecDepth 100000 in
set_option maxHeartbeats 1000000 in
theorem awake_any (w : World) (hT : Tab 2 w) : Calls Tryd.prog 9 #[] w fun e w' => e = .returned (.bool true) ∧ Below w.heap.size w w' := by
  have hk := known
  have H0 := Lib.hid (known_cell 0 (by omega) 91 91 hk.1 rfl)
  have H1 := Lib.hid (known_cell 1 (by omega) 220 220 hk.2.1 rfl)
  have H31 := Lib.hid (known_cell 31 (by omega) 67 67 hk.2.2 rfl)
  have HD := Lib.hid (show (bcells (macL jefe want)).size = 32 by rw [bcells_size, macL_length])
  have hb0 := ((Below.refl w.heap.size w).alloc (Nat.le_refl _) (.cells (bcells jefe) 5)).alloc (by simp) (.cells (bcells want) 5 (28, 28 + 1))
  obtain ⟨w0, hw0⟩ : ∃ w0, (w.alloc (.cells (bcells jefe) 5)).alloc (.cells (bcells want) 5 (28, 28 + 1)) = w0 := ⟨_, rfl⟩
  have hB1 : Bs w0 (some ⟨w.heap.size, 0, none⟩) 4 jefe := by
    rw [← hw0]; exact (lit_bs w 5 jefe 4 rfl (by omega)).below ((Below.refl _ _).alloc (Nat.le_refl _) _)
  have hB2 : Bs w0 (some ⟨w.heap.size + 1, 0, none⟩) 28 want := by
    have h := lit_bsM (w.alloc (.cells (bcells jefe) 5)) 5 want (28, 28 + 1)
    rw [show (w.alloc (.cells (bcells jefe) 5)).heap.size = w.heap.size + 1 by simp, hw0] at h
    exact h
  rw [hw0] at hb0
  have HM := Lib.hid (Mac_any _ _ 4 28 4 28 jefe want w0 hB1 hB2 (Nat.le_refl _) (Nat.le_refl _) (hT.below hb0) (by omega) (by omega))
  have h2 := hT.1
  have hcv := conv_lit (w.alloc (.cells (bcells jefe) 5)) (bcells want) 28 28
  rw [show (w.alloc (.cells (bcells jefe) 5)).heap.size = w.heap.size + 1 by simp] at hcv
  have hcv2 : (convert 22 22 (.slice (some ⟨w.heap.size + 1, 0, none⟩) 28 28)).run Tryd.prog ((w.alloc (.cells #[.int .u8 74, .int .u8 101, .int .u8 102, .int .u8 101] 5)).alloc (.cells #[.int .u8 119, .int .u8 104, .int .u8 97, .int .u8 116, .int .u8 32, .int .u8 100, .int .u8 111, .int .u8 32, .int .u8 121, .int .u8 97, .int .u8 32, .int .u8 119, .int .u8 97, .int .u8 110, .int .u8 116, .int .u8 32, .int .u8 102, .int .u8 111, .int .u8 114, .int .u8 32, .int .u8 110, .int .u8 111, .int .u8 116, .int .u8 104, .int .u8 105, .int .u8 110, .int .u8 103, .int .u8 63] 5)) = .ok (.slice (some ⟨w.heap.size + 1, 0, none⟩) 28 28) ((w.alloc (.cells (bcells jefe) 5)).alloc (.cells (bcells want) 5 (28, 28 + 1))) := hcv
  rw [hw0] at hcv2
  clear hcv hw0 hB1 hB2
  generalize macL jefe want = R at *
  clear hk hT
  go_enter Tryd.func9, Tryd.ntmps9
  go_wp2_with (first
    | (go_at_call 10; (refine HM.out.mono ?_; rintro e2 w2 ⟨rfl, hb2⟩; have hs2 := hb2.size))
    | ((with_reducible refine wpList_store_row Tryd.agg25 rfl (.tmp 1) (.tmp 5) rfl _ _ rfl rfl 25 lit32 (Row.new w2 25 lit32) HD.out lit32_size (bcells_one _) ?_); intro w9 hr9 ho9; have x0 := (hr9.cell 0).trans H0.out; have x1 := (hr9.cell 1).trans H1.out; have x31 := (hr9.cell 31).trans H31.out; clear hr9))
  go_ret
  refine ⟨rfl, ?_⟩
  have hb1 : Below w.heap.size w w2 := hb0.trans (hb2.mono hb0.size)
  exact (hb1.alloc hb1.size _).trans (ho9.below hb1.size (by have := hb1.size; simp; omega))
set_option maxRecDepth 100000 in
set_option maxHeartbeats 400000 in
theorem own_any (A : Option Addr) (n c : Nat) (l : List UInt8) (w : World) (hB : Bs w A n l) (hn : n ≤ 140737488355328) : Calls Tryd.prog 11 #[.slice A n c] w (NewSlice w 5 l) := by
  have HB := Lib.hid hB
  clear hB
  go_enter Tryd.func11, Tryd.ntmps11
  go_wp2_with (at_builtin; refine wpList_copy Tryd.byteTypes rfl (.tmp 3) (.tmp 4) rfl rfl A n c l rfl HB.out (by omega) ?_; intro A1 c1 w1 hB1 hc1 hb1 ho1)
  go_ret
  exact ⟨_, _, _, rfl, hB1, hc1, hb1, ho1⟩
end Go.Proofs.YtlndgefpmoooeaaDoor
