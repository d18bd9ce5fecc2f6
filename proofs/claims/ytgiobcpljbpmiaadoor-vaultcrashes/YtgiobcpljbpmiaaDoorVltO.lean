/-
  A nil tape, a nil vault.
-/
import Derived.Test.YtgiobcpljbpmiaaDoorVltN
namespace Go.Proofs.YtgiobcpljbpmiaaDoor
open Go.RowKit
set_option maxRecDepth 100000 in
theorem frames_nil (v : Nat) (z : Int) (w : World) (c0 : w.cell? ⟨v, 0, none⟩ = some (.pointer none)) (hT : Tab 2 w) :
    Calls Tryd.prog 50 #[.pointer (some ⟨v, 0, none⟩), .int .i64 z] w (FramesE w [] 2) := by
  have HS := Lib.hid (Scan_any none 0 0 [] w (Bs.nil _ _) (Nat.le_refl _) (by omega) hT)
  clear hT
  unfold FramesE
  go_enter Tryd.func50, Tryd.ntmps50
  go_wp2_with (first
    | (go_at_call 31; refine (Read_nil z w).mono ?_; rintro e1 w1 ⟨rfl, rfl⟩)
    | (go_at_call 64; refine HS.out.mono ?_; rintro e2 w2 ⟨L, k, s, A2, c2, rfl, hs2, ho2, hb2⟩; have HO2 := Lib.hid ho2; have HS2 := Lib.hid hs2; clear ho2 hs2))
  refine bodyPost_ret (results_tmp3 rfl _ _ _) rfl ?_
  exact ⟨L, k, s, A2, c2, rfl, HS2.out, HO2.out, hb2⟩
set_option maxRecDepth 100000 in
theorem recall1_nil (b1 b2 v : Nat) (z : Int) (w : World) (c1 : w.cell? ⟨b1, 0, none⟩ = some (.pointer (some ⟨v, 0, none⟩))) (c2 : w.cell? ⟨b2, 0, none⟩ = some (.int .i64 z)) (c0 : w.cell? ⟨v, 0, none⟩ = some (.pointer none)) (hT : Tab 2 w) :
    Calls Tryd.prog 49 #[.pointer (some ⟨b1, 0, none⟩), .pointer (some ⟨b2, 0, none⟩)] w fun e w' => e = .returned (.int .i64 2) ∧ Below w.heap.size w w' := by
  have HFr := Lib.hid (frames_nil v z w c0 hT)
  clear hT c0
  go_enter Tryd.func49, Tryd.ntmps49
  go_wp2_with (go_at_call 50; refine HFr.out.mono ?_; rintro e1 w1 ⟨L', k, s', A1, c1', rfl, hs1, ho1, hb1⟩; obtain ⟨rfl, _⟩ := (by exact Scans.none rdFr_nil hs1); obtain rfl : k = 0 := ho1.length.symm; have HBb := Lib.hid hb1; clear hs1 ho1 hb1)
  go_ret
  exact ⟨rfl, HBb.out⟩
theorem runNil (v B : Nat) (f1 f2 f3 f4 : Value) (w1 : World) (b : Nat) (hc1 : Clo w1 B 49 v 1 f1) (c0 : w1.cell? ⟨v, 0, none⟩ = some (.pointer none)) (hTb : Tab 2 w1) (hcs : ∀ k, k < 4 → w1.cell? ⟨b, k, none⟩ = some (if k = 0 then f1 else if k = 1 then f2 else if k = 2 then f3 else f4)) :
    Calls Tryd.prog 32 #[.pointer (some ⟨v, 0, none⟩), .slice (some ⟨b, 0, none⟩) 4 4] w1 fun e w' => e = .returned (.int .i64 2) ∧ Below w1.heap.size w1 w' := by
  refine (run_any v 4 b 4 (fun k => if k = 0 then f1 else if k = 1 then .func (.func 49) #[] #[] else if k = 2 then .func (.func 49) #[] #[] else .func (.func 49) #[] #[]) (fun k wr => k = 0 ∧ wr = w1) (fun x wr => x = 2 ∧ Below w1.heap.size w1 wr) w1 (by omega) ⟨rfl, rfl⟩ ?_ ?_ ?_).mono ?_
  · rintro k wr hk ⟨rfl, rfl⟩
    exact hcs 0 (by omega)
  · intro k hk
    match k, hk with
    | 0, _ =>
      obtain ⟨b1, b2, rfl, q1, q2, r1, r2⟩ := hc1
      refine ⟨49, _, _, rfl, en49, ?_⟩
      rintro wr ⟨_, rfl⟩
      refine (recall1_nil b1 b2 v 1 wr (r1.cell 0) (r2.cell 0) c0 hTb).mono ?_
      rintro e w' ⟨rfl, hb⟩
      exact ⟨2, rfl, fun q => absurd q (by omega), fun _ => ⟨rfl, hb⟩⟩
    | k + 1, hk =>
      refine ⟨49, #[], #[], ?_, en49, ?_⟩
      · match k, hk with
        | 0, _ => rfl
        | 1, _ => rfl
        | 2, _ => rfl
      · rintro wr ⟨q, _⟩
        omega
  · rintro wr ⟨q, _⟩
    omega
  · rintro e w' (⟨rfl, q, _⟩ | ⟨x, w2, hx, rfl, ⟨rfl, hb⟩, hq⟩)
    · omega
    · rcases hq with ⟨_, rfl⟩ | ⟨q, _⟩
      · exact ⟨rfl, hb⟩
      · omega
set_option maxRecDepth 100000 in
set_option maxHeartbeats 4000000 in
theorem Open_nil (w : World) (hTb : Tab 2 w) : Calls Tryd.prog 13 #[.pointer none] w fun e w' => e = .returned (.tuple #[.pointer none, .int .i64 2]) ∧ Below w.heap.size w w' := by
  have hmf : ∀ (fn : Fn) (first cap : Array Value) (w : World), (Instr.makeFunc fn first cap).run Tryd.prog w = .ok (.func fn first cap) w := fun _ _ _ _ => rfl
  have hb0 : Below w.heap.size w (w.alloc (.cells #[.pointer none, .int .i64 0, .slice none 0 0, .slice none 0 0, .bool false] 70)) := (Below.refl _ _).alloc (Nat.le_refl _) _
  have HX0 := Lib.hid (Row.new w 70 #[.pointer none, .int .i64 0, .slice none 0 0, .slice none 0 0, .bool false])
  obtain ⟨wz, hwz⟩ : ∃ wz, w.alloc (.cells #[.pointer none, .int .i64 0, .slice none 0 0, .slice none 0 0, .bool false] 70) = wz := ⟨_, rfl⟩
  have hlt : w.heap.size < wz.heap.size := by rw [← hwz]; simp
  rw [hwz] at hb0 HX0
  have HT := Lib.hid (hTb.below hb0)
  have HZ := Lib.hid hb0
  obtain ⟨v, hv⟩ : ∃ v, w.heap.size = v := ⟨_, rfl⟩
  rw [hv] at HX0 hlt
  have hvw : w.heap.size ≤ v := by omega
  have HRun := Lib.hid (fun f1 f2 f4 w4 (hb : Below wz.heap.size wz w4) (a1 : Clo w4 0 49 v 1 f1) =>
    have hq : Below w4.heap.size w4 (w4.alloc (.cells #[f1, f2, .func (.func 34) #[.pointer (some ⟨v, 0, none⟩)] #[], f4] 73)) := (Below.refl _ _).alloc (Nat.le_refl _) _
    have hN := Row.new w4 73 #[f1, f2, .func (.func 34) #[.pointer (some ⟨v, 0, none⟩)] #[], f4]
    have hvr := (HX0.out.below hb hlt).below hq (by have := hb.size; omega)
    runNil v 0 f1 f2 (.func (.func 34) #[.pointer (some ⟨v, 0, none⟩)] #[]) f4 (w4.alloc (.cells #[f1, f2, .func (.func 34) #[.pointer (some ⟨v, 0, none⟩)] #[], f4] 73)) w4.heap.size (a1.below hq) (hvr.cell 0) ((HT.out.below hb).below hq) (fun k hk => by
      match k, hk with
      | 0, _ => exact hN.cell 0
      | 1, _ => exact hN.cell 1
      | 2, _ => exact hN.cell 2
      | 3, _ => exact hN.cell 3))
  clear hb0 HX0 hTb
  go_enter Tryd.func13, Tryd.ntmps13
  go_wp2_with (first
    | (go_at_call 33; have hz := B1; clear hz; refine (recall_any v 2 w1).mono ?_; rintro e2 w2 ⟨f2, rfl, hf2, hb2⟩; have B2 : Below wz.heap.size wz w2 := B1.trans (hb2.mono B1.size); have HF2 := Lib.hid hf2.fn; have HG1 := Lib.hid (HF1.out.below hb2); clear hf2)
    | (go_at_call 33; refine (recall_any v 1 wz).mono ?_; rintro e1 w1 ⟨f1, rfl, hf1, hb1⟩; have B1 : Below wz.heap.size wz w1 := hb1; have HF1 := Lib.hid (hf1.mono (B' := 0) (Nat.zero_le _)); clear hf1)
    | (go_at_call 35; refine (sync_any v 0 w2).mono ?_; rintro e4 w4 ⟨f4, rfl, hf4, hb4⟩; have B4 : Below wz.heap.size wz w4 := B2.trans (hb4.mono B2.size); have HF4 := Lib.hid hf4.fn; have HK1 := Lib.hid (HG1.out.below hb4); have Hp3 := Lib.hid (show isFn (.func (.func 34) #[.pointer (some ⟨v, 0, none⟩)] #[]) from ⟨_, _, _, rfl⟩); clear hf4)
    | ((with_reducible refine wpList_buildF4 rfl (.tmp 11) (.tmp 13) (.tmp 15) (.tmp 17) rfl f1 f2 (.func (.func 34) #[.pointer (some ⟨v, 0, none⟩)] #[]) f4 rfl rfl rfl rfl HK1.out.fn HF2.out Hp3.out HF4.out ?_))
    | (go_at_call 32; refine (HRun.out f1 f2 f4 w4 B4 HK1.out).mono ?_; rintro e10 w10 ⟨rfl, hb10⟩; have HB10 := Lib.hid hb10; clear hb10))
  go_ret2
  exact ⟨rfl, HZ.out.trans (((B4.alloc B4.size _).trans (HB10.out.mono (by have := B4.size; simp; omega))).mono HZ.out.size)⟩
set_option maxRecDepth 100000 in
theorem Add_nil (A : Option Addr) (n c : Nat) (w : World) : Calls Tryd.prog 19 #[.pointer none, .slice A n c] w fun e w' => e = .returned (.int .i64 2) ∧ w = w' := by
  go_enter Tryd.func19, Tryd.ntmps19
  go_wp2_with (go_at_call 37; refine (refuses_nil A n c w).mono ?_; rintro e1 w1 ⟨rfl, rfl⟩)
  go_ret
  exact ⟨rfl, rfl⟩
set_option maxRecDepth 100000 in
theorem Save_nil (A : Option Addr) (n c : Nat) (w : World) : Calls Tryd.prog 22 #[.pointer none, .slice A n c] w fun e w' => e = .returned (.int .i64 2) ∧ w = w' := by
  go_enter Tryd.func22, Tryd.ntmps22
  go_wp2_with (go_at_call 37; refine (refuses_nil A n c w).mono ?_; rintro e1 w1 ⟨rfl, rfl⟩)
  go_ret
  exact ⟨rfl, rfl⟩
set_option maxRecDepth 100000 in
theorem Add_down (v : Nat) (A : Option Addr) (n c : Nat) (w : World) (h : Row w v 70 vDown) : Calls Tryd.prog 19 #[.pointer (some ⟨v, 0, none⟩), .slice A n c] w fun e w' => e = .returned (.int .i64 100) ∧ w = w' := by
  have HR := Lib.hid h
  clear h
  go_enter Tryd.func19, Tryd.ntmps19
  go_wp2_with (go_at_call 37; refine (refuses_down v _ A n c w HR.out rfl).mono ?_; rintro e1 w1 ⟨rfl, rfl⟩)
  go_ret
  exact ⟨rfl, rfl⟩
set_option maxRecDepth 100000 in
theorem Save_down (v : Nat) (A : Option Addr) (n c : Nat) (w : World) (h : Row w v 70 vDown) : Calls Tryd.prog 22 #[.pointer (some ⟨v, 0, none⟩), .slice A n c] w fun e w' => e = .returned (.int .i64 100) ∧ w = w' := by
  have HR := Lib.hid h
  clear h
  go_enter Tryd.func22, Tryd.ntmps22
  go_wp2_with (go_at_call 37; refine (refuses_down v _ A n c w HR.out rfl).mono ?_; rintro e1 w1 ⟨rfl, rfl⟩)
  go_ret
  exact ⟨rfl, rfl⟩
set_option maxRecDepth 100000 in
theorem Add_long (v : Nat) (cs : Array Value) (A : Option Addr) (n c : Nat) (w : World) (h : Row w v 70 cs) (h4 : cs[4]? = some (.bool false)) (hn : 262080 < n) : Calls Tryd.prog 19 #[.pointer (some ⟨v, 0, none⟩), .slice A n c] w fun e w' => e = .returned (.int .i64 42) ∧ w = w' := by
  have HR := Lib.hid (refuses_long v cs A n c w h h4 hn)
  clear h h4 hn
  go_enter Tryd.func19, Tryd.ntmps19
  go_wp2_with (go_at_call 37; refine HR.out.mono ?_; rintro e1 w1 ⟨rfl, rfl⟩)
  go_ret
  exact ⟨rfl, rfl⟩
set_option maxRecDepth 100000 in
theorem Save_long (v : Nat) (cs : Array Value) (A : Option Addr) (n c : Nat) (w : World) (h : Row w v 70 cs) (h4 : cs[4]? = some (.bool false)) (hn : 262080 < n) : Calls Tryd.prog 22 #[.pointer (some ⟨v, 0, none⟩), .slice A n c] w fun e w' => e = .returned (.int .i64 42) ∧ w = w' := by
  have HR := Lib.hid (refuses_long v cs A n c w h h4 hn)
  clear h h4 hn
  go_enter Tryd.func22, Tryd.ntmps22
  go_wp2_with (go_at_call 37; refine HR.out.mono ?_; rintro e1 w1 ⟨rfl, rfl⟩)
  go_ret
  exact ⟨rfl, rfl⟩
end Go.Proofs.YtgiobcpljbpmiaaDoor
