/-
  What keys.mayBe, the closure of a key, its leaf, New, Next, Left, Skip and Public answer.
-/
import Derived.Test.YtfelmdndjdaniaaDoorKeyP
namespace Go.Proofs.YtfelmdndjdaniaaDoor
open Go.RowKit
theorem yields_fld67 {ops : Array Oper} {S : World → Prop} {o : Oper} {a : Act} (hw : Region.wanted o (yielded ops a.tmps) = true) (x : Operand) (k : Nat) (ho : o.op = .fieldAddr 67 x k) (hk : k = 0 ∨ k = 1 ∨ k = 2 ∨ k = 3) (g : Nat)
    (hx : a.eval x = .pointer (some ⟨g, 0, none⟩)) : YieldsIf Tryd.prog ops S o (.pointer (some ⟨g, k, none⟩)) a :=
  .inl ⟨hw, fun w _ => by
    unfold execOp
    simp only [ho, hx]
    rcases hk with rfl | rfl | rfl | rfl <;> go_simp⟩
theorem yields_cell {ops : Array Oper} {S : World → Prop} {o : Oper} {a : Act} (hw : Region.wanted o (yielded ops a.tmps) = true) (ty : TypeId) (x : Operand) (ho : o.op = .load ty x) (hty : ty = 3 ∨ ty = 42 ∨ ty = 65) (g k : Nat)
    (hx : a.eval x = .pointer (some ⟨g, k, none⟩)) (v : Value) (hS : ∀ w, S w → w.cell? ⟨g, k, none⟩ = some v) : YieldsIf Tryd.prog ops S o v a :=
  .inl ⟨hw, fun w h => by
    have hc := hS w h
    unfold execOp
    simp only [ho, hx]
    rcases hty with rfl | rfl | rfl <;> go_simp⟩
theorem yields_nil {ops : Array Oper} {S : World → Prop} {o : Oper} {a : Act} (hw : Region.wanted o (yielded ops a.tmps) = true) (x : Operand) (ho : o.op = .nilCheck x) (p : Addr)
    (hx : a.eval x = .pointer (some p)) : YieldsIf Tryd.prog ops S o (.pointer (some p)) a :=
  .inl ⟨hw, fun w h => by
    unfold execOp
    simp only [ho, hx]
    go_simp⟩
set_option maxHeartbeats 400000 in
theorem kMay_any (b h : Int) (w : World) : Calls Tryd.prog 33 #[.int .i64 b, .int .i64 h] w fun e w' => e = .returned (.bool (okK b h)) ∧ w = w' := by
  by_cases h1 : 1 ≤ b
  · by_cases h2 : b ≤ 256
    · by_cases h3 : 0 ≤ h
      · by_cases h4 : h ≤ 6
        · rw [show okK b h = true by simp [okK, h1, h2, h3, h4]]
          go_enter Tryd.func33, Tryd.ntmps33
          go_wp2
          go_ret
          exact ⟨rfl, rfl⟩
        · rw [show okK b h = false by simp [okK, h4]]
          go_enter Tryd.func33, Tryd.ntmps33
          go_wp2
          go_ret
          exact ⟨rfl, rfl⟩
      · rw [show okK b h = false by simp [okK, h3]]
        go_enter Tryd.func33, Tryd.ntmps33
        go_wp2
        go_ret
        exact ⟨rfl, rfl⟩
    · rw [show okK b h = false by simp [okK, h2]]
      go_enter Tryd.func33, Tryd.ntmps33
      go_wp2
      go_ret
      exact ⟨rfl, rfl⟩
  · rw [show okK b h = false by simp [okK, h1]]
    go_enter Tryd.func33, Tryd.ntmps33
    go_wp2
    go_ret
    exact ⟨rfl, rfl⟩
set_option maxRecDepth 100000 in
set_option maxHeartbeats 1000000 in
theorem seedOf_any (s : List UInt8) (i sd : Nat) (w : World) (hs : s.length = 32) (hR : Row w sd 23 (bcells s)) (hT : Tab 1 w) :
    Calls Tryd.prog 34 #[.int .i64 (i : Int), .pointer (some ⟨sd, 0, none⟩)] w fun e w' => e = .returned (.agg (bcells (ksL s i))) ∧ Below w.heap.size w w' := by
  have HC := Lib.hid (fun w hT => show Calls Tryd.prog 35 #[.agg (bcells s), .string ⟨#[107, 101, 121]⟩, .int .i64 (i : Int)] w fun e w' => e = .returned (.agg (bcells (ksL s i))) ∧ Below w.heap.size w w' from Seed_any s keyA (i : Int) w hs (by decide) hT)
  have HS := Lib.hid (show (bcells (ksL s i)).size = 32 by rw [bcells_size, ksL_length])
  have HKS := Lib.hid (show (bcells s).size = 32 by rw [bcells_size, hs])
  have hb0 := (Below.refl w.heap.size w).alloc (Nat.le_refl _) (.cells lit32 23)
  have HT0 := Lib.hid (hT.below hb0)
  have HR0 := Lib.hid (hR.alloc (.cells lit32 23))
  have HZ := Lib.hid (Row.new w 23 lit32)
  generalize ksL s i = R at *
  clear hT hR
  go_enter Tryd.func34, Tryd.ntmps34
  go_wp2_with (first
    | (with_reducible refine wpList_load_row Tryd.agg25 rfl (.tmp 1) rfl _ rfl 23 _ HR0.out HKS.out ?_)
    | (go_at_call 35; refine (HC.out _ HT0.out).mono ?_; rintro e1 w1 ⟨rfl, hb1⟩; have hs1 := hb1.size; have HZ1 := Lib.hid (HZ.out.below hb1 (by simp)))
    | (with_reducible refine wpList_store_row Tryd.agg25 rfl (.tmp 3) (.tmp 6) rfl _ _ rfl rfl 23 lit32 HZ1.out HS.out lit32_size (bcells_one _) ?_; intro w9 hr9 ho9; have HR9 := Lib.hid hr9; clear hr9))
  refine bodyPost_ret (results_row1 Tryd.agg25 Tryd.results34 rfl HR9.out HS.out) rfl ⟨rfl, ?_⟩
  have b1 := hb0.trans (hb1.mono (by simp))
  exact b1.trans (ho9.below (by omega) b1.size)
/-- a key's cells -/
abbrev keyC (sd b : Nat) (v x : Value) : Array Value := #[.func (.func 34) #[] #[.pointer (some ⟨sd, 0, none⟩)], .int .i64 (b : Int), v, x]
set_option maxRecDepth 100000 in
set_option maxHeartbeats 2000000 in
theorem leaf_any (g sd b i : Nat) (v x : Value) (s : List UInt8) (w : World) (hs : s.length = 32) (hb1 : 1 ≤ b) (hb2 : b ≤ 256) (hK : Row w g 67 (keyC sd b v x)) (hR : Row w sd 23 (bcells s)) (hT : Tab 1 w) :
    Calls Tryd.prog 36 #[.pointer (some ⟨g, 0, none⟩), .int .i64 (i : Int)] w fun e w' => e = .returned (.agg (bcells (leafL s b i))) ∧ Below w.heap.size w w' := by
  have HC := Lib.hid (fun w hR hT => seedOf_any s i sd w hs hR hT)
  have HP := Lib.hid (fun w hT => Public_ok (ksL s i) b w (ksL_length s i) hb1 hb2 hT)
  have HL2 := Lib.hid (pubN_length (ksL s i) b)
  have HM := Lib.hid (fun A c w hD hT => Root_any A (pubN (ksL s i) b).length c (pubN (ksL s i) b) w hD hT (by rw [pubN_length]; omega))
  have HS := Lib.hid (show (bcells (leafL s b i)).size = 32 by rw [bcells_size, leafL_length])
  have hb0 := (Below.refl w.heap.size w).alloc (Nat.le_refl _) (.cells lit32 23)
  have HT0 := Lib.hid (hT.below hb0)
  have HK0 := Lib.hid (hK.alloc (.cells lit32 23))
  have HR0 := Lib.hid (hR.alloc (.cells lit32 23))
  have HZ := Lib.hid (Row.new w 23 lit32)
  have hgl := hK.lt
  have hsl := hR.lt
  unfold leafL at HS ⊢
  generalize ksL s i = Q at *
  generalize pubN Q b = B at *
  generalize rootL B = D at *
  clear hT hK hR
  obtain ⟨w0, hw0⟩ : ∃ w0, w.alloc (.cells lit32 23) = w0 := ⟨_, rfl⟩
  have hs0 : w.heap.size < w0.heap.size := by rw [← hw0]; simp
  rw [hw0] at HT0 HK0 HR0 HZ hb0
  go_enter Tryd.func36, Tryd.ntmps36
  go_wp2_with fail
  have B0 : Below w0.heap.size w0 w0.drew := (Below.refl w0.heap.size w0).drew
  have K0 := Lib.hid (HK0.out.below B0 (by omega))
  refine wp_region_noPanic ?_
  refine wp_region_held_drew (S := fun w' => Row w' g 67 (keyC sd b v x)) (by kernel_rfl) K0.out (fun hHeld => ?_)
  refine takeD (i := 0) (some 8) (.pointer (some ⟨g, 0, none⟩)) rfl rfl (by kernel_rfl) (by kernel_rfl) (by kernel_rfl) (fun _ _ _ h => h) (Or.inl ⟨by rfl, fun _ _ => rfl⟩) hHeld ?_
  simp only [Act.put, List.setIfInBounds_toArray, List.set_cons_zero, List.set_cons_succ]
  refine takeD (i := 1) (some 9) (.pointer (some ⟨g, 0, none⟩)) rfl rfl (by kernel_rfl) (by kernel_rfl) (by kernel_rfl) (fun _ _ _ h => h) (yields_nil (by rfl) (.tmp 8) rfl _ rfl) hHeld ?_
  simp only [Act.put, List.setIfInBounds_toArray, List.set_cons_zero, List.set_cons_succ]
  refine takeD (i := 2) (some 10) (.pointer (some ⟨g, 0, none⟩)) rfl rfl (by kernel_rfl) (by kernel_rfl) (by kernel_rfl) (fun _ _ _ h => h) (yields_fld67 (by rfl) (.tmp 9) 0 rfl (by decide) (g) rfl) hHeld ?_
  simp only [Act.put, List.setIfInBounds_toArray, List.set_cons_zero, List.set_cons_succ]
  refine takeD (i := 3) (some 11) (.func (.func 34) #[] #[.pointer (some ⟨sd, 0, none⟩)]) rfl rfl (by kernel_rfl) (by kernel_rfl) (by kernel_rfl) (fun _ _ _ h => h) (yields_cell (by rfl) 65 (.tmp 10) rfl (by decide) (g) (0) rfl _ (fun _ h => h.cell 0)) hHeld ?_
  simp only [Act.put, List.setIfInBounds_toArray, List.set_cons_zero, List.set_cons_succ]
  refine takeD (i := 4) (some 12) (.int .i64 (i : Int)) rfl rfl (by kernel_rfl) (by kernel_rfl) (by kernel_rfl) (fun _ _ _ h => h) (Or.inl ⟨by rfl, fun _ _ => rfl⟩) hHeld ?_
  simp only [Act.put, List.setIfInBounds_toArray, List.set_cons_zero, List.set_cons_succ]
  refine takeD (i := 6) (some 14) (.pointer (some ⟨g, 0, none⟩)) rfl rfl (by kernel_rfl) (by kernel_rfl) (by kernel_rfl) (fun _ _ _ h => h) (Or.inl ⟨by rfl, fun _ _ => rfl⟩) hHeld ?_
  simp only [Act.put, List.setIfInBounds_toArray, List.set_cons_zero, List.set_cons_succ]
  refine takeD (i := 7) (some 15) (.pointer (some ⟨g, 0, none⟩)) rfl rfl (by kernel_rfl) (by kernel_rfl) (by kernel_rfl) (fun _ _ _ h => h) (yields_nil (by rfl) (.tmp 14) rfl _ rfl) hHeld ?_
  simp only [Act.put, List.setIfInBounds_toArray, List.set_cons_zero, List.set_cons_succ]
  refine takeD (i := 8) (some 16) (.pointer (some ⟨g, 1, none⟩)) rfl rfl (by kernel_rfl) (by kernel_rfl) (by kernel_rfl) (fun _ _ _ h => h) (yields_fld67 (by rfl) (.tmp 15) 1 rfl (by decide) (g) rfl) hHeld ?_
  simp only [Act.put, List.setIfInBounds_toArray, List.set_cons_zero, List.set_cons_succ]
  refine takeD (i := 9) (some 17) (.int .i64 (b : Int)) rfl rfl (by kernel_rfl) (by kernel_rfl) (by kernel_rfl) (fun _ _ _ h => h) (yields_cell (by rfl) 3 (.tmp 16) rfl (by decide) (g) (1) rfl _ (fun _ h => h.cell 1)) hHeld ?_
  simp only [Act.put, List.setIfInBounds_toArray, List.set_cons_zero, List.set_cons_succ]
  refine wpAnyH_ready (rs := [5]) (by kernel_rfl) (by decide) ?_
  refine AllReadyH.cons rfl (fun K' hK => ?_) AllReadyH.nil
  go_simp
  refine (HC.out w0.drew (HR0.out.below B0 (by omega)) (HT0.out.below B0)).mono ?_
  rintro e3 w3 ⟨rfl, hb3⟩
  have B3 : Below w0.heap.size w0 w3 := B0.trans (hb3.mono B0.size)
  refine hK.out _ _ (HK0.out.below B3 (by omega)) (fun hHeld1 => ?_)
  clear hK
  (try simp only [Act.put, List.setIfInBounds_toArray, List.set_cons_zero, List.set_cons_succ])
  refine wpAnyH_ready (rs := [10]) (by kernel_rfl) (by decide) ?_
  refine AllReadyH.cons rfl (fun K' hK => ?_) AllReadyH.nil
  go_simp
  refine (HP.out w3 (HT0.out.below B3)).mono ?_
  rintro e4 w4 ⟨A4, c4, rfl, hc4, hd4, hb4⟩
  have HD4 := Lib.hid hd4
  have B4 : Below w0.heap.size w0 w4 := B3.trans (hb4.mono B3.size)
  clear hd4
  refine hK.out _ _ (HK0.out.below B4 (by omega)) (fun hHeld2 => ?_)
  clear hK
  (try simp only [Act.put, List.setIfInBounds_toArray, List.set_cons_zero, List.set_cons_succ])
  refine takeD (i := 11) (some 7) (.tuple #[.slice A4 B.length c4, .int .i64 0]) rfl rfl (by kernel_rfl) (by kernel_rfl) (by kernel_rfl) (fun _ _ _ h => h) (Or.inl ⟨by rfl, fun _ _ => rfl⟩) hHeld2 ?_
  simp only [Act.put, List.setIfInBounds_toArray, List.set_cons_zero, List.set_cons_succ]
  refine takeD (i := 12) (some 19) (.slice A4 B.length c4) rfl rfl (by kernel_rfl) (by kernel_rfl) (by kernel_rfl) (fun _ _ _ h => h) (Or.inl ⟨by rfl, fun _ _ => rfl⟩) hHeld2 ?_
  simp only [Act.put, List.setIfInBounds_toArray, List.set_cons_zero, List.set_cons_succ]
  refine takeD (i := 13) (some 20) (.int .i64 0) rfl rfl (by kernel_rfl) (by kernel_rfl) (by kernel_rfl) (fun _ _ _ h => h) (Or.inl ⟨by rfl, fun _ _ => rfl⟩) hHeld2 ?_
  simp only [Act.put, List.setIfInBounds_toArray, List.set_cons_zero, List.set_cons_succ]
  refine takeD (i := 14) (some 5) (.slice A4 B.length c4) rfl rfl (by kernel_rfl) (by kernel_rfl) (by kernel_rfl) (fun _ _ _ h => h) (Or.inl ⟨by rfl, fun _ _ => rfl⟩) hHeld2 ?_
  simp only [Act.put, List.setIfInBounds_toArray, List.set_cons_zero, List.set_cons_succ]
  refine takeD (i := 15) (some 6) (.int .i64 0) rfl rfl (by kernel_rfl) (by kernel_rfl) (by kernel_rfl) (fun _ _ _ h => h) (Or.inl ⟨by rfl, fun _ _ => rfl⟩) hHeld2 ?_
  simp only [Act.put, List.setIfInBounds_toArray, List.set_cons_zero, List.set_cons_succ]
  (try simp only [Act.put, List.setIfInBounds_toArray])
  refine wpAnyH_done (by kernel_rfl) ?_ _
  refine NoPanic.normal ?_
  have HT4 := Lib.hid (HT0.out.below B4)
  have HZ4 := Lib.hid (HZ.out.below B4 hs0)
  have hs4 := B4.size
  go_wp2_with (first
    | (go_at_call 66; refine (HM.out _ _ _ HD4.out HT4.out).mono ?_; rintro e5 w5 ⟨rfl, hb5⟩; have hs5 := hb5.size; have HZ5 := Lib.hid (HZ4.out.below hb5 (by omega)))
    | (with_reducible refine wpList_store_row Tryd.agg25 rfl (.tmp 4) (.tmp 22) rfl _ _ rfl rfl 23 lit32 HZ5.out HS.out lit32_size (bcells_one _) ?_; intro w9 hr9 ho9; have HR9 := Lib.hid hr9; clear hr9))
  refine bodyPost_ret (results_row1 Tryd.agg25 Tryd.results36 rfl HR9.out HS.out) rfl ⟨rfl, ?_⟩
  have b1 := (hb0.trans (B4.mono (by omega))).trans (hb5.mono (by omega))
  exact b1.trans (ho9.below (by omega) b1.size)
/-- a key: of the seed s, b bits, height h, the next index nx; all below T -/
def KeyAt (w : World) (T g : Nat) (s : List UInt8) (b h nx : Nat) : Prop :=
  ∃ sd lv, Row w g 67 (keyC sd b (.slice (some ⟨lv, 0, none⟩) (2 ^ h) (2 ^ h)) (.int .i64 (nx : Int))) ∧ Row w sd 23 (bcells s) ∧ Row w lv 23 (bcells (flat (leavesL s b (2 ^ h)))) ∧ sd ≠ g ∧ lv ≠ g ∧ g < T ∧ sd < T ∧ lv < T
theorem KeyAt.below {w w' : World} {T g : Nat} {s : List UInt8} {b h nx : Nat} (k : KeyAt w T g s b h nx) (hb : Below T w w') : KeyAt w' T g s b h nx := by
  obtain ⟨sd, lv, h1, h2, h3, h4, h5, h6, h7, h8⟩ := k
  exact ⟨sd, lv, h1.below hb h6, h2.below hb h7, h3.below hb h8, h4, h5, h6, h7, h8⟩
theorem KeyAt.only {w w' : World} {T g k : Nat} {s : List UInt8} {b h nx : Nat} (q : KeyAt w T g s b h nx) (ho : Only k w w') (hk : T ≤ k) : KeyAt w' T g s b h nx := by
  obtain ⟨sd, lv, h1, h2, h3, h4, h5, h6, h7, h8⟩ := q
  exact ⟨sd, lv, h1.only ho (by omega), h2.only ho (by omega), h3.only ho (by omega), h4, h5, h6, h7, h8⟩
theorem KeyAt.lt {w : World} {T g : Nat} {s : List UInt8} {b h nx : Nat} (k : KeyAt w T g s b h nx) : g < w.heap.size ∧ g < T := by
  obtain ⟨sd, lv, h1, h2, h3, h4, h5, h6, h7, h8⟩ := k
  exact ⟨h1.lt, h6⟩
theorem KeyAt.low {w : World} {T g : Nat} {s : List UInt8} {b h nx : Nat} (k : KeyAt w T g s b h nx) : KeyAt w w.heap.size g s b h nx := by
  obtain ⟨sd, lv, h1, h2, h3, h4, h5, h6, h7, h8⟩ := k
  exact ⟨sd, lv, h1, h2, h3, h4, h5, h1.lt, h2.lt, h3.lt⟩
/-- the leaves of a key -/
theorem leaves_ds {w : World} {lv : Nat} {s : List UInt8} {b n : Nat} (h : Row w lv 23 (bcells (flat (leavesL s b n)))) : Ds w (some ⟨lv, 0, none⟩) n (leavesL s b n) :=
  LevAt.ds (g := lv) ⟨leavesL_length s b n, leavesL_digs s b n, [], by rw [List.append_nil]; exact h⟩
def NewK (w : World) (s : List UInt8) (b h : Nat) (e : Ending) (w' : World) : Prop :=
  ∃ g, e = .returned (.tuple #[.pointer (some ⟨g, 0, none⟩), .int .i64 0]) ∧ w.heap.size ≤ g ∧ KeyAt w' w'.heap.size g s b h 0 ∧ Below w.heap.size w w'
set_option maxHeartbeats 1000000 in
theorem New_no (s : List UInt8) (b h : Int) (w : World) (k : okK b h = false) :
    Calls Tryd.prog 13 #[.agg (bcells s), .int .i64 b, .int .i64 h] w fun e w' => e = .returned (.tuple #[.pointer none, .int .i64 1]) ∧ Below w.heap.size w w' := by
  have HM := Lib.hid (fun w => show Calls Tryd.prog 33 #[.int .i64 b, .int .i64 h] w fun e w' => e = .returned (.bool false) ∧ w = w' by have q := kMay_any b h w; rw [k] at q; exact q)
  clear k
  go_enter Tryd.func13, Tryd.ntmps13
  go_wp2_with (go_at_call 33; refine (HM.out _).mono ?_; rintro e1 w1 ⟨rfl, rfl⟩)
  go_ret2
  exact ⟨rfl, (Below.refl _ _).alloc (Nat.le_refl _) _⟩
set_option maxRecDepth 100000 in
set_option maxHeartbeats 4000000 in
theorem New_ok (s : List UInt8) (b h : Nat) (w : World) (hs : s.length = 32) (h1 : 1 ≤ b) (h2 : b ≤ 256) (h3 : h ≤ 6) (hT : Tab 1 w) :
    Calls Tryd.prog 13 #[.agg (bcells s), .int .i64 (b : Int), .int .i64 (h : Int)] w (NewK w s b h) := by
  have HM := Lib.hid (fun w => show Calls Tryd.prog 33 #[.int .i64 (b : Int), .int .i64 (h : Int)] w fun e w' => e = .returned (.bool true) ∧ w = w' by have q := kMay_any b h w; rw [okK_of h1 h2 h3] at q; exact q)
  have hsh := wrap_pow (n := h) (by omega)
  have hp6 := pow_le6 h3
  unfold NewK KeyAt
  generalize 2 ^ h = n at *
  have hmk := run_madeD n n (n : Int) (n : Int) rfl rfl (Nat.le_refl _) (by omega)
  have hmf : ∀ (fn : Fn) (first cap : Array Value) (w : World), (Instr.makeFunc fn first cap).run Tryd.prog w = .ok (.func fn first cap) w := fun _ _ _ _ => rfl
  have HT := Lib.hid hT
  have hT1 := hT.1
  have HS := Lib.hid hs
  clear hT hs
  go_enter Tryd.func13, Tryd.ntmps13
  go_wp2_with (go_at_call 33; refine (HM.out _).mono ?_; rintro e1 w1 ⟨rfl, rfl⟩)
  go_loopw [10, 28] (fun _ i wr => ∃ m : Nat, m ≤ n ∧ i = .int .i64 (m : Int) ∧ Below w.heap.size w wr ∧ Row wr w.heap.size 23 (bcells s) ∧ Row wr (w.heap.size + 1) 23 (bcells (lvsR s b n m)) ∧ Row wr (w.heap.size + 1 + 1) 67 (keyC w.heap.size b (.slice (some ⟨w.heap.size + 1, 0, none⟩) n n) (.int .i64 0))) (fun _ i _ => n - (intOf i).toNat)
  case atStart =>
    refine ⟨0, Nat.zero_le _, rfl, (((Below.refl _ _).alloc (Nat.le_refl _) _).alloc (by simp) _).alloc (by simp <;> omega) _, ((Row.new w 23 _).alloc _).alloc _, ?_, Row.new2 w _ _ 67 _⟩
    rw [lvsR_zero]
    exact (Row.new1 w (.cells (bcells s) 23) 23 _).alloc _
  case round =>
    obtain ⟨m, hm, rfl, hbel, hrS, hrL, hrK⟩ := hrel
    have hbs := hbel.size
    have hkl := hrK.lt
    have HRS := Lib.hid hrS
    have HRL := Lib.hid hrL
    have HRK := Lib.hid hrK
    clear hrS hrL hrK hsh
    by_cases hlt : m < n
    · have him : (m : Int) < (n : Int) := by omega
      have HLF := Lib.hid (fun W hK hR hT => leaf_any (w.heap.size + 1 + 1) w.heap.size b m (.slice (some ⟨w.heap.size + 1, 0, none⟩) n n) (.int .i64 0) s W HS.out h1 h2 hK hR hT)
      have HTr := Lib.hid (HT.out.below hbel)
      have HD := Lib.hid (leafL_length s b m)
      have HST := Lib.hid (lvsR_step s b n m hlt)
      have HSZ := Lib.hid (show (bcells (lvsR s b n m)).size = n * 32 by rw [bcells_size, lvsR_length _ _ _ _ hm])
      generalize leafL s b m = D at *
      go_wp2_with fail
      have B0 : Below wr.heap.size wr wr.drew := (Below.refl wr.heap.size wr).drew
      have K0 := Lib.hid (HRK.out.below B0 hkl)
      refine wp_region_noPanic ?_
      refine wp_region_held_drew (S := fun w' => Row w' (w.heap.size + 1 + 1) 67 (keyC w.heap.size b (.slice (some ⟨w.heap.size + 1, 0, none⟩) n n) (.int .i64 0))) (by kernel_rfl) K0.out (fun hHeld => ?_)
      refine takeD (i := 0) (some 31) (.pointer (some ⟨w.heap.size + 1 + 1, 0, none⟩)) rfl rfl (by kernel_rfl) (by kernel_rfl) (by kernel_rfl) (fun _ _ _ h => h) (Or.inl ⟨by rfl, fun _ _ => rfl⟩) hHeld ?_
      simp only [Act.put, List.setIfInBounds_toArray, List.set_cons_zero, List.set_cons_succ]
      refine takeD (i := 1) (some 32) (.pointer (some ⟨w.heap.size + 1 + 1, 0, none⟩)) rfl rfl (by kernel_rfl) (by kernel_rfl) (by kernel_rfl) (fun _ _ _ h => h) (yields_nil (by rfl) (.tmp 31) rfl _ rfl) hHeld ?_
      simp only [Act.put, List.setIfInBounds_toArray, List.set_cons_zero, List.set_cons_succ]
      refine takeD (i := 2) (some 33) (.pointer (some ⟨w.heap.size + 1 + 1, 2, none⟩)) rfl rfl (by kernel_rfl) (by kernel_rfl) (by kernel_rfl) (fun _ _ _ h => h) (yields_fld67 (by rfl) (.tmp 32) 2 rfl (by decide) (w.heap.size + 1 + 1) rfl) hHeld ?_
      simp only [Act.put, List.setIfInBounds_toArray, List.set_cons_zero, List.set_cons_succ]
      refine takeD (i := 3) (some 34) (.slice (some ⟨w.heap.size + 1, 0, none⟩) n n) rfl rfl (by kernel_rfl) (by kernel_rfl) (by kernel_rfl) (fun _ _ _ h => h) (yields_cell (by rfl) 42 (.tmp 33) rfl (by decide) (w.heap.size + 1 + 1) (2) rfl _ (fun _ h => h.cell 2)) hHeld ?_
      simp only [Act.put, List.setIfInBounds_toArray, List.set_cons_zero, List.set_cons_succ]
      refine takeD (i := 4) (some 35) (.int .i64 (m : Int)) rfl rfl (by kernel_rfl) (by kernel_rfl) (by kernel_rfl) (fun _ _ _ h => h) (Or.inl ⟨by rfl, fun _ _ => rfl⟩) hHeld ?_
      simp only [Act.put, List.setIfInBounds_toArray, List.set_cons_zero, List.set_cons_succ]
      refine takeD (i := 5) (some 36) (.pointer (some ⟨w.heap.size + 1 + 1, 0, none⟩)) rfl rfl (by kernel_rfl) (by kernel_rfl) (by kernel_rfl) (fun _ _ _ h => h) (Or.inl ⟨by rfl, fun _ _ => rfl⟩) hHeld ?_
      simp only [Act.put, List.setIfInBounds_toArray, List.set_cons_zero, List.set_cons_succ]
      refine takeD (i := 6) (some 37) (.int .i64 (m : Int)) rfl rfl (by kernel_rfl) (by kernel_rfl) (by kernel_rfl) (fun _ _ _ h => h) (Or.inl ⟨by rfl, fun _ _ => rfl⟩) hHeld ?_
      simp only [Act.put, List.setIfInBounds_toArray, List.set_cons_zero, List.set_cons_succ]
      refine wpAnyH_ready (rs := [7]) (by kernel_rfl) (by decide) ?_
      refine AllReadyH.cons rfl (fun K' hK => ?_) AllReadyH.nil
      go_simp
      refine (HLF.out wr.drew (HRK.out.below B0 hkl) (HRS.out.below B0 (by omega)) (HTr.out.below B0)).mono ?_
      rintro e3 w3 ⟨rfl, hb3⟩
      have B3 : Below wr.heap.size wr w3 := B0.trans (hb3.mono B0.size)
      refine hK.out _ _ (HRK.out.below B3 hkl) (fun hHeld1 => ?_)
      clear hK
      (try simp only [Act.put, List.setIfInBounds_toArray, List.set_cons_zero, List.set_cons_succ])
      refine takeD (i := 8) (some 39) (.pointer (some ⟨w.heap.size + 1, 32 * m, none⟩)) rfl rfl (by kernel_rfl) (by kernel_rfl) (by kernel_rfl) (fun _ _ _ h => h) (yields_indexO rfl (.tmp 34) (.tmp 35) rfl (w.heap.size + 1) 0 n n m (32 * m) _ rfl rfl rfl hlt (by rw [Nat.zero_add])) hHeld1 ?_
      simp only [Act.put, List.setIfInBounds_toArray, List.set_cons_zero, List.set_cons_succ]
      refine wpAnyH_ready (rs := [9]) (by kernel_rfl) (by decide) ?_
      refine AllReadyH.cons rfl (fun K' hK => ?_) AllReadyH.nil
      refine step_of rfl (wp_storeD (.tmp 39) (.tmp 38) rfl (w.heap.size + 1) (32 * m) D rfl rfl 23 _ (HRL.out.below B3 (by omega)) HD.out (by rw [HSZ.out]; omega) ?_)
      intro w6 hr6 ho6
      rw [HST.out] at hr6
      have HR6 := Lib.hid hr6
      have hs3 := B3.size
      have HK6 := Lib.hid ((HRK.out.below B3 hkl).only ho6 (by omega))
      have HS6 := Lib.hid ((HRS.out.below B3 (by omega)).only ho6 (by omega))
      have B6 : Below w.heap.size w w6 := (hbel.trans (B3.mono hbs)).trans (ho6.below (by omega) (by omega))
      clear hr6
      refine hK.out _ _ HK6.out (fun hHeld2 => ?_)
      clear hK
      (try simp only [Act.put, List.setIfInBounds_toArray])
      refine wpAnyH_done (by kernel_rfl) ?_ _
      refine NoPanic.normal ?_
      go_wp2_with fail
      exact ⟨⟨m + 1, by omega, by go_num, B6, HS6.out, HR6.out, HK6.out⟩, by simp [intOf]; omega⟩
    · obtain rfl : n = m := by omega
      go_wp2_with fail
      go_ret2
      exact ⟨w.heap.size + 1 + 1, rfl, by omega, ⟨w.heap.size, w.heap.size + 1, HRK.out, HRS.out, by rw [← lvsR_all]; exact HRL.out, by omega, by omega, hkl, by omega, by omega⟩, hbel⟩
end Go.Proofs.YtfelmdndjdaniaaDoor
