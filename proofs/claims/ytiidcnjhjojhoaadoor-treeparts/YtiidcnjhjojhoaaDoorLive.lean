/-
  What is answered at whatever arguments, in one form each: tree.Root, Path, Climb; the laws' cut and awake. Laws for a region that draws its order.
-/
import Derived.Test.YtiidcnjhjojhoaaDoorClb
import Derived.Test.YtiidcnjhjojhoaaDoorKnown
namespace Go.Proofs.YtiidcnjhjojhoaaDoor
open Go.RowKit
def errT (n : Nat) : Int := if okT (n : Int) then 0 else 1
def rootI (L : List (List UInt8)) : List UInt8 := if okT (L.length : Int) then rootD (Nat.log2 L.length) L else zero32
def okP (n : Nat) (i : Int) : Bool := okT (n : Int) && (decide (0 ≤ i) && decide (i < (n : Int)))
def errP (n : Nat) (i : Int) : Int := if okP n i then 0 else 1
def pathI (L : List (List UInt8)) (i : Int) : List (List UInt8) := if okP L.length i then pathD (Nat.log2 L.length) L i.toNat else []
def okC (n : Nat) (i : Int) : Bool := decide (n ≤ 10) && (decide (0 ≤ i) && decide (i < ((2 ^ n : Nat) : Int)))
def errC (n : Nat) (i : Int) : Int := if okC n i then 0 else 1
def climbI (d : List UInt8) (i : Int) (P : List (List UInt8)) : List UInt8 := if okC P.length i then climbD d i.toNat P else zero32
theorem okT_log {n : Nat} (h : okT (n : Int) = true) : Nat.log2 n ≤ 10 ∧ n = 2 ^ Nat.log2 n := by
  obtain ⟨k, hk, rfl⟩ := okT_yes h
  rw [Nat.log2_two_pow]
  exact ⟨hk, rfl⟩
theorem rootI_length (L : List (List UInt8)) (h : Digs L) : (rootI L).length = 32 := by
  unfold rootI
  cases ho : okT (L.length : Int)
  · exact zero32_length
  · exact rootD_length _ L h (okT_log ho).2
theorem climbI_length (d : List UInt8) (i : Int) (P : List (List UInt8)) (h : d.length = 32) : (climbI d i P).length = 32 := by
  unfold climbI
  split
  · exact climbD_length _ _ _ h
  · exact zero32_length
theorem okP_yes {n : Nat} {i : Int} (h : okP n i = true) : okT (n : Int) = true ∧ ∃ j : Nat, i = (j : Int) ∧ j < n := by
  unfold okP at h
  simp only [Bool.and_eq_true, decide_eq_true_eq] at h
  exact ⟨h.1, i.toNat, by omega, by omega⟩
theorem okP_no {n : Nat} {i : Int} (h : okP n i = false) : okT (n : Int) = false ∨ i < 0 ∨ (n : Int) ≤ i := by
  unfold okP at h
  simp only [Bool.and_eq_false_iff, decide_eq_false_iff_not] at h
  rcases h with h | h | h
  · exact .inl h
  · exact .inr (.inl (by omega))
  · exact .inr (.inr (by omega))
theorem okC_yes {n : Nat} {i : Int} (h : okC n i = true) : n ≤ 10 ∧ ∃ j : Nat, i = (j : Int) ∧ j < 2 ^ n := by
  unfold okC at h
  simp only [Bool.and_eq_true, decide_eq_true_eq] at h
  exact ⟨h.1, i.toNat, by omega, by omega⟩
theorem pathI_length (L : List (List UInt8)) (i : Int) : (pathI L i).length ≤ 10 := by
  unfold pathI
  cases ho : okP L.length i
  · simp
  · rw [if_pos rfl, show (pathD (Nat.log2 L.length) L i.toNat).length = _ from pathT_length abL [] _ L _]
    exact (okT_log (okP_yes ho).1).1
theorem Root_any (A : Option Addr) (n c : Nat) (L : List (List UInt8)) (w : World) (hD : Ds w A n L) (hT : Tab 1 w) : Calls Tryd.prog 10 #[.slice A n c] w (RecD w (rootI L) (errT L.length)) := by
  unfold rootI errT
  have hl := hD.1
  cases ho : okT (L.length : Int)
  · exact Root_no A n c w (by rw [← hl]; exact ho)
  · obtain ⟨h1, h2⟩ := okT_log ho
    exact Root_ok (Nat.log2 L.length) A n c L w h1 (by rw [← h2]; exact hl.symm) hD hT
theorem Path_any (A : Option Addr) (n c : Nat) (i : Int) (L : List (List UInt8)) (w : World) (hD : Ds w A n L) (hT : Tab 1 w) : Calls Tryd.prog 15 #[.slice A n c, .int .i64 i] w (NewD w (pathI L i) (errP L.length i)) := by
  unfold pathI errP
  have hl := hD.1
  cases ho : okP L.length i
  · exact Path_no A n c i w (by rw [← hl]; exact okP_no ho)
  · obtain ⟨h0, j, rfl, hj⟩ := okP_yes ho
    obtain ⟨h1, h2⟩ := okT_log h0
    exact Path_ok (Nat.log2 L.length) A n c j L w h1 (by rw [← h2]; exact hl.symm) (by omega) hD hT
theorem Climb_any (d : List UInt8) (i : Int) (A : Option Addr) (n c : Nat) (P : List (List UInt8)) (w : World) (hd : d.length = 32) (hD : Ds w A n P) (hT : Tab 1 w) :
    Calls Tryd.prog 18 #[.agg (bcells d), .int .i64 i, .slice A n c] w (RecD w (climbI d i P) (errC P.length i)) := by
  unfold climbI errC
  have hl := hD.1
  rw [hl]
  cases ho : okC n i
  · by_cases h1 : n ≤ 10
    · by_cases h2 : i < 0
      · exact Climb_neg d A n c i w h1 h2
      · refine Climb_far d A n c i w h1 h2 ?_
        unfold okC at ho
        simp only [Bool.and_eq_false_iff, decide_eq_false_iff_not] at ho
        omega
    · exact Climb_long d A n c i w (by omega)
  · obtain ⟨h0, j, rfl, hj⟩ := okC_yes ho
    exact Climb_ok d A n c j P w hd h0 hj hD hT
/-- digests, as many as a power of two, at most 64, in new memory -/
def CutD (w : World) (e : Ending) (w' : World) : Prop :=
  ∃ (k m : Nat) (A : Option Addr) (c : Nat) (M : List (List UInt8)), k ≤ 6 ∧ m = 2 ^ k ∧ e = .returned (.slice A m c) ∧ m ≤ c ∧ Ds w' A m M ∧ Below w.heap.size w w'
set_option maxRecDepth 100000 in
set_option maxHeartbeats 1000000 in
theorem cut_none (A : Option Addr) (c : Nat) (w : World) : Calls Tryd.prog 20 #[.slice A 0 c] w (CutD w) := by
  go_enter Tryd.func20, Tryd.ntmps20
  go_wp2_with fail
  go_loop [3] (fun v => v = .int .i64 1) (fun _ => 0)
  case atStart => rfl
  case round =>
    subst hrel
    go_wp2_with fail
    go_ret
    refine ⟨0, 1, _, 1, [oneD 7], by omega, rfl, rfl, Nat.le_refl _, ⟨rfl, Digs.one (oneD_length 7), ?_⟩, (Below.refl _ _).alloc (Nat.le_refl _) _⟩
    have e : flat [oneD 7] = oneD 7 := by simp [flat]
    rw [e]
    exact (show Row _ _ 24 (bcells (oneD 7)) from Row.new w 24 _).bsB (oneD_length 7)
set_option maxRecDepth 100000 in
set_option maxHeartbeats 1000000 in
theorem cut_some (A : Option Addr) (n c : Nat) (L : List (List UInt8)) (w : World) (hn : 0 < n) (hc : n ≤ c) (hD : Ds w A n L) : Calls Tryd.prog 20 #[.slice A n c] w (CutD w) := by
  have hne : ((n : Int) == 0) = false := by simp; omega
  have HD := Lib.hid hD
  clear hD
  go_enter Tryd.func20, Tryd.ntmps20
  go_wp2_with fail
  go_loop [3] (fun v => ∃ j p : Nat, j ≤ 6 ∧ v = .int .i64 (p : Int) ∧ Hid (p = 2 ^ j) ∧ 0 < p ∧ p ≤ 64 ∧ p ≤ n) (fun v => 64 - (intOf v).toNat)
  case atStart => exact ⟨0, 1, by omega, rfl, Lib.hid rfl, by omega, by omega, by omega⟩
  case round =>
    obtain ⟨j, p, hj, rfl, HP, hp0, hp64, hpn⟩ := hrel
    by_cases h2 : 2 * p ≤ n
    · by_cases h3 : p < 64
      · have i0 : 2 * (p : Int) ≤ (n : Int) := by omega
        have i1 : (p : Int) < 64 := by omega
        have hj6 : j + 1 ≤ 6 := by
          rcases Nat.lt_or_ge j 6 with q | q
          · omega
          · obtain rfl : j = 6 := by omega
            have := HP.out; omega
        have hp32 : 2 * p ≤ 64 := by
          have q : 2 ^ (j + 1) ≤ 2 ^ 6 := Nat.pow_le_pow_right (by decide) hj6
          rw [Nat.pow_succ, ← HP.out] at q
          omega
        go_wp2_with fail
        go_round
        case rel => exact ⟨j + 1, 2 * p, hj6, by go_num, Lib.hid (by rw [HP.out, Nat.pow_succ]; omega), by omega, by omega, by omega⟩
        case measure => simp [intOf]; omega
      · have i0 : 2 * (p : Int) ≤ (n : Int) := by omega
        have i1 : ¬ (p : Int) < 64 := by omega
        go_wp2_with (first
          | (with_reducible refine wpList_headD rfl (.tmp 20) (.tmp 21) rfl A n c p _ rfl rfl rfl hpn hc ?_; intro A1 d1 _; have HA1 := Lib.hid (d1 w L HD.out); clear d1)
          | (go_at_call 11; refine (own_any A1 p c _ w HA1.out (by omega)).mono ?_; rintro e2 w2 ⟨A2, c2, rfl, hc2, hd2, hb2⟩))
        go_ret
        exact ⟨j, p, A2, c2, _, hj, HP.out, rfl, hc2, hd2, hb2⟩
    · have i0 : ¬ 2 * (p : Int) ≤ (n : Int) := by omega
      go_wp2_with (first
        | (with_reducible refine wpList_headD rfl (.tmp 20) (.tmp 21) rfl A n c p _ rfl rfl rfl hpn hc ?_; intro A1 d1 _; have HA1 := Lib.hid (d1 w L HD.out); clear d1)
        | (go_at_call 11; refine (own_any A1 p c _ w HA1.out (by omega)).mono ?_; rintro e2 w2 ⟨A2, c2, rfl, hc2, hd2, hb2⟩))
      go_ret
      exact ⟨j, p, A2, c2, _, hj, HP.out, rfl, hc2, hd2, hb2⟩
theorem cut_any (A : Option Addr) (n c : Nat) (L : List (List UInt8)) (w : World) (hc : n ≤ c) (hD : Ds w A n L) : Calls Tryd.prog 20 #[.slice A n c] w (CutD w) := by
  rcases Nat.eq_zero_or_pos n with h | h
  · subst h; exact cut_none A c w
  · exact cut_some A n c L w h hc hD
theorem yields_eqE {ops : Array Oper} {S : World → Prop} {o : Oper} {a : Act} (hw : Region.wanted o (yielded ops a.tmps) = true) (x y : Operand) (ho : o.op = .binOp .eql 26 x y 26) (p q : Int) (b : Bool)
    (hx : a.eval x = .int .i64 p) (hy : a.eval y = .int .i64 q) (hb : (p == q) = b) : YieldsIf Tryd.prog ops S o (.bool b) a :=
  .inl ⟨hw, fun w _ => by
    unfold execOp
    simp only [ho, hx, hy]
    go_simp⟩
theorem yields_neqX {ops : Array Oper} {S : World → Prop} {o : Oper} {a : Act} (hw : Region.wanted o (yielded ops a.tmps) = true) (x y : Operand) (ho : o.op = .binOp .neq 24 x y 24) (d r : List UInt8)
    (hx : a.eval x = .agg (bcells d)) (hy : a.eval y = .agg (bcells r)) (hd : d.length = 32) (hr : r.length = 32) (hb : decide (d = r) = false) : YieldsIf Tryd.prog ops S o (.bool true) a :=
  .inl ⟨hw, fun w _ => by
    have he := eqD d r hd hr w
    rw [hb] at he
    unfold execOp
    simp only [ho, hx, hy]
    go_simp⟩
theorem yields_zero {ops : Array Oper} {S : World → Prop} {o : Oper} {a : Act} (hw : Region.wanted o (yielded ops a.tmps) = true) (ho : o.op = .build 24 #[]) : YieldsIf Tryd.prog ops S o (.agg (bcells zero32)) a :=
  .inl ⟨hw, fun w _ => by
    unfold execOp
    simp only [ho]
    go_simp
    rfl⟩
/-- a digest's literal of one byte -/
theorem wpList_buildC {ops : Array Oper} {rest : List Oper} {o : Oper} {a : Act} {w : World} {Q : Exit → Act → World → Prop} (hgd : o.guard = none) (x : Value) (ho : o.op = .build 24 #[(0, .const x)]) (D : List UInt8) (hb : Tryd.prog.built 24 [(0, x)] = some (bcells D))
    (h : wpList Tryd.prog ops Q rest (a.put o.dst (.agg (bcells D))) w) : wpList Tryd.prog ops Q (o :: rest) a w := by
  have e : Tryd.prog.built 24 ((#[(0, Operand.const x)] : Array (Nat × Operand)).map fun (i, x) => (i, a.eval x)).toList = some (bcells D) := by rw [List.map_toArray]; exact hb
  refine wpList_build hgd 24 _ ho (by rw [e]; rfl) ?_
  rw [e]
  exact h
theorem built_1 : Tryd.prog.built 24 [(0, .int .u8 1)] = some (bcells (oneD 1)) := by kernel_rfl
theorem built_2 : Tryd.prog.built 24 [(0, .int .u8 2)] = some (bcells (oneD 2)) := by kernel_rfl
set_option maxRecDepth 100000 in
set_option maxHeartbeats 2000000 in
theorem awake_any (w : World) (hT : Tab 1 w) : Calls Tryd.prog 9 #[] w fun e w' => e = .returned (.bool true) ∧ Below w.heap.size w w' := by
  have HR := Lib.hid (fun A c w hD hT => show Calls Tryd.prog 10 #[.slice A 2 c] w (RecD w (abL (oneD 1) (oneD 2)) 0) from Root_ok 1 A 2 c [oneD 1, oneD 2] w (by omega) rfl hD hT)
  have HAB := Lib.hid (fun w hT => Above_any (oneD 1) (oneD 2) w (oneD_length 1) (oneD_length 2) hT)
  have HRL := Lib.hid (abL_length (oneD 1) (oneD 2))
  have HRS := Lib.hid (show (bcells (abL (oneD 1) (oneD 2))).size = 32 by rw [bcells_size, abL_length])
  have HNE : Hid (decide (abL (oneD 1) (oneD 2) = zero32) = false) := Lib.hid (by
    refine decide_eq_false fun q => ?_
    have h := awake_node
    rw [q] at h
    simp at h)
  have HL1 := Lib.hid (oneD_length 1)
  have HL2 := Lib.hid (oneD_length 2)
  have HS1 := Lib.hid (show (bcells (oneD 1)).size = 32 by rw [bcells_size, oneD_length])
  have HS2 := Lib.hid (show (bcells (oneD 2)).size = 32 by rw [bcells_size, oneD_length])
  have HT := Lib.hid hT
  generalize abL (oneD 1) (oneD 2) = R at *
  obtain ⟨P1, hP1⟩ : ∃ P, oneD 1 = P := ⟨_, rfl⟩
  obtain ⟨P2, hP2⟩ : ∃ P, oneD 2 = P := ⟨_, rfl⟩
  rw [hP1, hP2] at HR HAB
  rw [hP1] at HL1 HS1
  rw [hP2] at HL2 HS2
  have HP1 := Lib.hid hP1
  have HP2 := Lib.hid hP2
  clear hP1 hP2
  have HU1 := Lib.hid (show Tryd.prog.built 24 [(0, .int .u8 1)] = some (bcells P1) by rw [← HP1.out]; exact built_1)
  have HU2 := Lib.hid (show Tryd.prog.built 24 [(0, .int .u8 2)] = some (bcells P2) by rw [← HP2.out]; exact built_2)
  have hb0 := ((Below.refl w.heap.size w).alloc (Nat.le_refl _) (.cells lit32 24)).alloc (by simp) (.cells lit32 24)
  have HA0 := Lib.hid ((Row.new w 24 lit32).alloc (.cells lit32 24))
  have HB0 := Lib.hid (Row.new1 w (.cells lit32 24) 24 lit32)
  clear hT HP1 HP2
  go_enter Tryd.func9, Tryd.ntmps9
  go_wp2_with (first
    | (with_reducible refine wpList_buildC rfl _ rfl P1 HU1.out ?_)
    | (with_reducible refine wpList_buildC rfl _ rfl P2 HU2.out ?_)
    | (with_reducible refine wpList_store_row Tryd.agg25 rfl (.tmp 1) (.tmp 5) rfl _ _ rfl rfl 24 lit32 HA0.out HS1.out lit32_size (bcells_one _) ?_; intro w1 hr1 ho1; have HA1 := Lib.hid hr1; have hs1 := ho1.size; simp at hs1; have HB1 := Lib.hid (HB0.out.only ho1 (by omega)); have hb1 := hb0.trans (ho1.below (B := w.heap.size) (Nat.le_refl _) (by simp; omega)); clear hr1)
    | (with_reducible refine wpList_store_row Tryd.agg25 rfl (.tmp 2) (.tmp 6) rfl _ _ rfl rfl 24 lit32 HB1.out HS2.out lit32_size (bcells_one _) ?_; intro w2 hr2 ho2; have HB2 := Lib.hid hr2; have hs2 := ho2.size; have HA2 := Lib.hid (HA1.out.only ho2 (by omega)); have hb2 := hb1.trans (ho2.below (B := w.heap.size) (by omega) hb1.size); clear hr2)
    | (with_reducible refine wpList_load_row Tryd.agg25 rfl (.tmp 1) rfl _ rfl 24 _ HA2.out HS1.out ?_)
    | (with_reducible refine wpList_load_row Tryd.agg25 rfl (.tmp 2) rfl _ rfl 24 _ HB2.out HS2.out ?_)
    | (with_reducible refine wpList_buildD rfl (.tmp 8) (.tmp 9) rfl P1 P2 rfl rfl HL1.out HL2.out ?_; have hb3 := hb2.alloc hb2.size (.cells (bcells (P1 ++ P2)) 24); have HD3 := Lib.hid (two_ds w2 P1 P2 HL1.out HL2.out); have HA3 := Lib.hid (HA2.out.alloc (.cells (bcells (P1 ++ P2)) 24)); have HB3 := Lib.hid (HB2.out.alloc (.cells (bcells (P1 ++ P2)) 24)))
    | (go_at_call 10; refine (HR.out _ 2 _ HD3.out (HT.out.below hb3)).mono ?_; rintro e4 w4 ⟨rfl, hb4⟩; have hs4 := hb4.size; simp at hs4; have hb4' := hb3.trans (hb4.mono hb3.size); have HA4 := Lib.hid (HA3.out.below hb4 HA3.out.lt); have HB4 := Lib.hid (HB3.out.below hb4 HB3.out.lt))
    | (with_reducible refine wpList_store_row Tryd.agg25 rfl (.tmp 3) (.tmp 12) rfl _ _ rfl rfl 24 lit32 (Row.new w4 24 lit32) HRS.out lit32_size (bcells_one _) ?_; intro w5 hr5 ho5; have HC5 := Lib.hid hr5; have hs5 := ho5.size; simp at hs5; have HA5 := Lib.hid ((HA4.out.alloc (.cells lit32 24)).only ho5 (by have := HA4.out.lt; omega)); have HB5 := Lib.hid ((HB4.out.alloc (.cells lit32 24)).only ho5 (by have := HB4.out.lt; omega)); have hb5 := (hb4'.alloc hb4'.size (.cells lit32 24)).trans (ho5.below (B := w.heap.size) hb4'.size (by have := hb4'.size; simp; omega)); clear hr5))
  obtain ⟨gc, hgc⟩ : ∃ g, g = w4.heap.size := ⟨_, rfl⟩
  rw [← hgc] at HC5 ⊢
  clear hgc
  have B0 : Below w5.heap.size w5 w5.drew := (Below.refl w5.heap.size w5).drew
  have KP : Hid (∀ wq, Below w5.heap.size w5 wq → wq.rangeAt gc 0 (R.map bcell) ∧ wq.rangeAt w.heap.size 0 (P1.map bcell) ∧ wq.rangeAt (w.heap.size + 1) 0 (P2.map bcell)) := Lib.hid (fun wq hb => ⟨range_row (HC5.out.below hb HC5.out.lt), range_row (HA5.out.below hb HA5.out.lt), range_row (HB5.out.below hb HB5.out.lt)⟩)
  refine wp_region_noPanic ?_
  refine wp_region_held_drew (S := fun w' => w'.rangeAt gc 0 (R.map bcell) ∧ w'.rangeAt w.heap.size 0 (P1.map bcell) ∧ w'.rangeAt (w.heap.size + 1) 0 (P2.map bcell)) (by kernel_rfl) (KP.out _ B0) (fun hHeld => ?_)
  refine takeD (i := 0) (some 14) (.int .i64 0) rfl rfl (by kernel_rfl) (by kernel_rfl) (by kernel_rfl) (fun _ _ _ h => h) (Or.inl ⟨by rfl, fun _ _ => rfl⟩) hHeld ?_
  simp only [Act.put, List.setIfInBounds_toArray, List.set_cons_zero, List.set_cons_succ]
  refine takeD (i := 1) (some 15) (.bool true) rfl rfl (by kernel_rfl) (by kernel_rfl) (by kernel_rfl) (fun _ _ _ h => h) (yields_eqE (by rfl) (.tmp 14) _ rfl 0 0 true rfl rfl rfl) hHeld ?_
  simp only [Act.put, List.setIfInBounds_toArray, List.set_cons_zero, List.set_cons_succ]
  refine takeD (i := 2) (some 16) (.bool true) rfl rfl (by kernel_rfl) (by kernel_rfl) (by kernel_rfl) (fun _ _ _ h => h) (Or.inl ⟨by rfl, fun _ _ => rfl⟩) hHeld ?_
  simp only [Act.put, List.setIfInBounds_toArray, List.set_cons_zero, List.set_cons_succ]
  refine takeD (i := 3) (some 17) (.agg (bcells R)) rfl rfl (by kernel_rfl) (by kernel_rfl) (by kernel_rfl) (fun _ _ _ h => h) (yields_loadW (by rfl) (.tmp 3) rfl gc 0 R rfl (fun _ h => h.1) HRL.out) hHeld ?_
  simp only [Act.put, List.setIfInBounds_toArray, List.set_cons_zero, List.set_cons_succ]
  refine takeD (i := 4) (some 18) (.agg (bcells P1)) rfl rfl (by kernel_rfl) (by kernel_rfl) (by kernel_rfl) (fun _ _ _ h => h) (yields_loadW (by rfl) (.tmp 1) rfl _ 0 P1 rfl (fun _ h => h.2.1) HL1.out) hHeld ?_
  simp only [Act.put, List.setIfInBounds_toArray, List.set_cons_zero, List.set_cons_succ]
  refine takeD (i := 5) (some 19) (.agg (bcells P2)) rfl rfl (by kernel_rfl) (by kernel_rfl) (by kernel_rfl) (fun _ _ _ h => h) (yields_loadW (by rfl) (.tmp 2) rfl _ 0 P2 rfl (fun _ h => h.2.2) HL2.out) hHeld ?_
  simp only [Act.put, List.setIfInBounds_toArray, List.set_cons_zero, List.set_cons_succ]
  refine wpAnyH_ready (rs := [6]) (by kernel_rfl) (by decide) ?_
  refine AllReadyH.cons rfl (fun K' hK => ?_) AllReadyH.nil
  go_simp
  refine (HAB.out w5.drew (HT.out.below hb5.drew)).mono ?_
  rintro e6 w6 ⟨rfl, hb6⟩
  have B6 : Below w5.heap.size w5 w6 := B0.trans (hb6.mono B0.size)
  refine hK.out _ _ (KP.out _ B6) (fun hHeld6 => ?_)
  clear hK
  (try simp only [Act.put, List.setIfInBounds_toArray, List.set_cons_zero, List.set_cons_succ])
  refine takeD (i := 7) (some 21) (.bool true) rfl rfl (by kernel_rfl) (by kernel_rfl) (by kernel_rfl) (fun _ _ _ h => h) (yields_eqlW (by rfl) (.tmp 17) (.tmp 20) rfl R R true rfl rfl HRL.out HRL.out (by simp)) hHeld6 ?_
  simp only [Act.put, List.setIfInBounds_toArray, List.set_cons_zero, List.set_cons_succ]
  refine takeD (i := 8) (some 22) (.bool true) rfl rfl (by kernel_rfl) (by kernel_rfl) (by kernel_rfl) (fun _ _ _ h => h) (Or.inl ⟨by rfl, fun _ _ => rfl⟩) hHeld6 ?_
  simp only [Act.put, List.setIfInBounds_toArray, List.set_cons_zero, List.set_cons_succ]
  refine takeD (i := 9) (some 23) (.bool true) rfl rfl (by kernel_rfl) (by kernel_rfl) (by kernel_rfl) (fun _ _ _ h => h) (Or.inl ⟨by rfl, fun _ _ => rfl⟩) hHeld6 ?_
  simp only [Act.put, List.setIfInBounds_toArray, List.set_cons_zero, List.set_cons_succ]
  refine takeD (i := 10) (some 24) (.agg (bcells R)) rfl rfl (by kernel_rfl) (by kernel_rfl) (by kernel_rfl) (fun _ _ _ h => h) (yields_loadW (by rfl) (.tmp 3) rfl gc 0 R rfl (fun _ h => h.1) HRL.out) hHeld6 ?_
  simp only [Act.put, List.setIfInBounds_toArray, List.set_cons_zero, List.set_cons_succ]
  refine takeD (i := 11) (some 25) (.agg (bcells zero32)) rfl rfl (by kernel_rfl) (by kernel_rfl) (by kernel_rfl) (fun _ _ _ h => h) (yields_zero (by rfl) rfl) hHeld6 ?_
  simp only [Act.put, List.setIfInBounds_toArray, List.set_cons_zero, List.set_cons_succ]
  refine takeD (i := 12) (some 26) (.bool true) rfl rfl (by kernel_rfl) (by kernel_rfl) (by kernel_rfl) (fun _ _ _ h => h) (yields_neqX (by rfl) (.tmp 24) (.tmp 25) rfl R zero32 rfl rfl HRL.out zero32_length HNE.out) hHeld6 ?_
  simp only [Act.put, List.setIfInBounds_toArray, List.set_cons_zero, List.set_cons_succ]
  refine takeD (i := 13) (some 27) (.bool true) rfl rfl (by kernel_rfl) (by kernel_rfl) (by kernel_rfl) (fun _ _ _ h => h) (Or.inl ⟨by rfl, fun _ _ => rfl⟩) hHeld6 ?_
  simp only [Act.put, List.setIfInBounds_toArray, List.set_cons_zero, List.set_cons_succ]
  refine takeD (i := 14) (some 0) (.bool true) rfl rfl (by kernel_rfl) (by kernel_rfl) (by kernel_rfl) (fun _ _ _ h => h) (Or.inl ⟨by rfl, fun _ _ => rfl⟩) hHeld6 ?_
  simp only [Act.put, List.setIfInBounds_toArray, List.set_cons_zero]
  (try simp only [Act.put, List.setIfInBounds_toArray])
  refine wpAnyH_done (by kernel_rfl) ?_ _
  refine NoPanic.normal ?_
  go_wp2_with fail
  go_ret
  exact ⟨rfl, hb5.trans (B6.mono hb5.size)⟩
end Go.Proofs.YtiidcnjhjojhoaaDoor
