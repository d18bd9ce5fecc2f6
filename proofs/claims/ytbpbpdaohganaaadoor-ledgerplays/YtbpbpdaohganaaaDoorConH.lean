/-
  What proof.Consistent answers of a beginning that is no power of two.
-/
import Derived.Test.YtbpbpdaohganaaaDoorConS
namespace Go.Proofs.YtbpbpdaohganaaaDoor
open Go.RowKit
set_option maxRecDepth 100000 in
set_option maxHeartbeats 2000000 in
theorem Con_high (d r : List UInt8) (i n t q : Nat) (A : Option Addr) (m c : Nat) (P : List (List UInt8)) (w : World) (hd : d.length = 32) (hr : r.length = 32) (hm : m ≤ 1024) (hc : m + 1 ≤ c) (h1 : 1 ≤ i) (hi : i < n) (hn : n ≤ 9223372036854775807) (hq : i = (2 * q + 1) * 2 ^ t) (hq0 : q ≠ 0) (x : List UInt8) (hD : Ds w A (m + 1) (x :: P)) (hB : TabB w) (hT : Tab 1 w) :
    Calls Tryd.prog 29 #[.int .i64 (i : Int), .int .i64 (n : Int), .slice A (m + 1) c, .agg (bcells d), .agg (bcells r)] w fun e w' => e = .returned (.bool (decide (leadsR nodeL d i n true (x :: P).reverse = some (d, r)))) ∧ Below w.heap.size w w' := by
  have i0 : ¬ (i : Int) < 0 := by omega
  have i1 : ¬ (n : Int) < (i : Int) := by omega
  have i2 : ((i : Int) == 0) = false := by simp; omega
  have i3 : ((i : Int) == (n : Int)) = false := by simp; omega
  have e1 : IntKind.u64.wrap (i : Int) = (i : Int) := by
    simp [IntKind.wrap, IntKind.bits, IntKind.signed]
    omega
  have HTZ := Lib.hid (fun w hB => TZ_any t q i w hq (by omega) hB)
  have ht : t ≤ 63 := by
    by_cases hc : t ≤ 63
    · exact hc
    · have h1 : 2 ^ 64 ≤ 2 ^ t := Nat.pow_le_pow_right (by decide) (by omega)
      have h2 : 2 ^ t ≤ i := by rw [hq]; exact Nat.le_mul_of_pos_left _ (by omega)
      omega
  obtain ⟨I, hI⟩ : ∃ I, i - 1 = I := ⟨_, rfl⟩
  obtain ⟨N, hN⟩ : ∃ N, n - 1 = N := ⟨_, rfl⟩
  have e2 : IntKind.i64.wrap ((i : Int) - 1) = (I : Int) := by rw [IntKind.wrap_i64]; omega
  have e3 : IntKind.i64.wrap ((n : Int) - 1) = (N : Int) := by rw [IntKind.wrap_i64]; omega
  have hIq : I / 2 ^ t = 2 * q := by
    have hp : 0 < 2 ^ t := Nat.pos_of_ne_zero (by simp)
    have e : I = 2 ^ t * (2 * q) + (2 ^ t - 1) := by
      rw [← hI, hq, Nat.mul_comm, Nat.mul_add]; omega
    rw [e, Nat.mul_add_div hp, Nat.div_eq_of_lt (by omega), Nat.add_zero]
  have e4 : (I : Int) / 2 ^ t = ((2 * q : Nat) : Int) := by rw [div_pow, hIq]
  have e5 : (N : Int) / 2 ^ t = ((N / 2 ^ t : Nat) : Int) := div_pow N t
  have hNb : N / 2 ^ t ≤ N := Nat.div_le_self _ _
  have hle : 2 * q ≤ N / 2 ^ t := by rw [← hIq]; exact Nat.div_le_div_right (by omega)
  have hS : upS nodeL d (2 * q) (N / 2 ^ t) (x :: P) = leadsR nodeL d i n true (x :: P).reverse := by
    rw [← up_leads nodeL h1 hi d (x :: P), hN, hI, ← upS_strips nodeL d (x :: P) (2 * q) t N]
    congr 1
    have hp : 0 < 2 ^ t := Nat.pos_of_ne_zero (by simp)
    rw [← hI, hq, Nat.add_mul, Nat.one_mul]
  obtain ⟨last, hlast⟩ : ∃ x, N / 2 ^ t = x := ⟨_, rfl⟩
  rw [hlast] at e5 hNb hle hS
  have hl63 : last < 9223372036854775808 := by omega
  have hpl : 0 < ((2 * q : Nat) : Int) := by omega
  have hpl2 : 0 < q := by omega
  have hle0 : ((m : Int) + 1 == 0) = false := by simp; omega
  have hle1 : (((m + 1 : Nat) : Int) == 0) = false := by simp; omega
  have hSe : leadsR nodeL d i n true (x :: P).reverse = upC nodeL (2 * q) last (x, x) P := by rw [← hS, upS_even nodeL d (x :: P) (by omega) (by omega)]
  rw [hSe]
  clear hSe
  obtain ⟨b, off, y, rfl, hbk, hy, hyl, hBy⟩ := hD.get (k := 0) (by omega)
  obtain rfl : x = y := by simpa using hy
  obtain ⟨o1, ho1⟩ : ∃ o, off + 32 * 0 = o := ⟨_, rfl⟩
  rw [ho1] at hBy
  have HO1x := Lib.hid ho1
  have KX := Lib.hid (fun wq (hb : Below w.heap.size w wq) => (hBy.below hb).range)
  have HXL := Lib.hid hyl
  have HNS := Lib.hid (show (bcells x).size = 32 by rw [bcells_size, hyl])
  obtain ⟨A3, r3, d3, _⟩ := cutD_from (some ⟨b, off, none⟩) (m + 1) c 1 (1 : Int) rfl (by omega) hc
  have hD3 := d3 w _ hD
  rw [Nat.add_sub_cancel] at r3 hD3
  obtain ⟨c3, hc3⟩ : ∃ c3, c - 1 = c3 := ⟨_, rfl⟩
  rw [hc3] at r3
  have HR3 := Lib.hid r3
  have hD4 : Ds w A3 m P := hD3
  have HC := Lib.hid (fun w' (hb : Below w.heap.size w w') hT => show Calls Tryd.prog 41 #[.agg (bcells x), .int .i64 ((2 * q : Nat) : Int), .int .i64 (last : Int), .slice A3 m c3] w' (ClimbR w' (upC nodeL (2 * q) last (x, x) P)) from climb_any x (2 * q) last A3 m c3 P w' hyl hm (by omega) hle hl63 (hD4.below hb) hT)
  generalize upC nodeL (2 * q) last (x, x) P = U at *
  have hbx : b < w.heap.size := hbk
  have HDS := Lib.hid (show (bcells d).size = 32 by rw [bcells_size, hd])
  have HDL := Lib.hid hd
  have HRL := Lib.hid hr
  have hb0 := ((Below.refl w.heap.size w).alloc (Nat.le_refl _) (.cells (bcells d) 46)).alloc (by simp) (.cells (bcells r) 46)
  have HO0 := Lib.hid ((Row.new w 46 (bcells d)).alloc (.cells (bcells r) 46))
  have HR0 := Lib.hid (Row.new1 w (.cells (bcells d) 46) 46 (bcells r))
  obtain ⟨wz, hwz⟩ : ∃ wz, (w.alloc (.cells (bcells d) 46)).alloc (.cells (bcells r) 46) = wz := ⟨_, rfl⟩
  rw [hwz] at hb0 HO0 HR0
  have HE2x := Lib.hid e2
  have HE3x := Lib.hid e3
  have HE4x := Lib.hid e4
  have HE5x := Lib.hid e5
  have HB := Lib.hid hB
  have HT := Lib.hid hT
  have HL63 := Lib.hid hl63
  have HLE := Lib.hid hle
  clear hd hr hm h1 hi hn hq hD hB hT hI hN e2 e3 hIq e4 e5 hNb hle hS hlast hl63 hq0 hbk hy hyl hBy ho1 r3 d3 hD3 hc3 hD4
  cases U with
  | none =>
    have hdec : decide ((none : Option (List UInt8 × List UInt8)) = some (d, r)) = false := rfl
    rw [hdec]
    clear hdec
    go_enter Tryd.func29, Tryd.ntmps29
    go_wp2_with (go_at_call 45; refine (HTZ.out _ (HB.out.below hb0)).mono ?_; rintro e4x w4 ⟨rfl, rfl⟩)
    refine wp_region_noPanic ?_
    refine wp_region_held_drew (S := fun w' => True) (by kernel_rfl) trivial (fun hHeld => ?_)
    refine takeD (i := 0) (some 50) (.int .i64 (i : Int)) rfl rfl (by kernel_rfl) (by kernel_rfl) (by kernel_rfl) (fun _ _ _ h => h) (Or.inl ⟨by rfl, fun _ _ => rfl⟩) hHeld ?_
    simp only [Act.put, List.setIfInBounds_toArray, List.set_cons_zero, List.set_cons_succ]
    refine takeD (i := 1) (some 51) (.int .i64 (I : Int)) rfl rfl (by kernel_rfl) (by kernel_rfl) (by kernel_rfl) (fun _ _ _ h => h) (yields_subL rfl (.tmp 50) _ rfl _ _ _ rfl rfl HE2x.out) hHeld ?_
    simp only [Act.put, List.setIfInBounds_toArray, List.set_cons_zero, List.set_cons_succ]
    refine takeD (i := 2) (some 52) (.int .i64 (t : Int)) rfl rfl (by kernel_rfl) (by kernel_rfl) (by kernel_rfl) (fun _ _ _ h => h) (Or.inl ⟨by rfl, fun _ _ => rfl⟩) hHeld ?_
    simp only [Act.put, List.setIfInBounds_toArray, List.set_cons_zero, List.set_cons_succ]
    refine takeD (i := 3) (some 53) (.int .i64 ((2 * q : Nat) : Int)) rfl rfl (by kernel_rfl) (by kernel_rfl) (by kernel_rfl) (fun _ _ _ h => h) (yields_shr rfl (.tmp 51) (.tmp 52) rfl _ _ _ rfl rfl (by omega) HE4x.out) hHeld ?_
    simp only [Act.put, List.setIfInBounds_toArray, List.set_cons_zero, List.set_cons_succ]
    refine takeD (i := 4) (some 54) (.int .i64 (n : Int)) rfl rfl (by kernel_rfl) (by kernel_rfl) (by kernel_rfl) (fun _ _ _ h => h) (Or.inl ⟨by rfl, fun _ _ => rfl⟩) hHeld ?_
    simp only [Act.put, List.setIfInBounds_toArray, List.set_cons_zero, List.set_cons_succ]
    refine takeD (i := 5) (some 55) (.int .i64 (N : Int)) rfl rfl (by kernel_rfl) (by kernel_rfl) (by kernel_rfl) (fun _ _ _ h => h) (yields_subL rfl (.tmp 54) _ rfl _ _ _ rfl rfl HE3x.out) hHeld ?_
    simp only [Act.put, List.setIfInBounds_toArray, List.set_cons_zero, List.set_cons_succ]
    refine takeD (i := 6) (some 56) (.int .i64 (t : Int)) rfl rfl (by kernel_rfl) (by kernel_rfl) (by kernel_rfl) (fun _ _ _ h => h) (Or.inl ⟨by rfl, fun _ _ => rfl⟩) hHeld ?_
    simp only [Act.put, List.setIfInBounds_toArray, List.set_cons_zero, List.set_cons_succ]
    refine takeD (i := 7) (some 57) (.int .i64 (last : Int)) rfl rfl (by kernel_rfl) (by kernel_rfl) (by kernel_rfl) (fun _ _ _ h => h) (yields_shr rfl (.tmp 55) (.tmp 56) rfl _ _ _ rfl rfl (by omega) HE5x.out) hHeld ?_
    simp only [Act.put, List.setIfInBounds_toArray, List.set_cons_zero, List.set_cons_succ]
    refine takeD (i := 8) (some 12) (.int .i64 ((2 * q : Nat) : Int)) rfl rfl (by kernel_rfl) (by kernel_rfl) (by kernel_rfl) (fun _ _ _ h => h) (Or.inl ⟨by rfl, fun _ _ => rfl⟩) hHeld ?_
    simp only [Act.put, List.setIfInBounds_toArray, List.set_cons_zero, List.set_cons_succ]
    refine takeD (i := 9) (some 13) (.int .i64 (last : Int)) rfl rfl (by kernel_rfl) (by kernel_rfl) (by kernel_rfl) (fun _ _ _ h => h) (Or.inl ⟨by rfl, fun _ _ => rfl⟩) hHeld ?_
    simp only [Act.put, List.setIfInBounds_toArray, List.set_cons_zero, List.set_cons_succ]
    (try simp only [Act.put, List.setIfInBounds_toArray])
    refine wpAnyH_done (by kernel_rfl) ?_ _
    refine NoPanic.normal ?_
    have BZ : Below wz.heap.size wz wz.drew := (Below.refl wz.heap.size wz).drew
    have hb1 := hb0.trans (BZ.mono hb0.size)
    have HO1 := Lib.hid (HO0.out.below BZ HO0.out.lt)
    have HR1 := Lib.hid (HR0.out.below BZ HR0.out.lt)
    clear hwz
    generalize wz.drew = wd at *
    have hgd : w.heap.size + 1 < wd.heap.size := HR1.out.lt
    go_wp2_with (first
      | (with_reducible refine wpList_load_row Tryd.agg25 rfl (.tmp 8) rfl _ rfl 46 _ HO1.out HDS.out ?_)
      | (with_reducible refine wpList_store_row Tryd.agg25 rfl (.tmp 14) (.tmp 58) rfl _ _ rfl rfl 46 lit32 (Row.new wd 46 lit32) HDS.out lit32_size (bcells_one _) ?_; intro w5 hr5 ho5; have HN5 := Lib.hid hr5; have b5 : Below wd.heap.size wd w5 := ((Below.refl _ _).alloc (Nat.le_refl _) _).trans (ho5.below (Nat.le_refl _) (by simp)); have hb5 := hb1.trans (b5.mono hb1.size); have HO5 := Lib.hid (HO1.out.below b5 HO1.out.lt); have HR5 := Lib.hid (HR1.out.below b5 HR1.out.lt); clear hr5))
    obtain ⟨g14, hg14⟩ : ∃ g, g = wd.heap.size := ⟨_, rfl⟩
    rw [← hg14] at HN5 ⊢
    have hg14w : w.heap.size + 1 < g14 := by omega
    clear hg14
    have B14 : Below w5.heap.size w5 w5.drew := (Below.refl w5.heap.size w5).drew
    have hb5d := hb5.trans (B14.mono hb5.size)
    have HN5d := Lib.hid (HN5.out.below B14 HN5.out.lt)
    have HO5d := Lib.hid (HO5.out.below B14 HO5.out.lt)
    have HR5d := Lib.hid (HR5.out.below B14 HR5.out.lt)
    refine wp_region_noPanic ?_
    refine wp_region_held_drew (S := fun w' => w'.rangeAt b o1 (x.map bcell)) (by kernel_rfl) (KX.out _ hb5d) (fun hHeld => ?_)
    refine takeD (i := 0) (some 64) (.slice (some ⟨b, off, none⟩) (m + 1) c) rfl rfl (by kernel_rfl) (by kernel_rfl) (by kernel_rfl) (fun _ _ _ h => h) (Or.inl ⟨by rfl, fun _ _ => rfl⟩) hHeld ?_
    simp only [Act.put, List.setIfInBounds_toArray, List.set_cons_zero, List.set_cons_succ]
    refine takeD (i := 1) (some 65) (.pointer (some ⟨b, o1, none⟩)) rfl rfl (by kernel_rfl) (by kernel_rfl) (by kernel_rfl) (fun _ _ _ h => h) (yields_indexO rfl (.tmp 64) _ rfl b off _ _ 0 o1 _ rfl rfl rfl (by omega) HO1x.out) hHeld ?_
    simp only [Act.put, List.setIfInBounds_toArray, List.set_cons_zero, List.set_cons_succ]
    refine takeD (i := 2) (some 66) (.agg (bcells x)) rfl rfl (by kernel_rfl) (by kernel_rfl) (by kernel_rfl) (fun _ _ _ h => h) (yields_loadW (by rfl) (.tmp 65) rfl b o1 x rfl (fun _ h => h) HXL.out) hHeld ?_
    simp only [Act.put, List.setIfInBounds_toArray, List.set_cons_zero, List.set_cons_succ]
    refine takeD (i := 3) (some 67) (.slice (some ⟨b, off, none⟩) (m + 1) c) rfl rfl (by kernel_rfl) (by kernel_rfl) (by kernel_rfl) (fun _ _ _ h => h) (Or.inl ⟨by rfl, fun _ _ => rfl⟩) hHeld ?_
    simp only [Act.put, List.setIfInBounds_toArray, List.set_cons_zero, List.set_cons_succ]
    refine takeD (i := 4) (some 68) (.slice A3 m c3) rfl rfl (by kernel_rfl) (by kernel_rfl) (by kernel_rfl) (fun _ _ _ h => h) (yields_sliceF rfl (.tmp 67) _ rfl (.slice (some ⟨b, off, none⟩) (m + 1) c) (.int .i64 1) _ rfl rfl HR3.out) hHeld ?_
    simp only [Act.put, List.setIfInBounds_toArray, List.set_cons_zero, List.set_cons_succ]
    refine wpAnyH_ready (rs := [5]) (by kernel_rfl) (by decide) ?_
    refine AllReadyH.cons rfl (fun K' hK => ?_) AllReadyH.nil
    refine step_store_row Tryd.agg25 rfl (.tmp 14) (.tmp 66) rfl _ _ rfl rfl 46 (bcells d) HN5d.out HNS.out HDS.out (bcells_one _) ?_
    intro w6 hr6 ho6
    have HN6 := Lib.hid hr6
    have HO6 := Lib.hid (HO5d.out.only ho6 (by omega))
    have HR6 := Lib.hid (HR5d.out.only ho6 (by omega))
    have hb6 := hb5d.trans (ho6.below (B := w.heap.size) (by omega) hb5d.size)
    clear hr6
    refine hK.out _ _ (KX.out _ hb6) (fun hHeld6 => ?_)
    clear hK
    refine takeD (i := 6) (some 2) (.slice A3 m c3) rfl rfl (by kernel_rfl) (by kernel_rfl) (by kernel_rfl) (fun _ _ _ h => h) (Or.inl ⟨by rfl, fun _ _ => rfl⟩) hHeld6 ?_
    (try simp only [Act.put, List.setIfInBounds_toArray])
    refine wpAnyH_done (by kernel_rfl) ?_ _
    refine NoPanic.normal ?_
    go_wp2_with (first
      | (with_reducible refine wpList_load_row Tryd.agg25 rfl (.tmp 14) rfl _ rfl 46 _ HN6.out HNS.out ?_)
      | (go_at_call 41; refine (HC.out w6 hb6 (HT.out.below hb6)).mono ?_; rintro e7 w7 ⟨f, a, is, rfl, hf, ha, hres, hb7⟩; obtain rfl : is = false := hres; have HFS := Lib.hid (show (bcells f).size = 32 by rw [bcells_size, hf]); have HAS := Lib.hid (show (bcells a).size = 32 by rw [bcells_size, ha]); have HFL := Lib.hid hf; have HAL := Lib.hid ha; have HO7 := Lib.hid (HO6.out.below hb7 HO6.out.lt); have HR7 := Lib.hid (HR6.out.below hb7 HR6.out.lt); have hb7' := hb6.trans (hb7.mono hb6.size); have hg7 : w.heap.size + 1 < w7.heap.size := HR7.out.lt; clear hf ha)
      | (with_reducible refine wpList_store_row Tryd.agg25 rfl (.tmp 15) (.tmp 75) rfl _ _ rfl rfl 46 lit32 ((Row.new w7 46 lit32).alloc (.cells lit32 46)) HFS.out lit32_size (bcells_one _) ?_; intro w8 hr8 ho8; have HF8 := Lib.hid hr8; have HA8 := Lib.hid ((Row.new1 w7 (.cells lit32 46) 46 lit32).only ho8 (by omega)); have HO8 := Lib.hid (((HO7.out.alloc (.cells lit32 46)).alloc (.cells lit32 46)).only ho8 (by omega)); have HR8 := Lib.hid (((HR7.out.alloc (.cells lit32 46)).alloc (.cells lit32 46)).only ho8 (by omega)); have hb8 := ((hb7'.alloc hb7'.size (.cells lit32 46)).alloc (by have := hb7'.size; simp; omega) (.cells lit32 46)).trans (ho8.below (B := w.heap.size) (by omega) (by have := hb7'.size; simp; omega)); clear hr8)
      | (with_reducible refine wpList_store_row Tryd.agg25 rfl (.tmp 16) (.tmp 76) rfl _ _ rfl rfl 46 lit32 HA8.out HAS.out lit32_size (bcells_one _) ?_; intro w9 hr9 ho9; have HA9 := Lib.hid hr9; have HF9 := Lib.hid (HF8.out.only ho9 (by omega)); have HO9 := Lib.hid (HO8.out.only ho9 (by omega)); have HR9 := Lib.hid (HR8.out.only ho9 (by omega)); have hb9 := hb8.trans (ho9.below (B := w.heap.size) (by omega) hb8.size); clear hr9))
    go_ret
    exact ⟨rfl, hb9⟩
  | some v =>
    obtain ⟨f0, a0⟩ := v
    by_cases hfo : d = f0
    · subst hfo
      have hdec : decide (some (d, a0) = some (d, r)) = decide (a0 = r) := by simp
      rw [hdec]
      clear hdec
      obtain ⟨q2, hq2⟩ : ∃ q, decide (a0 = r) = q := ⟨_, rfl⟩
      rw [hq2]
      have HE1 := Lib.hid (eq_digest d HDL.out)
      have HE2 := Lib.hid (fun (ha : a0.length = 32) w => (eqD a0 r ha HRL.out w).trans (by rw [hq2]))
      clear hq2
      go_enter Tryd.func29, Tryd.ntmps29
      go_wp2_with (go_at_call 45; refine (HTZ.out _ (HB.out.below hb0)).mono ?_; rintro e4x w4 ⟨rfl, rfl⟩)
      refine wp_region_noPanic ?_
      refine wp_region_held_drew (S := fun w' => True) (by kernel_rfl) trivial (fun hHeld => ?_)
      refine takeD (i := 0) (some 50) (.int .i64 (i : Int)) rfl rfl (by kernel_rfl) (by kernel_rfl) (by kernel_rfl) (fun _ _ _ h => h) (Or.inl ⟨by rfl, fun _ _ => rfl⟩) hHeld ?_
      simp only [Act.put, List.setIfInBounds_toArray, List.set_cons_zero, List.set_cons_succ]
      refine takeD (i := 1) (some 51) (.int .i64 (I : Int)) rfl rfl (by kernel_rfl) (by kernel_rfl) (by kernel_rfl) (fun _ _ _ h => h) (yields_subL rfl (.tmp 50) _ rfl _ _ _ rfl rfl HE2x.out) hHeld ?_
      simp only [Act.put, List.setIfInBounds_toArray, List.set_cons_zero, List.set_cons_succ]
      refine takeD (i := 2) (some 52) (.int .i64 (t : Int)) rfl rfl (by kernel_rfl) (by kernel_rfl) (by kernel_rfl) (fun _ _ _ h => h) (Or.inl ⟨by rfl, fun _ _ => rfl⟩) hHeld ?_
      simp only [Act.put, List.setIfInBounds_toArray, List.set_cons_zero, List.set_cons_succ]
      refine takeD (i := 3) (some 53) (.int .i64 ((2 * q : Nat) : Int)) rfl rfl (by kernel_rfl) (by kernel_rfl) (by kernel_rfl) (fun _ _ _ h => h) (yields_shr rfl (.tmp 51) (.tmp 52) rfl _ _ _ rfl rfl (by omega) HE4x.out) hHeld ?_
      simp only [Act.put, List.setIfInBounds_toArray, List.set_cons_zero, List.set_cons_succ]
      refine takeD (i := 4) (some 54) (.int .i64 (n : Int)) rfl rfl (by kernel_rfl) (by kernel_rfl) (by kernel_rfl) (fun _ _ _ h => h) (Or.inl ⟨by rfl, fun _ _ => rfl⟩) hHeld ?_
      simp only [Act.put, List.setIfInBounds_toArray, List.set_cons_zero, List.set_cons_succ]
      refine takeD (i := 5) (some 55) (.int .i64 (N : Int)) rfl rfl (by kernel_rfl) (by kernel_rfl) (by kernel_rfl) (fun _ _ _ h => h) (yields_subL rfl (.tmp 54) _ rfl _ _ _ rfl rfl HE3x.out) hHeld ?_
      simp only [Act.put, List.setIfInBounds_toArray, List.set_cons_zero, List.set_cons_succ]
      refine takeD (i := 6) (some 56) (.int .i64 (t : Int)) rfl rfl (by kernel_rfl) (by kernel_rfl) (by kernel_rfl) (fun _ _ _ h => h) (Or.inl ⟨by rfl, fun _ _ => rfl⟩) hHeld ?_
      simp only [Act.put, List.setIfInBounds_toArray, List.set_cons_zero, List.set_cons_succ]
      refine takeD (i := 7) (some 57) (.int .i64 (last : Int)) rfl rfl (by kernel_rfl) (by kernel_rfl) (by kernel_rfl) (fun _ _ _ h => h) (yields_shr rfl (.tmp 55) (.tmp 56) rfl _ _ _ rfl rfl (by omega) HE5x.out) hHeld ?_
      simp only [Act.put, List.setIfInBounds_toArray, List.set_cons_zero, List.set_cons_succ]
      refine takeD (i := 8) (some 12) (.int .i64 ((2 * q : Nat) : Int)) rfl rfl (by kernel_rfl) (by kernel_rfl) (by kernel_rfl) (fun _ _ _ h => h) (Or.inl ⟨by rfl, fun _ _ => rfl⟩) hHeld ?_
      simp only [Act.put, List.setIfInBounds_toArray, List.set_cons_zero, List.set_cons_succ]
      refine takeD (i := 9) (some 13) (.int .i64 (last : Int)) rfl rfl (by kernel_rfl) (by kernel_rfl) (by kernel_rfl) (fun _ _ _ h => h) (Or.inl ⟨by rfl, fun _ _ => rfl⟩) hHeld ?_
      simp only [Act.put, List.setIfInBounds_toArray, List.set_cons_zero, List.set_cons_succ]
      (try simp only [Act.put, List.setIfInBounds_toArray])
      refine wpAnyH_done (by kernel_rfl) ?_ _
      refine NoPanic.normal ?_
      have BZ : Below wz.heap.size wz wz.drew := (Below.refl wz.heap.size wz).drew
      have hb1 := hb0.trans (BZ.mono hb0.size)
      have HO1 := Lib.hid (HO0.out.below BZ HO0.out.lt)
      have HR1 := Lib.hid (HR0.out.below BZ HR0.out.lt)
      clear hwz
      generalize wz.drew = wd at *
      have hgd : w.heap.size + 1 < wd.heap.size := HR1.out.lt
      go_wp2_with (first
        | (with_reducible refine wpList_load_row Tryd.agg25 rfl (.tmp 8) rfl _ rfl 46 _ HO1.out HDS.out ?_)
        | (with_reducible refine wpList_store_row Tryd.agg25 rfl (.tmp 14) (.tmp 58) rfl _ _ rfl rfl 46 lit32 (Row.new wd 46 lit32) HDS.out lit32_size (bcells_one _) ?_; intro w5 hr5 ho5; have HN5 := Lib.hid hr5; have b5 : Below wd.heap.size wd w5 := ((Below.refl _ _).alloc (Nat.le_refl _) _).trans (ho5.below (Nat.le_refl _) (by simp)); have hb5 := hb1.trans (b5.mono hb1.size); have HO5 := Lib.hid (HO1.out.below b5 HO1.out.lt); have HR5 := Lib.hid (HR1.out.below b5 HR1.out.lt); clear hr5))
      obtain ⟨g14, hg14⟩ : ∃ g, g = wd.heap.size := ⟨_, rfl⟩
      rw [← hg14] at HN5 ⊢
      have hg14w : w.heap.size + 1 < g14 := by omega
      clear hg14
      have B14 : Below w5.heap.size w5 w5.drew := (Below.refl w5.heap.size w5).drew
      have hb5d := hb5.trans (B14.mono hb5.size)
      have HN5d := Lib.hid (HN5.out.below B14 HN5.out.lt)
      have HO5d := Lib.hid (HO5.out.below B14 HO5.out.lt)
      have HR5d := Lib.hid (HR5.out.below B14 HR5.out.lt)
      refine wp_region_noPanic ?_
      refine wp_region_held_drew (S := fun w' => w'.rangeAt b o1 (x.map bcell)) (by kernel_rfl) (KX.out _ hb5d) (fun hHeld => ?_)
      refine takeD (i := 0) (some 64) (.slice (some ⟨b, off, none⟩) (m + 1) c) rfl rfl (by kernel_rfl) (by kernel_rfl) (by kernel_rfl) (fun _ _ _ h => h) (Or.inl ⟨by rfl, fun _ _ => rfl⟩) hHeld ?_
      simp only [Act.put, List.setIfInBounds_toArray, List.set_cons_zero, List.set_cons_succ]
      refine takeD (i := 1) (some 65) (.pointer (some ⟨b, o1, none⟩)) rfl rfl (by kernel_rfl) (by kernel_rfl) (by kernel_rfl) (fun _ _ _ h => h) (yields_indexO rfl (.tmp 64) _ rfl b off _ _ 0 o1 _ rfl rfl rfl (by omega) HO1x.out) hHeld ?_
      simp only [Act.put, List.setIfInBounds_toArray, List.set_cons_zero, List.set_cons_succ]
      refine takeD (i := 2) (some 66) (.agg (bcells x)) rfl rfl (by kernel_rfl) (by kernel_rfl) (by kernel_rfl) (fun _ _ _ h => h) (yields_loadW (by rfl) (.tmp 65) rfl b o1 x rfl (fun _ h => h) HXL.out) hHeld ?_
      simp only [Act.put, List.setIfInBounds_toArray, List.set_cons_zero, List.set_cons_succ]
      refine takeD (i := 3) (some 67) (.slice (some ⟨b, off, none⟩) (m + 1) c) rfl rfl (by kernel_rfl) (by kernel_rfl) (by kernel_rfl) (fun _ _ _ h => h) (Or.inl ⟨by rfl, fun _ _ => rfl⟩) hHeld ?_
      simp only [Act.put, List.setIfInBounds_toArray, List.set_cons_zero, List.set_cons_succ]
      refine takeD (i := 4) (some 68) (.slice A3 m c3) rfl rfl (by kernel_rfl) (by kernel_rfl) (by kernel_rfl) (fun _ _ _ h => h) (yields_sliceF rfl (.tmp 67) _ rfl (.slice (some ⟨b, off, none⟩) (m + 1) c) (.int .i64 1) _ rfl rfl HR3.out) hHeld ?_
      simp only [Act.put, List.setIfInBounds_toArray, List.set_cons_zero, List.set_cons_succ]
      refine wpAnyH_ready (rs := [5]) (by kernel_rfl) (by decide) ?_
      refine AllReadyH.cons rfl (fun K' hK => ?_) AllReadyH.nil
      refine step_store_row Tryd.agg25 rfl (.tmp 14) (.tmp 66) rfl _ _ rfl rfl 46 (bcells d) HN5d.out HNS.out HDS.out (bcells_one _) ?_
      intro w6 hr6 ho6
      have HN6 := Lib.hid hr6
      have HO6 := Lib.hid (HO5d.out.only ho6 (by omega))
      have HR6 := Lib.hid (HR5d.out.only ho6 (by omega))
      have hb6 := hb5d.trans (ho6.below (B := w.heap.size) (by omega) hb5d.size)
      clear hr6
      refine hK.out _ _ (KX.out _ hb6) (fun hHeld6 => ?_)
      clear hK
      refine takeD (i := 6) (some 2) (.slice A3 m c3) rfl rfl (by kernel_rfl) (by kernel_rfl) (by kernel_rfl) (fun _ _ _ h => h) (Or.inl ⟨by rfl, fun _ _ => rfl⟩) hHeld6 ?_
      (try simp only [Act.put, List.setIfInBounds_toArray])
      refine wpAnyH_done (by kernel_rfl) ?_ _
      refine NoPanic.normal ?_
      go_wp2_with (first
        | (with_reducible refine wpList_load_row Tryd.agg25 rfl (.tmp 14) rfl _ rfl 46 _ HN6.out HNS.out ?_)
        | (go_at_call 41; refine (HC.out w6 hb6 (HT.out.below hb6)).mono ?_; rintro e7 w7 ⟨f, a, is, rfl, hf, ha, hres, hb7⟩; obtain ⟨rfl, hva⟩ := hres; injection hva with hva1 hva2; subst hva1 hva2; have HFS := Lib.hid (show (bcells d).size = 32 by rw [bcells_size, hf]); have HAS := Lib.hid (show (bcells a0).size = 32 by rw [bcells_size, ha]); have HFL := Lib.hid hf; have HAL := Lib.hid ha; have HO7 := Lib.hid (HO6.out.below hb7 HO6.out.lt); have HR7 := Lib.hid (HR6.out.below hb7 HR6.out.lt); have hb7' := hb6.trans (hb7.mono hb6.size); have hg7 : w.heap.size + 1 < w7.heap.size := HR7.out.lt; clear hf ha)
        | (with_reducible refine wpList_store_row Tryd.agg25 rfl (.tmp 15) (.tmp 75) rfl _ _ rfl rfl 46 lit32 ((Row.new w7 46 lit32).alloc (.cells lit32 46)) HFS.out lit32_size (bcells_one _) ?_; intro w8 hr8 ho8; have HF8 := Lib.hid hr8; have HA8 := Lib.hid ((Row.new1 w7 (.cells lit32 46) 46 lit32).only ho8 (by omega)); have HO8 := Lib.hid (((HO7.out.alloc (.cells lit32 46)).alloc (.cells lit32 46)).only ho8 (by omega)); have HR8 := Lib.hid (((HR7.out.alloc (.cells lit32 46)).alloc (.cells lit32 46)).only ho8 (by omega)); have hb8 := ((hb7'.alloc hb7'.size (.cells lit32 46)).alloc (by have := hb7'.size; simp; omega) (.cells lit32 46)).trans (ho8.below (B := w.heap.size) (by omega) (by have := hb7'.size; simp; omega)); clear hr8)
        | (with_reducible refine wpList_store_row Tryd.agg25 rfl (.tmp 16) (.tmp 76) rfl _ _ rfl rfl 46 lit32 HA8.out HAS.out lit32_size (bcells_one _) ?_; intro w9 hr9 ho9; have HA9 := Lib.hid hr9; have HF9 := Lib.hid (HF8.out.only ho9 (by omega)); have HO9 := Lib.hid (HO8.out.only ho9 (by omega)); have HR9 := Lib.hid (HR8.out.only ho9 (by omega)); have hb9 := hb8.trans (ho9.below (B := w.heap.size) (by omega) hb8.size); clear hr9)
        | (with_reducible refine wpList_loadG (by with_unfolding_all rfl) (.tmp 15) rfl _ 0 d rfl (range_row HF9.out) HFL.out ?_; have heqa := HE1.out)
        | (with_reducible refine wpList_loadG (by with_unfolding_all rfl) (.tmp 8) rfl _ 0 d rfl (range_row HO9.out) HDL.out ?_)
        | (with_reducible refine wpList_loadG (by with_unfolding_all rfl) (.tmp 16) rfl _ 0 a0 rfl (range_row HA9.out) HAL.out ?_; have heqb := HE2.out HAL.out)
        | (with_reducible refine wpList_loadG (by with_unfolding_all rfl) (.tmp 9) rfl _ 0 r rfl (range_row HR9.out) HRL.out ?_))
      go_ret
      exact ⟨rfl, hb9⟩
    · have hdec : decide (some (f0, a0) = some (d, r)) = false := by
        refine decide_eq_false fun h => hfo ?_
        injection h with h
        injection h with h1 h2
        exact h1.symm
      rw [hdec]
      have hfd : decide (f0 = d) = false := decide_eq_false fun h => hfo h.symm
      have HE0 := Lib.hid (fun (hf : f0.length = 32) w => (eqD f0 d hf HDL.out w).trans (by rw [hfd]))
      clear hdec hfo hfd
      go_enter Tryd.func29, Tryd.ntmps29
      go_wp2_with (go_at_call 45; refine (HTZ.out _ (HB.out.below hb0)).mono ?_; rintro e4x w4 ⟨rfl, rfl⟩)
      refine wp_region_noPanic ?_
      refine wp_region_held_drew (S := fun w' => True) (by kernel_rfl) trivial (fun hHeld => ?_)
      refine takeD (i := 0) (some 50) (.int .i64 (i : Int)) rfl rfl (by kernel_rfl) (by kernel_rfl) (by kernel_rfl) (fun _ _ _ h => h) (Or.inl ⟨by rfl, fun _ _ => rfl⟩) hHeld ?_
      simp only [Act.put, List.setIfInBounds_toArray, List.set_cons_zero, List.set_cons_succ]
      refine takeD (i := 1) (some 51) (.int .i64 (I : Int)) rfl rfl (by kernel_rfl) (by kernel_rfl) (by kernel_rfl) (fun _ _ _ h => h) (yields_subL rfl (.tmp 50) _ rfl _ _ _ rfl rfl HE2x.out) hHeld ?_
      simp only [Act.put, List.setIfInBounds_toArray, List.set_cons_zero, List.set_cons_succ]
      refine takeD (i := 2) (some 52) (.int .i64 (t : Int)) rfl rfl (by kernel_rfl) (by kernel_rfl) (by kernel_rfl) (fun _ _ _ h => h) (Or.inl ⟨by rfl, fun _ _ => rfl⟩) hHeld ?_
      simp only [Act.put, List.setIfInBounds_toArray, List.set_cons_zero, List.set_cons_succ]
      refine takeD (i := 3) (some 53) (.int .i64 ((2 * q : Nat) : Int)) rfl rfl (by kernel_rfl) (by kernel_rfl) (by kernel_rfl) (fun _ _ _ h => h) (yields_shr rfl (.tmp 51) (.tmp 52) rfl _ _ _ rfl rfl (by omega) HE4x.out) hHeld ?_
      simp only [Act.put, List.setIfInBounds_toArray, List.set_cons_zero, List.set_cons_succ]
      refine takeD (i := 4) (some 54) (.int .i64 (n : Int)) rfl rfl (by kernel_rfl) (by kernel_rfl) (by kernel_rfl) (fun _ _ _ h => h) (Or.inl ⟨by rfl, fun _ _ => rfl⟩) hHeld ?_
      simp only [Act.put, List.setIfInBounds_toArray, List.set_cons_zero, List.set_cons_succ]
      refine takeD (i := 5) (some 55) (.int .i64 (N : Int)) rfl rfl (by kernel_rfl) (by kernel_rfl) (by kernel_rfl) (fun _ _ _ h => h) (yields_subL rfl (.tmp 54) _ rfl _ _ _ rfl rfl HE3x.out) hHeld ?_
      simp only [Act.put, List.setIfInBounds_toArray, List.set_cons_zero, List.set_cons_succ]
      refine takeD (i := 6) (some 56) (.int .i64 (t : Int)) rfl rfl (by kernel_rfl) (by kernel_rfl) (by kernel_rfl) (fun _ _ _ h => h) (Or.inl ⟨by rfl, fun _ _ => rfl⟩) hHeld ?_
      simp only [Act.put, List.setIfInBounds_toArray, List.set_cons_zero, List.set_cons_succ]
      refine takeD (i := 7) (some 57) (.int .i64 (last : Int)) rfl rfl (by kernel_rfl) (by kernel_rfl) (by kernel_rfl) (fun _ _ _ h => h) (yields_shr rfl (.tmp 55) (.tmp 56) rfl _ _ _ rfl rfl (by omega) HE5x.out) hHeld ?_
      simp only [Act.put, List.setIfInBounds_toArray, List.set_cons_zero, List.set_cons_succ]
      refine takeD (i := 8) (some 12) (.int .i64 ((2 * q : Nat) : Int)) rfl rfl (by kernel_rfl) (by kernel_rfl) (by kernel_rfl) (fun _ _ _ h => h) (Or.inl ⟨by rfl, fun _ _ => rfl⟩) hHeld ?_
      simp only [Act.put, List.setIfInBounds_toArray, List.set_cons_zero, List.set_cons_succ]
      refine takeD (i := 9) (some 13) (.int .i64 (last : Int)) rfl rfl (by kernel_rfl) (by kernel_rfl) (by kernel_rfl) (fun _ _ _ h => h) (Or.inl ⟨by rfl, fun _ _ => rfl⟩) hHeld ?_
      simp only [Act.put, List.setIfInBounds_toArray, List.set_cons_zero, List.set_cons_succ]
      (try simp only [Act.put, List.setIfInBounds_toArray])
      refine wpAnyH_done (by kernel_rfl) ?_ _
      refine NoPanic.normal ?_
      have BZ : Below wz.heap.size wz wz.drew := (Below.refl wz.heap.size wz).drew
      have hb1 := hb0.trans (BZ.mono hb0.size)
      have HO1 := Lib.hid (HO0.out.below BZ HO0.out.lt)
      have HR1 := Lib.hid (HR0.out.below BZ HR0.out.lt)
      clear hwz
      generalize wz.drew = wd at *
      have hgd : w.heap.size + 1 < wd.heap.size := HR1.out.lt
      go_wp2_with (first
        | (with_reducible refine wpList_load_row Tryd.agg25 rfl (.tmp 8) rfl _ rfl 46 _ HO1.out HDS.out ?_)
        | (with_reducible refine wpList_store_row Tryd.agg25 rfl (.tmp 14) (.tmp 58) rfl _ _ rfl rfl 46 lit32 (Row.new wd 46 lit32) HDS.out lit32_size (bcells_one _) ?_; intro w5 hr5 ho5; have HN5 := Lib.hid hr5; have b5 : Below wd.heap.size wd w5 := ((Below.refl _ _).alloc (Nat.le_refl _) _).trans (ho5.below (Nat.le_refl _) (by simp)); have hb5 := hb1.trans (b5.mono hb1.size); have HO5 := Lib.hid (HO1.out.below b5 HO1.out.lt); have HR5 := Lib.hid (HR1.out.below b5 HR1.out.lt); clear hr5))
      obtain ⟨g14, hg14⟩ : ∃ g, g = wd.heap.size := ⟨_, rfl⟩
      rw [← hg14] at HN5 ⊢
      have hg14w : w.heap.size + 1 < g14 := by omega
      clear hg14
      have B14 : Below w5.heap.size w5 w5.drew := (Below.refl w5.heap.size w5).drew
      have hb5d := hb5.trans (B14.mono hb5.size)
      have HN5d := Lib.hid (HN5.out.below B14 HN5.out.lt)
      have HO5d := Lib.hid (HO5.out.below B14 HO5.out.lt)
      have HR5d := Lib.hid (HR5.out.below B14 HR5.out.lt)
      refine wp_region_noPanic ?_
      refine wp_region_held_drew (S := fun w' => w'.rangeAt b o1 (x.map bcell)) (by kernel_rfl) (KX.out _ hb5d) (fun hHeld => ?_)
      refine takeD (i := 0) (some 64) (.slice (some ⟨b, off, none⟩) (m + 1) c) rfl rfl (by kernel_rfl) (by kernel_rfl) (by kernel_rfl) (fun _ _ _ h => h) (Or.inl ⟨by rfl, fun _ _ => rfl⟩) hHeld ?_
      simp only [Act.put, List.setIfInBounds_toArray, List.set_cons_zero, List.set_cons_succ]
      refine takeD (i := 1) (some 65) (.pointer (some ⟨b, o1, none⟩)) rfl rfl (by kernel_rfl) (by kernel_rfl) (by kernel_rfl) (fun _ _ _ h => h) (yields_indexO rfl (.tmp 64) _ rfl b off _ _ 0 o1 _ rfl rfl rfl (by omega) HO1x.out) hHeld ?_
      simp only [Act.put, List.setIfInBounds_toArray, List.set_cons_zero, List.set_cons_succ]
      refine takeD (i := 2) (some 66) (.agg (bcells x)) rfl rfl (by kernel_rfl) (by kernel_rfl) (by kernel_rfl) (fun _ _ _ h => h) (yields_loadW (by rfl) (.tmp 65) rfl b o1 x rfl (fun _ h => h) HXL.out) hHeld ?_
      simp only [Act.put, List.setIfInBounds_toArray, List.set_cons_zero, List.set_cons_succ]
      refine takeD (i := 3) (some 67) (.slice (some ⟨b, off, none⟩) (m + 1) c) rfl rfl (by kernel_rfl) (by kernel_rfl) (by kernel_rfl) (fun _ _ _ h => h) (Or.inl ⟨by rfl, fun _ _ => rfl⟩) hHeld ?_
      simp only [Act.put, List.setIfInBounds_toArray, List.set_cons_zero, List.set_cons_succ]
      refine takeD (i := 4) (some 68) (.slice A3 m c3) rfl rfl (by kernel_rfl) (by kernel_rfl) (by kernel_rfl) (fun _ _ _ h => h) (yields_sliceF rfl (.tmp 67) _ rfl (.slice (some ⟨b, off, none⟩) (m + 1) c) (.int .i64 1) _ rfl rfl HR3.out) hHeld ?_
      simp only [Act.put, List.setIfInBounds_toArray, List.set_cons_zero, List.set_cons_succ]
      refine wpAnyH_ready (rs := [5]) (by kernel_rfl) (by decide) ?_
      refine AllReadyH.cons rfl (fun K' hK => ?_) AllReadyH.nil
      refine step_store_row Tryd.agg25 rfl (.tmp 14) (.tmp 66) rfl _ _ rfl rfl 46 (bcells d) HN5d.out HNS.out HDS.out (bcells_one _) ?_
      intro w6 hr6 ho6
      have HN6 := Lib.hid hr6
      have HO6 := Lib.hid (HO5d.out.only ho6 (by omega))
      have HR6 := Lib.hid (HR5d.out.only ho6 (by omega))
      have hb6 := hb5d.trans (ho6.below (B := w.heap.size) (by omega) hb5d.size)
      clear hr6
      refine hK.out _ _ (KX.out _ hb6) (fun hHeld6 => ?_)
      clear hK
      refine takeD (i := 6) (some 2) (.slice A3 m c3) rfl rfl (by kernel_rfl) (by kernel_rfl) (by kernel_rfl) (fun _ _ _ h => h) (Or.inl ⟨by rfl, fun _ _ => rfl⟩) hHeld6 ?_
      (try simp only [Act.put, List.setIfInBounds_toArray])
      refine wpAnyH_done (by kernel_rfl) ?_ _
      refine NoPanic.normal ?_
      go_wp2_with (first
        | (with_reducible refine wpList_load_row Tryd.agg25 rfl (.tmp 14) rfl _ rfl 46 _ HN6.out HNS.out ?_)
        | (go_at_call 41; refine (HC.out w6 hb6 (HT.out.below hb6)).mono ?_; rintro e7 w7 ⟨f, a, is, rfl, hf, ha, hres, hb7⟩; obtain ⟨rfl, hva⟩ := hres; injection hva with hva1 hva2; subst hva1 hva2; have HFS := Lib.hid (show (bcells f0).size = 32 by rw [bcells_size, hf]); have HAS := Lib.hid (show (bcells a0).size = 32 by rw [bcells_size, ha]); have HFL := Lib.hid hf; have HAL := Lib.hid ha; have HO7 := Lib.hid (HO6.out.below hb7 HO6.out.lt); have HR7 := Lib.hid (HR6.out.below hb7 HR6.out.lt); have hb7' := hb6.trans (hb7.mono hb6.size); have hg7 : w.heap.size + 1 < w7.heap.size := HR7.out.lt; clear hf ha)
        | (with_reducible refine wpList_store_row Tryd.agg25 rfl (.tmp 15) (.tmp 75) rfl _ _ rfl rfl 46 lit32 ((Row.new w7 46 lit32).alloc (.cells lit32 46)) HFS.out lit32_size (bcells_one _) ?_; intro w8 hr8 ho8; have HF8 := Lib.hid hr8; have HA8 := Lib.hid ((Row.new1 w7 (.cells lit32 46) 46 lit32).only ho8 (by omega)); have HO8 := Lib.hid (((HO7.out.alloc (.cells lit32 46)).alloc (.cells lit32 46)).only ho8 (by omega)); have HR8 := Lib.hid (((HR7.out.alloc (.cells lit32 46)).alloc (.cells lit32 46)).only ho8 (by omega)); have hb8 := ((hb7'.alloc hb7'.size (.cells lit32 46)).alloc (by have := hb7'.size; simp; omega) (.cells lit32 46)).trans (ho8.below (B := w.heap.size) (by omega) (by have := hb7'.size; simp; omega)); clear hr8)
        | (with_reducible refine wpList_store_row Tryd.agg25 rfl (.tmp 16) (.tmp 76) rfl _ _ rfl rfl 46 lit32 HA8.out HAS.out lit32_size (bcells_one _) ?_; intro w9 hr9 ho9; have HA9 := Lib.hid hr9; have HF9 := Lib.hid (HF8.out.only ho9 (by omega)); have HO9 := Lib.hid (HO8.out.only ho9 (by omega)); have HR9 := Lib.hid (HR8.out.only ho9 (by omega)); have hb9 := hb8.trans (ho9.below (B := w.heap.size) (by omega) hb8.size); clear hr9)
        | (with_reducible refine wpList_loadG (by with_unfolding_all rfl) (.tmp 15) rfl _ 0 f0 rfl (range_row HF9.out) HFL.out ?_; have heqa := HE0.out HFL.out)
        | (with_reducible refine wpList_loadG (by with_unfolding_all rfl) (.tmp 8) rfl _ 0 d rfl (range_row HO9.out) HDL.out ?_))
      go_ret
      exact ⟨rfl, hb9⟩
end Go.Proofs.YtbpbpdaohganaaaDoor
