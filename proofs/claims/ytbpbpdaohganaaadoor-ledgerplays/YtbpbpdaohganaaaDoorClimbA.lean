/-
  What proof.climb answers: where a proof leads from a place of its level on, and whether it has neither too few digests nor too many.
-/
import Derived.Test.YtbpbpdaohganaaaDoorMakeA
namespace Go.Proofs.YtbpbpdaohganaaaDoor
open Go.RowKit
theorem results_row12 {P : Program} {fn : Func} {tmps : Array Value} {w : World} {a b d g h : Nat} {t t2 ty : TypeId} {cs ds : Array Value} {n : Nat} {v : Value} (T : AggType P ty n) (hf : fn.results = #[.cell a ty, .cell b ty, .tmp d])
    (ha : tmps.getD a undef = .pointer (some ⟨g, 0, none⟩)) (hb : tmps.getD b undef = .pointer (some ⟨h, 0, none⟩)) (hd : tmps.getD d undef = v) (hr : Row w g t cs) (hn : cs.size = n) (hr2 : Row w h t2 ds) (hn2 : ds.size = n) : (results fn tmps).run P w = .ok (.tuple #[.agg cs, .agg ds, v]) w := by
  rw [Array.getD_eq_getD_getElem?] at ha hb hd
  unfold results
  rw [hf]
  simp [ha, hb, hd, asAddr, run_load_row T hr hn, run_load_row T hr2 hn2]
/-- what climb answers: the two roots if it fits -/
def ClimbR (w : World) (r : Option (List UInt8 × List UInt8)) (e : Ending) (w' : World) : Prop :=
  ∃ (f a : List UInt8) (is : Bool), e = .returned (.tuple #[.agg (bcells f), .agg (bcells a), .bool is]) ∧ f.length = 32 ∧ a.length = 32 ∧ (match r with | some v => is = true ∧ v = (f, a) | none => is = false) ∧ Below w.heap.size w w'
theorem yields_len {ops : Array Oper} {S : World → Prop} {o : Oper} {a : Act} (hw : Region.wanted o (yielded ops a.tmps) = true) (x : Operand) (ho : o.op = .call { callee := .builtin .len, args := #[x], argTypes := #[28] }) (A : Option Addr) (n c : Nat)
    (hx : a.eval x = .slice A n c) : YieldsIf Tryd.prog ops S o (.int .i64 (n : Int)) a :=
  .inl ⟨hw, fun w _ => by
    unfold execOp
    simp [ho, resolve, invoke, builtin, hx, Builtin.len_, run_underlying Tryd.under24]
    rfl⟩
theorem yields_shr {ops : Array Oper} {S : World → Prop} {o : Oper} {a : Act} (hgd : o.guard = none) (x y : Operand) (ho : o.op = .binOp .shr 3 x y 3) (p : Int) (k : Nat) (r : Int)
    (hx : a.eval x = .int .i64 p) (hy : a.eval y = .int .i64 (k : Int)) (hk : k ≤ 64) (hr : p / 2 ^ k = r) : YieldsIf Tryd.prog ops S o (.int .i64 r) a :=
  .inl ⟨by simp [Region.wanted, hgd], fun w _ => by
    unfold execOp
    simp only [ho, hx, hy]
    go_simp⟩
theorem wpList_zeroD {ops : Array Oper} {rest : List Oper} {o : Oper} {a : Act} {w : World} {Q : Exit → Act → World → Prop} (hgd : o.guard = none) (ho : o.op = .build 46 #[])
    (h : wpList Tryd.prog ops Q rest (a.put o.dst (.agg (bcells zero32))) w) : wpList Tryd.prog ops Q (o :: rest) a w := by
  have e : Tryd.prog.built 46 ((#[] : Array (Nat × Operand)).map fun (i, x) => (i, a.eval x)).toList = some (bcells zero32) := by simpa using built25
  refine wpList_build hgd 46 _ ho (by rw [e]; rfl) ?_
  rw [e]
  exact h
theorem cutR {P : Program} {id : Nat} {ops : Array Oper} {b : Bool} {Q : Exit → Act → World → Prop} {a : Act} {w : World} (R : Act → Act → World → Prop) (h1 : (Code.region id ops b).wp P (fun e a' w' => e = .normal ∧ R a a' w') a w) (h2 : ∀ a' w', R a a' w' → Q .normal a' w') : (Code.region id ops b).wp P Q a w :=
  Code.wp_mono (fun e a' w' ⟨he, hR⟩ => by rw [he]; exact h2 a' w' hR) h1
theorem div_step (i k : Nat) : i / 2 ^ (k + 1) = i / 2 ^ k / 2 := by rw [Nat.div_div_eq_div_mul, Nat.pow_succ]
set_option maxRecDepth 100000 in
set_option maxHeartbeats 4000000 in
theorem climb_any (d : List UInt8) (place last : Nat) (A : Option Addr) (n c : Nat) (P : List (List UInt8)) (w : World) (hd : d.length = 32) (hn : n ≤ 1024) (hc : n ≤ c) (hpl : place ≤ last) (hl : last < 9223372036854775808) (hD : Ds w A n P) (hT : Tab 1 w) :
    Calls Tryd.prog 41 #[.agg (bcells d), .int .i64 (place : Int), .int .i64 (last : Int), .slice A n c] w (ClimbR w (upC nodeL place last (d, d) P)) := by
  have e1 : IntKind.u64.wrap (last : Int) = (last : Int) := by
    simp [IntKind.wrap, IntKind.bits, IntKind.signed]
    omega
  have HLN := Lib.hid (fun w => Len_any last w (by omega))
  have hlt64 := lenN_le last 63 (by omega)
  have HLT := Lib.hid (fun k => lt_lenN k last)
  have HDL := Lib.hid hd
  have HDS := Lib.hid (show (bcells d).size = 32 by rw [bcells_size, hd])
  have HD := Lib.hid hD
  have HT := Lib.hid hT
  have HPL := Lib.hid hpl
  have HL := Lib.hid hl
  obtain ⟨M, hM⟩ : ∃ M, lenN last = M := ⟨_, rfl⟩
  rw [hM] at HLN hlt64 HLT
  obtain ⟨R, hR⟩ : ∃ R, upC nodeL place last (d, d) P = R := ⟨_, rfl⟩
  have HR := Lib.hid hR
  rw [hR]
  have hb0 := (((Below.refl w.heap.size w).alloc (Nat.le_refl _) (.cells (bcells d) 46)).alloc (by simp) (.cells lit32 46)).alloc (by simp <;> omega) (.cells lit32 46)
  have HB0 := Lib.hid (((Row.new w 46 (bcells d)).alloc (.cells lit32 46)).alloc (.cells lit32 46))
  have HF0 := Lib.hid ((Row.new1 w (.cells (bcells d) 46) 46 lit32).alloc (.cells lit32 46))
  have HA0 := Lib.hid (Row.new2 w (.cells (bcells d) 46) (.cells lit32 46) 46 lit32)
  obtain ⟨wz, hwz⟩ : ∃ wz, ((w.alloc (.cells (bcells d) 46)).alloc (.cells lit32 46)).alloc (.cells lit32 46) = wz := ⟨_, rfl⟩
  rw [hwz] at hb0 HB0 HF0 HA0
  obtain ⟨g4, hg4⟩ : ∃ g, w.heap.size = g := ⟨_, rfl⟩
  rw [hg4] at HB0 HF0 HA0
  have hgw : w.heap.size ≤ g4 := by omega
  have hgw2 : g4 ≤ w.heap.size := by omega
  have HG4 := Lib.hid hg4
  clear hd hD hT hpl hl hM hR
  go_enter Tryd.func41, Tryd.ntmps41
  go_wp2_with fail
  clear hwz

  clear hg4
  go_step3
  go_wp2_with fail
  have hlen4 : g4 < wz.heap.size := HB0.out.lt
  have K0 : Hid (∀ wq, Below wz.heap.size wz wq → wq.rangeAt g4 0 (d.map bcell)) := Lib.hid (fun wq hb => range_row (HB0.out.below hb HB0.out.lt))
  refine wp_region_noPanic ?_
  refine wp_region_held_drew (S := fun w' => w'.rangeAt g4 0 (d.map bcell)) (by kernel_rfl) (K0.out _ (Below.refl _ _).drew) (fun hHeld => ?_)
  refine takeD (i := 0) (some 14) (.agg (bcells d)) rfl rfl (by kernel_rfl) (by kernel_rfl) (by kernel_rfl) (fun _ _ _ h => h) (yields_loadW (by rfl) (.tmp 4) rfl g4 0 d rfl (fun _ h => h) HDL.out) hHeld ?_
  simp only [Act.put, List.setIfInBounds_toArray, List.set_cons_zero, List.set_cons_succ]
  refine takeD (i := 1) (some 15) (.agg (bcells d)) rfl rfl (by kernel_rfl) (by kernel_rfl) (by kernel_rfl) (fun _ _ _ h => h) (yields_loadW (by rfl) (.tmp 4) rfl g4 0 d rfl (fun _ h => h) HDL.out) hHeld ?_
  simp only [Act.put, List.setIfInBounds_toArray, List.set_cons_zero, List.set_cons_succ]
  have B0 : Below wz.heap.size wz wz.drew := (Below.refl wz.heap.size wz).drew
  have HF1 := Lib.hid (HF0.out.below B0 HF0.out.lt)
  have HA1 := Lib.hid (HA0.out.below B0 HA0.out.lt)
  have HB1 := Lib.hid (HB0.out.below B0 HB0.out.lt)
  refine wpAnyH_ready (rs := [2]) (by kernel_rfl) (by decide) ?_
  refine AllReadyH.cons rfl (fun K' hK => ?_) AllReadyH.nil
  refine step_store_row Tryd.agg25 rfl (.tmp 8) (.tmp 14) rfl _ _ rfl rfl 46 lit32 HF1.out HDS.out lit32_size (bcells_one _) ?_
  intro w2 hr2 ho2
  have HF2 := Lib.hid hr2
  have HA2 := Lib.hid (HA1.out.only ho2 (by omega))
  have HB2 := Lib.hid (HB1.out.only ho2 (by omega))
  clear hr2
  refine hK.out _ _ (range_row HB2.out) (fun hHeld2 => ?_)
  clear hK
  refine wpAnyH_ready (rs := [3]) (by kernel_rfl) (by decide) ?_
  refine AllReadyH.cons rfl (fun K' hK => ?_) AllReadyH.nil
  refine step_store_row Tryd.agg25 rfl (.tmp 9) (.tmp 15) rfl _ _ rfl rfl 46 lit32 HA2.out HDS.out lit32_size (bcells_one _) ?_
  intro w3 hr3 ho3
  have HA3 := Lib.hid hr3
  have HF3 := Lib.hid (HF2.out.only ho3 (by omega))
  have HB3 := Lib.hid (HB2.out.only ho3 (by omega))
  clear hr3
  refine hK.out _ _ (range_row HB3.out) (fun hHeld3 => ?_)
  clear hK
  (try simp only [Act.put, List.setIfInBounds_toArray])
  refine wpAnyH_done (by kernel_rfl) ?_ _
  refine NoPanic.normal ?_
  have hb3 : Below w.heap.size w w3 := ((hb0.trans (B0.mono hb0.size)).trans (ho2.below (B := w.heap.size) (by omega) (by have := hb0.size; have := B0.size; omega))).trans (ho3.below (B := w.heap.size) (by omega) (by have := hb0.size; have := B0.size; have := ho2.size; omega))
  obtain ⟨gf, hgf⟩ : ∃ g, g4 + 1 = g := ⟨_, rfl⟩
  obtain ⟨ga, hga⟩ : ∃ g, gf + 1 = g := ⟨_, rfl⟩
  rw [hgf] at HF3
  rw [hgf, hga] at HA3
  have hbg : w.heap.size ≤ gf ∧ gf < ga := by omega
  rw [hgf, hga]
  clear hgf hga
  go_wp2_with fail
  go_step3
  go_wp2_with (go_at_call 58; refine (HLN.out _).mono ?_; rintro e4 w4 ⟨rfl, rfl⟩)
  have HB3' := hb3
  go_loopw [3, 19] (fun vP vK wr => ∃ (k n' c' : Nat) (A' : Option Addr) (Q : List (List UInt8)) (f a : List UInt8), vK = .int .i64 (k : Int) ∧ vP = .slice A' n' c' ∧ k ≤ M ∧ n' ≤ c' ∧ n' ≤ 1024 ∧ Ds w A' n' Q ∧ f.length = 32 ∧ a.length = 32 ∧ Below w.heap.size w wr ∧ Row wr gf 46 (bcells f) ∧ Row wr ga 46 (bcells a) ∧ Hid (upC nodeL (place / 2 ^ k) (last / 2 ^ k) (f, a) Q = R)) (fun _ vK _ => M - (intOf vK).toNat)
  case atStart => exact ⟨0, n, c, A, P, d, d, rfl, rfl, Nat.zero_le _, hc, hn, HD.out, HDL.out, HDL.out, HB3', HF3.out, HA3.out, Lib.hid (by rw [Nat.pow_zero, Nat.div_one, Nat.div_one]; exact HR.out)⟩
  case round =>
    obtain ⟨k, n', c', A', Q, f, a, rfl, rfl, hk, hnc, hn1, hQ, hf, ha, hbel, hrf, hra, HU⟩ := hrel
    have HQ := Lib.hid hQ
    have HFL := Lib.hid hf
    have HAL := Lib.hid ha
    have HFS := Lib.hid (show (bcells f).size = 32 by rw [bcells_size, hf])
    have HAS := Lib.hid (show (bcells a).size = 32 by rw [bcells_size, ha])
    have HRF := Lib.hid hrf
    have HRA := Lib.hid hra
    have hltf := hrf.lt
    have hlta := hra.lt
    have HBE := Lib.hid hbel
    clear hQ hf ha hrf hra hbel
    by_cases hlt : k < M
    · have hlt2 : (k : Int) < (M : Int) := by omega
      have h2 := (HLT.out k).1 hlt
      have hle : place / 2 ^ k ≤ last / 2 ^ k := Nat.div_le_div_right HPL.out
      have hq1 := div_pow place k
      have hq2 := div_pow last k
      have hqb : last / 2 ^ k ≤ last := Nat.div_le_self _ _
      obtain ⟨at', hat⟩ : ∃ x, place / 2 ^ k = x := ⟨_, rfl⟩
      obtain ⟨en, hen⟩ : ∃ x, last / 2 ^ k = x := ⟨_, rfl⟩
      rw [hat] at hq1 hle HU
      rw [hen] at hq2 hle h2 HU hqb
      have HAT := Lib.hid hat
      have HEN := Lib.hid hen
      clear hlt hat hen
      go_wp2
      refine wp_region_noPanic ?_
      refine wp_region_held_drew (S := fun w' => True) (by kernel_rfl) trivial (fun hHeld => ?_)
      refine takeD (i := 0) (some 22) (.int .i64 (place : Int)) rfl rfl (by kernel_rfl) (by kernel_rfl) (by kernel_rfl) (fun _ _ _ h => h) (Or.inl ⟨by rfl, fun _ _ => rfl⟩) hHeld ?_
      simp only [Act.put, List.setIfInBounds_toArray, List.set_cons_zero, List.set_cons_succ]
      refine takeD (i := 1) (some 23) (.int .i64 (k : Int)) rfl rfl (by kernel_rfl) (by kernel_rfl) (by kernel_rfl) (fun _ _ _ h => h) (Or.inl ⟨by rfl, fun _ _ => rfl⟩) hHeld ?_
      simp only [Act.put, List.setIfInBounds_toArray, List.set_cons_zero, List.set_cons_succ]
      refine takeD (i := 2) (some 24) (.int .i64 (at' : Int)) rfl rfl (by kernel_rfl) (by kernel_rfl) (by kernel_rfl) (fun _ _ _ h => h) (yields_shr rfl (.tmp 22) (.tmp 23) rfl _ _ _ rfl rfl (by omega) hq1) hHeld ?_
      simp only [Act.put, List.setIfInBounds_toArray, List.set_cons_zero, List.set_cons_succ]
      refine takeD (i := 3) (some 25) (.int .i64 (last : Int)) rfl rfl (by kernel_rfl) (by kernel_rfl) (by kernel_rfl) (fun _ _ _ h => h) (Or.inl ⟨by rfl, fun _ _ => rfl⟩) hHeld ?_
      simp only [Act.put, List.setIfInBounds_toArray, List.set_cons_zero, List.set_cons_succ]
      refine takeD (i := 4) (some 26) (.int .i64 (k : Int)) rfl rfl (by kernel_rfl) (by kernel_rfl) (by kernel_rfl) (fun _ _ _ h => h) (Or.inl ⟨by rfl, fun _ _ => rfl⟩) hHeld ?_
      simp only [Act.put, List.setIfInBounds_toArray, List.set_cons_zero, List.set_cons_succ]
      refine takeD (i := 5) (some 27) (.int .i64 (en : Int)) rfl rfl (by kernel_rfl) (by kernel_rfl) (by kernel_rfl) (fun _ _ _ h => h) (yields_shr rfl (.tmp 25) (.tmp 26) rfl _ _ _ rfl rfl (by omega) hq2) hHeld ?_
      simp only [Act.put, List.setIfInBounds_toArray, List.set_cons_zero, List.set_cons_succ]
      refine takeD (i := 6) (some 12) (.int .i64 (at' : Int)) rfl rfl (by kernel_rfl) (by kernel_rfl) (by kernel_rfl) (fun _ _ _ h => h) (Or.inl ⟨by rfl, fun _ _ => rfl⟩) hHeld ?_
      simp only [Act.put, List.setIfInBounds_toArray, List.set_cons_zero, List.set_cons_succ]
      refine takeD (i := 7) (some 13) (.int .i64 (en : Int)) rfl rfl (by kernel_rfl) (by kernel_rfl) (by kernel_rfl) (fun _ _ _ h => h) (Or.inl ⟨by rfl, fun _ _ => rfl⟩) hHeld ?_
      simp only [Act.put, List.setIfInBounds_toArray, List.set_cons_zero, List.set_cons_succ]
      (try simp only [Act.put, List.setIfInBounds_toArray])
      refine wpAnyH_done (by kernel_rfl) ?_ _
      refine NoPanic.normal ?_
      have hb0' : Below wr.heap.size wr wr.drew := (Below.refl _ _).drew
      have HRF1 := Lib.hid (HRF.out.below hb0' hltf)
      have HRA1 := Lib.hid (HRA.out.below hb0' hlta)
      have HB1' : Below w.heap.size w wr.drew := HBE.out.drew
      clear hq1 hq2 HRF HRA
      generalize hwr : wr.drew = wd at *
      have hltf1 := HRF1.out.lt
      have hlta1 := HRA1.out.lt
      by_cases he : at' = en
      · by_cases h0 : at' % 2 = 0
        · obtain rfl : en = at' := he.symm
          have hm : ((en : Int)).tmod 2 = 0 := by rw [Int.tmod_eq_emod_of_nonneg (by omega)]; omega
          have HU2 := Lib.hid ((upC_skip nodeL (f, a) Q h0 rfl).symm.trans HU.out)
          clear h0
          go_wp2
          refine ⟨⟨k + 1, n', c', A', Q, f, a, by go_num, rfl, by omega, hnc, hn1, HQ.out, HFL.out, HAL.out, HB1', HRF1.out, HRA1.out, Lib.hid (by rw [div_step, div_step, HAT.out, HEN.out]; exact HU2.out)⟩, ?_⟩
          simp [intOf]
          omega
        · obtain rfl : en = at' := he.symm
          have hm : ((en : Int)).tmod 2 = 1 := by rw [Int.tmod_eq_emod_of_nonneg (by omega)]; omega
          have hU := fun Q => upC_right nodeL (f, a) Q (i := en) (last := en) (by omega) (Nat.le_refl _)
          by_cases hn0 : n' = 0
          · obtain rfl : n' = 0 := hn0
            have hQ0 : Q = [] := List.eq_nil_of_length_eq_zero HQ.out.1
            have hRn : R = none := by rw [← HU.out, hQ0, hU []]
            have HRN := Lib.hid hRn
            clear hU hRn hQ0 h0
            go_wp2_with (first
              | (with_reducible refine wpList_zeroD rfl rfl ?_)
              | (with_reducible refine wpList_store_row Tryd.agg25 rfl (.tmp 8) (.tmp 46) rfl _ _ rfl rfl 46 (bcells f) HRF1.out lit32_size HFS.out lit32_one ?_; intro w5 hr5 ho5; have HF5 := Lib.hid hr5; have HA5 := Lib.hid (HRA1.out.only ho5 (by omega)); have hb5 := HB1'.trans (ho5.below (B := w.heap.size) (by omega) HB1'.size); clear hr5)
              | (with_reducible refine wpList_store_row Tryd.agg25 rfl (.tmp 9) (.tmp 47) rfl _ _ rfl rfl 46 (bcells a) HA5.out lit32_size HAS.out lit32_one ?_; intro w6 hr6 ho6; have HA6 := Lib.hid hr6; have HF6 := Lib.hid (HF5.out.only ho6 (by omega)); have hb6 := hb5.trans (ho6.below (B := w.heap.size) (by omega) hb5.size); clear hr6))
            try rw [Exit.noGoto_ret]
            refine bodyPost_ret (results_row12 Tryd.agg25 Tryd.results41 rfl rfl rfl HF6.out lit32_size HA6.out lit32_size) rfl ⟨zero32, zero32, false, rfl, zero32_length, zero32_length, ?_, hb6⟩
            rw [HRN.out]
          · obtain ⟨b, off, x, rfl, hbk, hx, hxl, hBx⟩ := HQ.out.get (k := 0) (by omega)
            obtain ⟨t, rfl⟩ : ∃ t, Q = x :: t := by
              match Q, hx with
              | y :: t, hx => simp at hx; subst hx; exact ⟨t, rfl⟩
            obtain ⟨o1, ho1⟩ : ∃ o, off + 32 * 0 = o := ⟨_, rfl⟩
            rw [ho1] at hBx
            have HO1 := Lib.hid ho1
            have KX := Lib.hid (fun wq (hb : Below w.heap.size w wq) => (hBx.below hb).range)
            have HXL := Lib.hid hxl
            have HUX := Lib.hid ((hU (x :: t)).symm.trans HU.out)
            have hlenp : 0 < n' := by omega
            have hle0 : ((n' : Int) == 0) = false := by simp; omega
            have hbg2 : b < gf := by omega
            clear hU hx hxl hBx ho1 hn0 h0 HU
            have HN1 := Lib.hid (fun w hT => Node_any x f w HXL.out HFL.out hT)
            have HY1 := Lib.hid (nodeL_length x f)
            have HYS := Lib.hid (show (bcells (nodeL x f)).size = 32 by rw [bcells_size, nodeL_length])
            have HN2 := Lib.hid (fun w hT => Node_any x a w HXL.out HAL.out hT)
            have HZ1 := Lib.hid (nodeL_length x a)
            have HZS := Lib.hid (show (bcells (nodeL x a)).size = 32 by rw [bcells_size, nodeL_length])
            obtain ⟨y, hy⟩ : ∃ y, nodeL x f = y := ⟨_, rfl⟩
            obtain ⟨z, hz⟩ : ∃ z, nodeL x a = z := ⟨_, rfl⟩
            have HUY := Lib.hid (show upC nodeL (en / 2) (en / 2) (y, z) t = R by rw [← hy, ← hz]; exact HUX.out)
            rw [hy] at HN1 HY1 HYS
            rw [hz] at HN2 HZ1 HZS
            clear hy hz HUX
            have HUX := HUY
            clear HUY
            go_wp2_with fail
            refine cutR (fun a₀ a' w' => a' = ((((((((((a₀.put (some 52) (.slice (some ⟨b, off, none⟩) n' c')).put (some 53) (.pointer (some ⟨b, o1, none⟩))).put (some 54) (.agg (bcells x))).put (some 57) (.slice (some ⟨b, off, none⟩) n' c')).put (some 58) (.pointer (some ⟨b, o1, none⟩))).put (some 59) (.agg (bcells x))).put (some 55) (.agg (bcells f))).put (some 60) (.agg (bcells a))).put (some 56) (.agg (bcells y))).put (some 61) (.agg (bcells z))) ∧ Row w' gf 46 (bcells y) ∧ Row w' ga 46 (bcells z) ∧ Below w.heap.size w w') ?_ ?_
            · refine wp_region_noPanic ?_
              refine wp_region_held_drew (S := fun w' => w'.rangeAt b o1 (x.map bcell)) (by kernel_rfl) (KX.out _ HB1'.drew) (fun hHeld => ?_)
              refine takeD (i := 0) (some 52) (.slice (some ⟨b, off, none⟩) n' c') rfl rfl (by kernel_rfl) (by kernel_rfl) (by kernel_rfl) (fun _ _ _ h => h) (Or.inl ⟨by rfl, fun _ _ => rfl⟩) hHeld ?_
              simp only [Act.put, List.setIfInBounds_toArray, List.set_cons_zero, List.set_cons_succ]
              refine takeD (i := 1) (some 53) (.pointer (some ⟨b, o1, none⟩)) rfl rfl (by kernel_rfl) (by kernel_rfl) (by kernel_rfl) (fun _ _ _ h => h) (yields_indexO rfl (.tmp 52) _ rfl b off _ _ 0 o1 _ rfl rfl rfl hlenp HO1.out) hHeld ?_
              simp only [Act.put, List.setIfInBounds_toArray, List.set_cons_zero, List.set_cons_succ]
              refine takeD (i := 2) (some 54) (.agg (bcells x)) rfl rfl (by kernel_rfl) (by kernel_rfl) (by kernel_rfl) (fun _ _ _ h => h) (yields_loadW (by rfl) (.tmp 53) rfl b o1 x rfl (fun _ h => h) HXL.out) hHeld ?_
              simp only [Act.put, List.setIfInBounds_toArray, List.set_cons_zero, List.set_cons_succ]
              refine takeD (i := 5) (some 57) (.slice (some ⟨b, off, none⟩) n' c') rfl rfl (by kernel_rfl) (by kernel_rfl) (by kernel_rfl) (fun _ _ _ h => h) (Or.inl ⟨by rfl, fun _ _ => rfl⟩) hHeld ?_
              simp only [Act.put, List.setIfInBounds_toArray, List.set_cons_zero, List.set_cons_succ]
              refine takeD (i := 6) (some 58) (.pointer (some ⟨b, o1, none⟩)) rfl rfl (by kernel_rfl) (by kernel_rfl) (by kernel_rfl) (fun _ _ _ h => h) (yields_indexO rfl (.tmp 57) _ rfl b off _ _ 0 o1 _ rfl rfl rfl hlenp HO1.out) hHeld ?_
              simp only [Act.put, List.setIfInBounds_toArray, List.set_cons_zero, List.set_cons_succ]
              refine takeD (i := 7) (some 59) (.agg (bcells x)) rfl rfl (by kernel_rfl) (by kernel_rfl) (by kernel_rfl) (fun _ _ _ h => h) (yields_loadW (by rfl) (.tmp 58) rfl b o1 x rfl (fun _ h => h) HXL.out) hHeld ?_
              simp only [Act.put, List.setIfInBounds_toArray, List.set_cons_zero, List.set_cons_succ]
              have B0 : Below wd.heap.size wd wd.drew := (Below.refl wd.heap.size wd).drew
              have HA2 := Lib.hid (HRA1.out.below B0 hlta1)
              have HF2 := Lib.hid (HRF1.out.below B0 hltf1)
              have HAR := Lib.hid (range_row HA2.out)
              have HFR := Lib.hid (range_row HF2.out)
              have BW := HB1'.trans (B0.mono HB1'.size)
              refine wpAnyH_ready (rs := [3, 8]) (by kernel_rfl) (by decide) ?_
              refine AllReadyH.cons rfl (fun K' hK => ?_) (AllReadyH.cons rfl (fun K' hK => ?_) AllReadyH.nil)
              · refine step_of rfl (wp_loadD (.tmp 8) rfl gf 0 f rfl HFR.out HFL.out ?_)
                refine hK.out _ _ (KX.out _ BW) (fun hHeld2 => ?_)
                clear hK
                refine wpAnyH_ready (rs := [4, 8]) (by kernel_rfl) (by decide) ?_
                refine AllReadyH.cons rfl (fun K' hK => ?_) (AllReadyH.cons rfl (fun K' hK => ?_) AllReadyH.nil)
                · go_simp
                  refine (HN1.out wd.drew (HT.out.below BW)).mono ?_
                  rintro e3 w3 ⟨rfl, hb3x⟩
                  have HA3 := Lib.hid (HA2.out.below hb3x HA2.out.lt)
                  have HAR3 := Lib.hid (range_row HA3.out)
                  have HF3 := Lib.hid (HF2.out.below hb3x HF2.out.lt)
                  have BW3 := BW.trans (hb3x.mono BW.size)
                  refine hK.out _ _ (KX.out _ BW3) (fun hHeld3 => ?_)
                  clear hK
                  refine wpAnyH_ready (rs := [8]) (by kernel_rfl) (by decide) ?_
                  refine AllReadyH.cons rfl (fun K' hK => ?_) AllReadyH.nil
                  refine step_of rfl (wp_loadD (.tmp 9) rfl ga 0 a rfl HAR3.out HAL.out ?_)
                  refine hK.out _ _ (KX.out _ BW3) (fun hHeld4 => ?_)
                  clear hK
                  refine wpAnyH_ready (rs := [9]) (by kernel_rfl) (by decide) ?_
                  refine AllReadyH.cons rfl (fun K' hK => ?_) AllReadyH.nil
                  go_simp
                  refine (HN2.out w3 (HT.out.below BW3)).mono ?_
                  rintro e4 w4 ⟨rfl, hb4x⟩
                  have HA4 := Lib.hid (HA3.out.below hb4x HA3.out.lt)
                  have HF4 := Lib.hid (HF3.out.below hb4x HF3.out.lt)
                  have BW4 := BW3.trans (hb4x.mono BW3.size)
                  refine hK.out _ _ (KX.out _ BW4) (fun hHeld6 => ?_)
                  clear hK
                  refine wpAnyH_ready (rs := [10]) (by kernel_rfl) (by decide) ?_
                  refine AllReadyH.cons rfl (fun K' hK => ?_) AllReadyH.nil
                  refine step_store_row Tryd.agg25 rfl (.tmp 8) (.tmp 56) rfl _ _ rfl rfl 46 (bcells f) HF4.out HYS.out HFS.out (bcells_one _) ?_
                  intro w5 hr5 ho5
                  have HF5 := Lib.hid hr5
                  have HA5 := Lib.hid (HA4.out.only ho5 (by omega))
                  have BW5 := BW4.trans (ho5.below (B := w.heap.size) (by omega) BW4.size)
                  clear hr5
                  refine hK.out _ _ (KX.out _ BW5) (fun hHeld7 => ?_)
                  clear hK
                  refine wpAnyH_ready (rs := [11]) (by kernel_rfl) (by decide) ?_
                  refine AllReadyH.cons rfl (fun K' hK => ?_) AllReadyH.nil
                  refine step_store_row Tryd.agg25 rfl (.tmp 9) (.tmp 61) rfl _ _ rfl rfl 46 (bcells a) HA5.out HZS.out HAS.out (bcells_one _) ?_
                  intro w6 hr6 ho6
                  have HA6 := Lib.hid hr6
                  have HF6 := Lib.hid (HF5.out.only ho6 (by omega))
                  have BW6 := BW5.trans (ho6.below (B := w.heap.size) (by omega) BW5.size)
                  clear hr6
                  refine hK.out _ _ (KX.out _ BW6) (fun hHeld8 => ?_)
                  clear hK
                  refine wpAnyH_done (by kernel_rfl) ?_ _
                  refine NoPanic.normal ?_
                  exact ⟨rfl, rfl, HF6.out, HA6.out, BW6⟩
                · refine step_of rfl (wp_loadD (.tmp 9) rfl ga 0 a rfl HAR.out HAL.out ?_)
                  refine hK.out _ _ (KX.out _ BW) (fun hHeld3 => ?_)
                  clear hK
                  refine wpAnyH_ready (rs := [4]) (by kernel_rfl) (by decide) ?_
                  refine AllReadyH.cons rfl (fun K' hK => ?_) AllReadyH.nil
                  go_simp
                  refine (HN1.out wd.drew (HT.out.below BW)).mono ?_
                  rintro e3 w3 ⟨rfl, hb3x⟩
                  have HA3 := Lib.hid (HA2.out.below hb3x HA2.out.lt)
                  have HAR3 := Lib.hid (range_row HA3.out)
                  have HF3 := Lib.hid (HF2.out.below hb3x HF2.out.lt)
                  have BW3 := BW.trans (hb3x.mono BW.size)
                  refine hK.out _ _ (KX.out _ BW3) (fun hHeld4 => ?_)
                  clear hK
                  refine wpAnyH_ready (rs := [9]) (by kernel_rfl) (by decide) ?_
                  refine AllReadyH.cons rfl (fun K' hK => ?_) AllReadyH.nil
                  go_simp
                  refine (HN2.out w3 (HT.out.below BW3)).mono ?_
                  rintro e4 w4 ⟨rfl, hb4x⟩
                  have HA4 := Lib.hid (HA3.out.below hb4x HA3.out.lt)
                  have HF4 := Lib.hid (HF3.out.below hb4x HF3.out.lt)
                  have BW4 := BW3.trans (hb4x.mono BW3.size)
                  refine hK.out _ _ (KX.out _ BW4) (fun hHeld6 => ?_)
                  clear hK
                  refine wpAnyH_ready (rs := [10]) (by kernel_rfl) (by decide) ?_
                  refine AllReadyH.cons rfl (fun K' hK => ?_) AllReadyH.nil
                  refine step_store_row Tryd.agg25 rfl (.tmp 8) (.tmp 56) rfl _ _ rfl rfl 46 (bcells f) HF4.out HYS.out HFS.out (bcells_one _) ?_
                  intro w5 hr5 ho5
                  have HF5 := Lib.hid hr5
                  have HA5 := Lib.hid (HA4.out.only ho5 (by omega))
                  have BW5 := BW4.trans (ho5.below (B := w.heap.size) (by omega) BW4.size)
                  clear hr5
                  refine hK.out _ _ (KX.out _ BW5) (fun hHeld7 => ?_)
                  clear hK
                  refine wpAnyH_ready (rs := [11]) (by kernel_rfl) (by decide) ?_
                  refine AllReadyH.cons rfl (fun K' hK => ?_) AllReadyH.nil
                  refine step_store_row Tryd.agg25 rfl (.tmp 9) (.tmp 61) rfl _ _ rfl rfl 46 (bcells a) HA5.out HZS.out HAS.out (bcells_one _) ?_
                  intro w6 hr6 ho6
                  have HA6 := Lib.hid hr6
                  have HF6 := Lib.hid (HF5.out.only ho6 (by omega))
                  have BW6 := BW5.trans (ho6.below (B := w.heap.size) (by omega) BW5.size)
                  clear hr6
                  refine hK.out _ _ (KX.out _ BW6) (fun hHeld8 => ?_)
                  clear hK
                  refine wpAnyH_done (by kernel_rfl) ?_ _
                  refine NoPanic.normal ?_
                  exact ⟨rfl, rfl, HF6.out, HA6.out, BW6⟩
              · refine step_of rfl (wp_loadD (.tmp 9) rfl ga 0 a rfl HAR.out HAL.out ?_)
                refine hK.out _ _ (KX.out _ BW) (fun hHeld2 => ?_)
                clear hK
                refine wpAnyH_ready (rs := [3]) (by kernel_rfl) (by decide) ?_
                refine AllReadyH.cons rfl (fun K' hK => ?_) AllReadyH.nil
                refine step_of rfl (wp_loadD (.tmp 8) rfl gf 0 f rfl HFR.out HFL.out ?_)
                refine hK.out _ _ (KX.out _ BW) (fun hHeld3 => ?_)
                clear hK
                refine wpAnyH_ready (rs := [4]) (by kernel_rfl) (by decide) ?_
                refine AllReadyH.cons rfl (fun K' hK => ?_) AllReadyH.nil
                go_simp
                refine (HN1.out wd.drew (HT.out.below BW)).mono ?_
                rintro e3 w3 ⟨rfl, hb3x⟩
                have HA3 := Lib.hid (HA2.out.below hb3x HA2.out.lt)
                have HAR3 := Lib.hid (range_row HA3.out)
                have HF3 := Lib.hid (HF2.out.below hb3x HF2.out.lt)
                have BW3 := BW.trans (hb3x.mono BW.size)
                refine hK.out _ _ (KX.out _ BW3) (fun hHeld4 => ?_)
                clear hK
                refine wpAnyH_ready (rs := [9]) (by kernel_rfl) (by decide) ?_
                refine AllReadyH.cons rfl (fun K' hK => ?_) AllReadyH.nil
                go_simp
                refine (HN2.out w3 (HT.out.below BW3)).mono ?_
                rintro e4 w4 ⟨rfl, hb4x⟩
                have HA4 := Lib.hid (HA3.out.below hb4x HA3.out.lt)
                have HF4 := Lib.hid (HF3.out.below hb4x HF3.out.lt)
                have BW4 := BW3.trans (hb4x.mono BW3.size)
                refine hK.out _ _ (KX.out _ BW4) (fun hHeld6 => ?_)
                clear hK
                refine wpAnyH_ready (rs := [10]) (by kernel_rfl) (by decide) ?_
                refine AllReadyH.cons rfl (fun K' hK => ?_) AllReadyH.nil
                refine step_store_row Tryd.agg25 rfl (.tmp 8) (.tmp 56) rfl _ _ rfl rfl 46 (bcells f) HF4.out HYS.out HFS.out (bcells_one _) ?_
                intro w5 hr5 ho5
                have HF5 := Lib.hid hr5
                have HA5 := Lib.hid (HA4.out.only ho5 (by omega))
                have BW5 := BW4.trans (ho5.below (B := w.heap.size) (by omega) BW4.size)
                clear hr5
                refine hK.out _ _ (KX.out _ BW5) (fun hHeld7 => ?_)
                clear hK
                refine wpAnyH_ready (rs := [11]) (by kernel_rfl) (by decide) ?_
                refine AllReadyH.cons rfl (fun K' hK => ?_) AllReadyH.nil
                refine step_store_row Tryd.agg25 rfl (.tmp 9) (.tmp 61) rfl _ _ rfl rfl 46 (bcells a) HA5.out HZS.out HAS.out (bcells_one _) ?_
                intro w6 hr6 ho6
                have HA6 := Lib.hid hr6
                have HF6 := Lib.hid (HF5.out.only ho6 (by omega))
                have BW6 := BW5.trans (ho6.below (B := w.heap.size) (by omega) BW5.size)
                clear hr6
                refine hK.out _ _ (KX.out _ BW6) (fun hHeld8 => ?_)
                clear hK
                refine wpAnyH_done (by kernel_rfl) ?_ _
                refine NoPanic.normal ?_
                exact ⟨rfl, rfl, HF6.out, HA6.out, BW6⟩
            · intro a' w5 ⟨ha', hfz, haz, HBZ⟩
              subst ha'
              have HFZ := Lib.hid hfz
              have HAZ := Lib.hid haz
              clear hfz haz
              simp only [Act.put, List.setIfInBounds_toArray, List.set_cons_zero, List.set_cons_succ]
              go_wp2_with (with_reducible refine wpList_fromD rfl (.tmp 62) _ rfl (some ⟨b, off, none⟩) n' c' 1 1 rfl rfl rfl (by omega) hnc ?_; intro A5 d5 _; have HD5 := Lib.hid (d5 w (x :: t) HQ.out); clear d5)
              refine ⟨⟨k + 1, n' - 1, c' - 1, A5, t, y, z, by go_num, rfl, by omega, by omega, by omega, HD5.out, HY1.out, HZ1.out, HBZ, HFZ.out, HAZ.out, Lib.hid (by rw [div_step, div_step, HAT.out, HEN.out]; exact HUX.out)⟩, ?_⟩
              simp [intOf]
              omega
      · have hne : ((at' : Int) == (en : Int)) = false := by simp; omega
        by_cases h0 : at' % 2 = 0
        · have hm : ((at' : Int)).tmod 2 = 0 := by rw [Int.tmod_eq_emod_of_nonneg (by omega)]; omega
          have hU := fun Q => upC_left nodeL (f, a) Q (i := at') (last := en) h0 (by omega)
          by_cases hn0 : n' = 0
          · obtain rfl : n' = 0 := hn0
            have hQ0 : Q = [] := List.eq_nil_of_length_eq_zero HQ.out.1
            have hRn : R = none := by rw [← HU.out, hQ0, hU []]
            have HRN := Lib.hid hRn
            clear hU hRn hQ0 h0
            go_wp2_with (first
              | (with_reducible refine wpList_zeroD rfl rfl ?_)
              | (with_reducible refine wpList_store_row Tryd.agg25 rfl (.tmp 8) (.tmp 46) rfl _ _ rfl rfl 46 (bcells f) HRF1.out lit32_size HFS.out lit32_one ?_; intro w5 hr5 ho5; have HF5 := Lib.hid hr5; have HA5 := Lib.hid (HRA1.out.only ho5 (by omega)); have hb5 := HB1'.trans (ho5.below (B := w.heap.size) (by omega) HB1'.size); clear hr5)
              | (with_reducible refine wpList_store_row Tryd.agg25 rfl (.tmp 9) (.tmp 47) rfl _ _ rfl rfl 46 (bcells a) HA5.out lit32_size HAS.out lit32_one ?_; intro w6 hr6 ho6; have HA6 := Lib.hid hr6; have HF6 := Lib.hid (HF5.out.only ho6 (by omega)); have hb6 := hb5.trans (ho6.below (B := w.heap.size) (by omega) hb5.size); clear hr6))
            try rw [Exit.noGoto_ret]
            refine bodyPost_ret (results_row12 Tryd.agg25 Tryd.results41 rfl rfl rfl HF6.out lit32_size HA6.out lit32_size) rfl ⟨zero32, zero32, false, rfl, zero32_length, zero32_length, ?_, hb6⟩
            rw [HRN.out]
          · obtain ⟨b, off, x, rfl, hbk, hx, hxl, hBx⟩ := HQ.out.get (k := 0) (by omega)
            obtain ⟨t, rfl⟩ : ∃ t, Q = x :: t := by
              match Q, hx with
              | y :: t, hx => simp at hx; subst hx; exact ⟨t, rfl⟩
            obtain ⟨o1, ho1⟩ : ∃ o, off + 32 * 0 = o := ⟨_, rfl⟩
            rw [ho1] at hBx
            have HO1 := Lib.hid ho1
            have KX := Lib.hid (fun wq (hb : Below w.heap.size w wq) => (hBx.below hb).range)
            have HXL := Lib.hid hxl
            have HUX := Lib.hid ((hU (x :: t)).symm.trans HU.out)
            have hlenp : 0 < n' := by omega
            have hle0 : ((n' : Int) == 0) = false := by simp; omega
            have hbg2 : b < gf := by omega
            clear hU hx hxl hBx ho1 hn0 h0 HU
            have HN1 := Lib.hid (fun w hT => Node_any a x w HAL.out HXL.out hT)
            have HY1 := Lib.hid (nodeL_length a x)
            have HYS := Lib.hid (show (bcells (nodeL a x)).size = 32 by rw [bcells_size, nodeL_length])
            obtain ⟨y, hy⟩ : ∃ y, nodeL a x = y := ⟨_, rfl⟩
            have HUY := Lib.hid (show upC nodeL (at' / 2) (en / 2) (f, y) t = R by rw [← hy]; exact HUX.out)
            rw [hy] at HN1 HY1 HYS
            clear hy HUX
            have HUX := HUY
            clear HUY
            go_wp2_with fail
            refine wp_region_noPanic ?_
            refine wp_region_held_drew (S := fun w' => w'.rangeAt b o1 (x.map bcell)) (by kernel_rfl) (KX.out _ HB1'.drew) (fun hHeld => ?_)
            refine takeD (i := 1) (some 29) (.slice (some ⟨b, off, none⟩) n' c') rfl rfl (by kernel_rfl) (by kernel_rfl) (by kernel_rfl) (fun _ _ _ h => h) (Or.inl ⟨by rfl, fun _ _ => rfl⟩) hHeld ?_
            simp only [Act.put, List.setIfInBounds_toArray, List.set_cons_zero, List.set_cons_succ]
            refine takeD (i := 2) (some 30) (.pointer (some ⟨b, o1, none⟩)) rfl rfl (by kernel_rfl) (by kernel_rfl) (by kernel_rfl) (fun _ _ _ h => h) (yields_indexO rfl (.tmp 29) _ rfl b off _ _ 0 o1 _ rfl rfl rfl hlenp HO1.out) hHeld ?_
            simp only [Act.put, List.setIfInBounds_toArray, List.set_cons_zero, List.set_cons_succ]
            refine takeD (i := 3) (some 31) (.agg (bcells x)) rfl rfl (by kernel_rfl) (by kernel_rfl) (by kernel_rfl) (fun _ _ _ h => h) (yields_loadW (by rfl) (.tmp 30) rfl b o1 x rfl (fun _ h => h) HXL.out) hHeld ?_
            simp only [Act.put, List.setIfInBounds_toArray, List.set_cons_zero, List.set_cons_succ]
            have B0 : Below wd.heap.size wd wd.drew := (Below.refl wd.heap.size wd).drew
            have HA2 := Lib.hid (HRA1.out.below B0 hlta1)
            have HAR := Lib.hid (range_row HA2.out)
            have BW := HB1'.trans (B0.mono HB1'.size)
            refine wpAnyH_ready (rs := [0]) (by kernel_rfl) (by decide) ?_
            refine AllReadyH.cons rfl (fun K' hK => ?_) AllReadyH.nil
            refine step_of rfl (wp_loadD (.tmp 9) rfl ga 0 a rfl HAR.out HAL.out ?_)
            refine hK.out _ _ (KX.out _ BW) (fun hHeld2 => ?_)
            clear hK
            refine wpAnyH_ready (rs := [4]) (by kernel_rfl) (by decide) ?_
            refine AllReadyH.cons rfl (fun K' hK => ?_) AllReadyH.nil
            go_simp
            refine (HN1.out wd.drew (HT.out.below BW)).mono ?_
            rintro e3 w3 ⟨rfl, hb3x⟩
            have HA3 := Lib.hid (HA2.out.below hb3x HA2.out.lt)
            have HF3 := Lib.hid ((HRF1.out.below B0 hltf1).below hb3x (HRF1.out.below B0 hltf1).lt)
            have BW3 := BW.trans (hb3x.mono BW.size)
            refine hK.out _ _ (KX.out _ BW3) (fun hHeld3 => ?_)
            clear hK
            refine wpAnyH_ready (rs := [5]) (by kernel_rfl) (by decide) ?_
            refine AllReadyH.cons rfl (fun K' hK => ?_) AllReadyH.nil
            refine step_store_row Tryd.agg25 rfl (.tmp 9) (.tmp 32) rfl _ _ rfl rfl 46 (bcells a) HA3.out HYS.out HAS.out (bcells_one _) ?_
            intro w4 hr4 ho4
            have HAZ := Lib.hid hr4
            have HFZ := Lib.hid (HF3.out.only ho4 (by omega))
            have HBZ := BW3.trans (ho4.below (B := w.heap.size) (by omega) BW3.size)
            clear hr4
            refine hK.out _ _ (KX.out _ HBZ) (fun hHeld4 => ?_)
            clear hK
            (try simp only [Act.put, List.setIfInBounds_toArray])
            refine wpAnyH_done (by kernel_rfl) ?_ _
            refine NoPanic.normal ?_
            go_wp2_with (with_reducible refine wpList_fromD rfl (.tmp 62) _ rfl (some ⟨b, off, none⟩) n' c' 1 1 rfl rfl rfl (by omega) hnc ?_; intro A5 d5 _; have HD5 := Lib.hid (d5 w (x :: t) HQ.out); clear d5)
            refine ⟨⟨k + 1, n' - 1, c' - 1, A5, t, f, y, by go_num, rfl, by omega, by omega, by omega, HD5.out, HFL.out, HY1.out, HBZ, HFZ.out, HAZ.out, Lib.hid (by rw [div_step, div_step, HAT.out, HEN.out]; exact HUX.out)⟩, ?_⟩
            simp [intOf]
            omega
        · have hm : ((at' : Int)).tmod 2 = 1 := by rw [Int.tmod_eq_emod_of_nonneg (by omega)]; omega
          have hU := fun Q => upC_right nodeL (f, a) Q (i := at') (last := en) (by omega) (by omega)
          by_cases hn0 : n' = 0
          · obtain rfl : n' = 0 := hn0
            have hQ0 : Q = [] := List.eq_nil_of_length_eq_zero HQ.out.1
            have hRn : R = none := by rw [← HU.out, hQ0, hU []]
            have HRN := Lib.hid hRn
            clear hU hRn hQ0 h0
            go_wp2_with (first
              | (with_reducible refine wpList_zeroD rfl rfl ?_)
              | (with_reducible refine wpList_store_row Tryd.agg25 rfl (.tmp 8) (.tmp 46) rfl _ _ rfl rfl 46 (bcells f) HRF1.out lit32_size HFS.out lit32_one ?_; intro w5 hr5 ho5; have HF5 := Lib.hid hr5; have HA5 := Lib.hid (HRA1.out.only ho5 (by omega)); have hb5 := HB1'.trans (ho5.below (B := w.heap.size) (by omega) HB1'.size); clear hr5)
              | (with_reducible refine wpList_store_row Tryd.agg25 rfl (.tmp 9) (.tmp 47) rfl _ _ rfl rfl 46 (bcells a) HA5.out lit32_size HAS.out lit32_one ?_; intro w6 hr6 ho6; have HA6 := Lib.hid hr6; have HF6 := Lib.hid (HF5.out.only ho6 (by omega)); have hb6 := hb5.trans (ho6.below (B := w.heap.size) (by omega) hb5.size); clear hr6))
            try rw [Exit.noGoto_ret]
            refine bodyPost_ret (results_row12 Tryd.agg25 Tryd.results41 rfl rfl rfl HF6.out lit32_size HA6.out lit32_size) rfl ⟨zero32, zero32, false, rfl, zero32_length, zero32_length, ?_, hb6⟩
            rw [HRN.out]
          · obtain ⟨b, off, x, rfl, hbk, hx, hxl, hBx⟩ := HQ.out.get (k := 0) (by omega)
            obtain ⟨t, rfl⟩ : ∃ t, Q = x :: t := by
              match Q, hx with
              | y :: t, hx => simp at hx; subst hx; exact ⟨t, rfl⟩
            obtain ⟨o1, ho1⟩ : ∃ o, off + 32 * 0 = o := ⟨_, rfl⟩
            rw [ho1] at hBx
            have HO1 := Lib.hid ho1
            have KX := Lib.hid (fun wq (hb : Below w.heap.size w wq) => (hBx.below hb).range)
            have HXL := Lib.hid hxl
            have HUX := Lib.hid ((hU (x :: t)).symm.trans HU.out)
            have hlenp : 0 < n' := by omega
            have hle0 : ((n' : Int) == 0) = false := by simp; omega
            have hbg2 : b < gf := by omega
            clear hU hx hxl hBx ho1 hn0 h0 HU
            have HN1 := Lib.hid (fun w hT => Node_any x f w HXL.out HFL.out hT)
            have HY1 := Lib.hid (nodeL_length x f)
            have HYS := Lib.hid (show (bcells (nodeL x f)).size = 32 by rw [bcells_size, nodeL_length])
            have HN2 := Lib.hid (fun w hT => Node_any x a w HXL.out HAL.out hT)
            have HZ1 := Lib.hid (nodeL_length x a)
            have HZS := Lib.hid (show (bcells (nodeL x a)).size = 32 by rw [bcells_size, nodeL_length])
            obtain ⟨y, hy⟩ : ∃ y, nodeL x f = y := ⟨_, rfl⟩
            obtain ⟨z, hz⟩ : ∃ z, nodeL x a = z := ⟨_, rfl⟩
            have HUY := Lib.hid (show upC nodeL (at' / 2) (en / 2) (y, z) t = R by rw [← hy, ← hz]; exact HUX.out)
            rw [hy] at HN1 HY1 HYS
            rw [hz] at HN2 HZ1 HZS
            clear hy hz HUX
            have HUX := HUY
            clear HUY
            go_wp2_with fail
            refine cutR (fun a₀ a' w' => a' = ((((((((((a₀.put (some 52) (.slice (some ⟨b, off, none⟩) n' c')).put (some 53) (.pointer (some ⟨b, o1, none⟩))).put (some 54) (.agg (bcells x))).put (some 57) (.slice (some ⟨b, off, none⟩) n' c')).put (some 58) (.pointer (some ⟨b, o1, none⟩))).put (some 59) (.agg (bcells x))).put (some 55) (.agg (bcells f))).put (some 60) (.agg (bcells a))).put (some 56) (.agg (bcells y))).put (some 61) (.agg (bcells z))) ∧ Row w' gf 46 (bcells y) ∧ Row w' ga 46 (bcells z) ∧ Below w.heap.size w w') ?_ ?_
            · refine wp_region_noPanic ?_
              refine wp_region_held_drew (S := fun w' => w'.rangeAt b o1 (x.map bcell)) (by kernel_rfl) (KX.out _ HB1'.drew) (fun hHeld => ?_)
              refine takeD (i := 0) (some 52) (.slice (some ⟨b, off, none⟩) n' c') rfl rfl (by kernel_rfl) (by kernel_rfl) (by kernel_rfl) (fun _ _ _ h => h) (Or.inl ⟨by rfl, fun _ _ => rfl⟩) hHeld ?_
              simp only [Act.put, List.setIfInBounds_toArray, List.set_cons_zero, List.set_cons_succ]
              refine takeD (i := 1) (some 53) (.pointer (some ⟨b, o1, none⟩)) rfl rfl (by kernel_rfl) (by kernel_rfl) (by kernel_rfl) (fun _ _ _ h => h) (yields_indexO rfl (.tmp 52) _ rfl b off _ _ 0 o1 _ rfl rfl rfl hlenp HO1.out) hHeld ?_
              simp only [Act.put, List.setIfInBounds_toArray, List.set_cons_zero, List.set_cons_succ]
              refine takeD (i := 2) (some 54) (.agg (bcells x)) rfl rfl (by kernel_rfl) (by kernel_rfl) (by kernel_rfl) (fun _ _ _ h => h) (yields_loadW (by rfl) (.tmp 53) rfl b o1 x rfl (fun _ h => h) HXL.out) hHeld ?_
              simp only [Act.put, List.setIfInBounds_toArray, List.set_cons_zero, List.set_cons_succ]
              refine takeD (i := 5) (some 57) (.slice (some ⟨b, off, none⟩) n' c') rfl rfl (by kernel_rfl) (by kernel_rfl) (by kernel_rfl) (fun _ _ _ h => h) (Or.inl ⟨by rfl, fun _ _ => rfl⟩) hHeld ?_
              simp only [Act.put, List.setIfInBounds_toArray, List.set_cons_zero, List.set_cons_succ]
              refine takeD (i := 6) (some 58) (.pointer (some ⟨b, o1, none⟩)) rfl rfl (by kernel_rfl) (by kernel_rfl) (by kernel_rfl) (fun _ _ _ h => h) (yields_indexO rfl (.tmp 57) _ rfl b off _ _ 0 o1 _ rfl rfl rfl hlenp HO1.out) hHeld ?_
              simp only [Act.put, List.setIfInBounds_toArray, List.set_cons_zero, List.set_cons_succ]
              refine takeD (i := 7) (some 59) (.agg (bcells x)) rfl rfl (by kernel_rfl) (by kernel_rfl) (by kernel_rfl) (fun _ _ _ h => h) (yields_loadW (by rfl) (.tmp 58) rfl b o1 x rfl (fun _ h => h) HXL.out) hHeld ?_
              simp only [Act.put, List.setIfInBounds_toArray, List.set_cons_zero, List.set_cons_succ]
              have B0 : Below wd.heap.size wd wd.drew := (Below.refl wd.heap.size wd).drew
              have HA2 := Lib.hid (HRA1.out.below B0 hlta1)
              have HF2 := Lib.hid (HRF1.out.below B0 hltf1)
              have HAR := Lib.hid (range_row HA2.out)
              have HFR := Lib.hid (range_row HF2.out)
              have BW := HB1'.trans (B0.mono HB1'.size)
              refine wpAnyH_ready (rs := [3, 8]) (by kernel_rfl) (by decide) ?_
              refine AllReadyH.cons rfl (fun K' hK => ?_) (AllReadyH.cons rfl (fun K' hK => ?_) AllReadyH.nil)
              · refine step_of rfl (wp_loadD (.tmp 8) rfl gf 0 f rfl HFR.out HFL.out ?_)
                refine hK.out _ _ (KX.out _ BW) (fun hHeld2 => ?_)
                clear hK
                refine wpAnyH_ready (rs := [4, 8]) (by kernel_rfl) (by decide) ?_
                refine AllReadyH.cons rfl (fun K' hK => ?_) (AllReadyH.cons rfl (fun K' hK => ?_) AllReadyH.nil)
                · go_simp
                  refine (HN1.out wd.drew (HT.out.below BW)).mono ?_
                  rintro e3 w3 ⟨rfl, hb3x⟩
                  have HA3 := Lib.hid (HA2.out.below hb3x HA2.out.lt)
                  have HAR3 := Lib.hid (range_row HA3.out)
                  have HF3 := Lib.hid (HF2.out.below hb3x HF2.out.lt)
                  have BW3 := BW.trans (hb3x.mono BW.size)
                  refine hK.out _ _ (KX.out _ BW3) (fun hHeld3 => ?_)
                  clear hK
                  refine wpAnyH_ready (rs := [8]) (by kernel_rfl) (by decide) ?_
                  refine AllReadyH.cons rfl (fun K' hK => ?_) AllReadyH.nil
                  refine step_of rfl (wp_loadD (.tmp 9) rfl ga 0 a rfl HAR3.out HAL.out ?_)
                  refine hK.out _ _ (KX.out _ BW3) (fun hHeld4 => ?_)
                  clear hK
                  refine wpAnyH_ready (rs := [9]) (by kernel_rfl) (by decide) ?_
                  refine AllReadyH.cons rfl (fun K' hK => ?_) AllReadyH.nil
                  go_simp
                  refine (HN2.out w3 (HT.out.below BW3)).mono ?_
                  rintro e4 w4 ⟨rfl, hb4x⟩
                  have HA4 := Lib.hid (HA3.out.below hb4x HA3.out.lt)
                  have HF4 := Lib.hid (HF3.out.below hb4x HF3.out.lt)
                  have BW4 := BW3.trans (hb4x.mono BW3.size)
                  refine hK.out _ _ (KX.out _ BW4) (fun hHeld6 => ?_)
                  clear hK
                  refine wpAnyH_ready (rs := [10]) (by kernel_rfl) (by decide) ?_
                  refine AllReadyH.cons rfl (fun K' hK => ?_) AllReadyH.nil
                  refine step_store_row Tryd.agg25 rfl (.tmp 8) (.tmp 56) rfl _ _ rfl rfl 46 (bcells f) HF4.out HYS.out HFS.out (bcells_one _) ?_
                  intro w5 hr5 ho5
                  have HF5 := Lib.hid hr5
                  have HA5 := Lib.hid (HA4.out.only ho5 (by omega))
                  have BW5 := BW4.trans (ho5.below (B := w.heap.size) (by omega) BW4.size)
                  clear hr5
                  refine hK.out _ _ (KX.out _ BW5) (fun hHeld7 => ?_)
                  clear hK
                  refine wpAnyH_ready (rs := [11]) (by kernel_rfl) (by decide) ?_
                  refine AllReadyH.cons rfl (fun K' hK => ?_) AllReadyH.nil
                  refine step_store_row Tryd.agg25 rfl (.tmp 9) (.tmp 61) rfl _ _ rfl rfl 46 (bcells a) HA5.out HZS.out HAS.out (bcells_one _) ?_
                  intro w6 hr6 ho6
                  have HA6 := Lib.hid hr6
                  have HF6 := Lib.hid (HF5.out.only ho6 (by omega))
                  have BW6 := BW5.trans (ho6.below (B := w.heap.size) (by omega) BW5.size)
                  clear hr6
                  refine hK.out _ _ (KX.out _ BW6) (fun hHeld8 => ?_)
                  clear hK
                  refine wpAnyH_done (by kernel_rfl) ?_ _
                  refine NoPanic.normal ?_
                  exact ⟨rfl, rfl, HF6.out, HA6.out, BW6⟩
                · refine step_of rfl (wp_loadD (.tmp 9) rfl ga 0 a rfl HAR.out HAL.out ?_)
                  refine hK.out _ _ (KX.out _ BW) (fun hHeld3 => ?_)
                  clear hK
                  refine wpAnyH_ready (rs := [4]) (by kernel_rfl) (by decide) ?_
                  refine AllReadyH.cons rfl (fun K' hK => ?_) AllReadyH.nil
                  go_simp
                  refine (HN1.out wd.drew (HT.out.below BW)).mono ?_
                  rintro e3 w3 ⟨rfl, hb3x⟩
                  have HA3 := Lib.hid (HA2.out.below hb3x HA2.out.lt)
                  have HAR3 := Lib.hid (range_row HA3.out)
                  have HF3 := Lib.hid (HF2.out.below hb3x HF2.out.lt)
                  have BW3 := BW.trans (hb3x.mono BW.size)
                  refine hK.out _ _ (KX.out _ BW3) (fun hHeld4 => ?_)
                  clear hK
                  refine wpAnyH_ready (rs := [9]) (by kernel_rfl) (by decide) ?_
                  refine AllReadyH.cons rfl (fun K' hK => ?_) AllReadyH.nil
                  go_simp
                  refine (HN2.out w3 (HT.out.below BW3)).mono ?_
                  rintro e4 w4 ⟨rfl, hb4x⟩
                  have HA4 := Lib.hid (HA3.out.below hb4x HA3.out.lt)
                  have HF4 := Lib.hid (HF3.out.below hb4x HF3.out.lt)
                  have BW4 := BW3.trans (hb4x.mono BW3.size)
                  refine hK.out _ _ (KX.out _ BW4) (fun hHeld6 => ?_)
                  clear hK
                  refine wpAnyH_ready (rs := [10]) (by kernel_rfl) (by decide) ?_
                  refine AllReadyH.cons rfl (fun K' hK => ?_) AllReadyH.nil
                  refine step_store_row Tryd.agg25 rfl (.tmp 8) (.tmp 56) rfl _ _ rfl rfl 46 (bcells f) HF4.out HYS.out HFS.out (bcells_one _) ?_
                  intro w5 hr5 ho5
                  have HF5 := Lib.hid hr5
                  have HA5 := Lib.hid (HA4.out.only ho5 (by omega))
                  have BW5 := BW4.trans (ho5.below (B := w.heap.size) (by omega) BW4.size)
                  clear hr5
                  refine hK.out _ _ (KX.out _ BW5) (fun hHeld7 => ?_)
                  clear hK
                  refine wpAnyH_ready (rs := [11]) (by kernel_rfl) (by decide) ?_
                  refine AllReadyH.cons rfl (fun K' hK => ?_) AllReadyH.nil
                  refine step_store_row Tryd.agg25 rfl (.tmp 9) (.tmp 61) rfl _ _ rfl rfl 46 (bcells a) HA5.out HZS.out HAS.out (bcells_one _) ?_
                  intro w6 hr6 ho6
                  have HA6 := Lib.hid hr6
                  have HF6 := Lib.hid (HF5.out.only ho6 (by omega))
                  have BW6 := BW5.trans (ho6.below (B := w.heap.size) (by omega) BW5.size)
                  clear hr6
                  refine hK.out _ _ (KX.out _ BW6) (fun hHeld8 => ?_)
                  clear hK
                  refine wpAnyH_done (by kernel_rfl) ?_ _
                  refine NoPanic.normal ?_
                  exact ⟨rfl, rfl, HF6.out, HA6.out, BW6⟩
              · refine step_of rfl (wp_loadD (.tmp 9) rfl ga 0 a rfl HAR.out HAL.out ?_)
                refine hK.out _ _ (KX.out _ BW) (fun hHeld2 => ?_)
                clear hK
                refine wpAnyH_ready (rs := [3]) (by kernel_rfl) (by decide) ?_
                refine AllReadyH.cons rfl (fun K' hK => ?_) AllReadyH.nil
                refine step_of rfl (wp_loadD (.tmp 8) rfl gf 0 f rfl HFR.out HFL.out ?_)
                refine hK.out _ _ (KX.out _ BW) (fun hHeld3 => ?_)
                clear hK
                refine wpAnyH_ready (rs := [4]) (by kernel_rfl) (by decide) ?_
                refine AllReadyH.cons rfl (fun K' hK => ?_) AllReadyH.nil
                go_simp
                refine (HN1.out wd.drew (HT.out.below BW)).mono ?_
                rintro e3 w3 ⟨rfl, hb3x⟩
                have HA3 := Lib.hid (HA2.out.below hb3x HA2.out.lt)
                have HAR3 := Lib.hid (range_row HA3.out)
                have HF3 := Lib.hid (HF2.out.below hb3x HF2.out.lt)
                have BW3 := BW.trans (hb3x.mono BW.size)
                refine hK.out _ _ (KX.out _ BW3) (fun hHeld4 => ?_)
                clear hK
                refine wpAnyH_ready (rs := [9]) (by kernel_rfl) (by decide) ?_
                refine AllReadyH.cons rfl (fun K' hK => ?_) AllReadyH.nil
                go_simp
                refine (HN2.out w3 (HT.out.below BW3)).mono ?_
                rintro e4 w4 ⟨rfl, hb4x⟩
                have HA4 := Lib.hid (HA3.out.below hb4x HA3.out.lt)
                have HF4 := Lib.hid (HF3.out.below hb4x HF3.out.lt)
                have BW4 := BW3.trans (hb4x.mono BW3.size)
                refine hK.out _ _ (KX.out _ BW4) (fun hHeld6 => ?_)
                clear hK
                refine wpAnyH_ready (rs := [10]) (by kernel_rfl) (by decide) ?_
                refine AllReadyH.cons rfl (fun K' hK => ?_) AllReadyH.nil
                refine step_store_row Tryd.agg25 rfl (.tmp 8) (.tmp 56) rfl _ _ rfl rfl 46 (bcells f) HF4.out HYS.out HFS.out (bcells_one _) ?_
                intro w5 hr5 ho5
                have HF5 := Lib.hid hr5
                have HA5 := Lib.hid (HA4.out.only ho5 (by omega))
                have BW5 := BW4.trans (ho5.below (B := w.heap.size) (by omega) BW4.size)
                clear hr5
                refine hK.out _ _ (KX.out _ BW5) (fun hHeld7 => ?_)
                clear hK
                refine wpAnyH_ready (rs := [11]) (by kernel_rfl) (by decide) ?_
                refine AllReadyH.cons rfl (fun K' hK => ?_) AllReadyH.nil
                refine step_store_row Tryd.agg25 rfl (.tmp 9) (.tmp 61) rfl _ _ rfl rfl 46 (bcells a) HA5.out HZS.out HAS.out (bcells_one _) ?_
                intro w6 hr6 ho6
                have HA6 := Lib.hid hr6
                have HF6 := Lib.hid (HF5.out.only ho6 (by omega))
                have BW6 := BW5.trans (ho6.below (B := w.heap.size) (by omega) BW5.size)
                clear hr6
                refine hK.out _ _ (KX.out _ BW6) (fun hHeld8 => ?_)
                clear hK
                refine wpAnyH_done (by kernel_rfl) ?_ _
                refine NoPanic.normal ?_
                exact ⟨rfl, rfl, HF6.out, HA6.out, BW6⟩
            · intro a' w5 ⟨ha', hfz, haz, HBZ⟩
              subst ha'
              have HFZ := Lib.hid hfz
              have HAZ := Lib.hid haz
              clear hfz haz
              simp only [Act.put, List.setIfInBounds_toArray, List.set_cons_zero, List.set_cons_succ]
              go_wp2_with (with_reducible refine wpList_fromD rfl (.tmp 62) _ rfl (some ⟨b, off, none⟩) n' c' 1 1 rfl rfl rfl (by omega) hnc ?_; intro A5 d5 _; have HD5 := Lib.hid (d5 w (x :: t) HQ.out); clear d5)
              refine ⟨⟨k + 1, n' - 1, c' - 1, A5, t, y, z, by go_num, rfl, by omega, by omega, by omega, HD5.out, HY1.out, HZ1.out, HBZ, HFZ.out, HAZ.out, Lib.hid (by rw [div_step, div_step, HAT.out, HEN.out]; exact HUX.out)⟩, ?_⟩
              simp [intOf]
              omega
    · have hlt2 : ¬ (k : Int) < (M : Int) := by omega
      have h2 : last / 2 ^ k = 0 := by
        by_cases hz : last / 2 ^ k = 0
        · exact hz
        · exact absurd ((HLT.out k).2 hz) hlt
      rw [h2, upC_zero] at HU
      obtain ⟨bv, hbv⟩ : ∃ bv, ((n' : Int) == 0) = bv := ⟨_, rfl⟩
      have HBV := Lib.hid hbv
      have KS : Hid (wr.drew.rangeAt gf 0 (f.map bcell) ∧ wr.drew.rangeAt ga 0 (a.map bcell)) := Lib.hid ⟨range_row (HRF.out.below (Below.refl _ _).drew hltf), range_row (HRA.out.below (Below.refl _ _).drew hlta)⟩
      clear h2 hbv hlt
      go_wp2_with fail
      refine wp_region_noPanic ?_
      refine wp_region_held_drew (S := fun w' => w'.rangeAt gf 0 (f.map bcell) ∧ w'.rangeAt ga 0 (a.map bcell)) (by kernel_rfl) KS.out (fun hHeld => ?_)
      refine takeD (i := 0) (some 65) (.agg (bcells f)) rfl rfl (by kernel_rfl) (by kernel_rfl) (by kernel_rfl) (fun _ _ _ h => h) (yields_loadW (by rfl) (.tmp 8) rfl gf 0 f rfl (fun _ h => h.1) HFL.out) hHeld ?_
      simp only [Act.put, List.setIfInBounds_toArray, List.set_cons_zero, List.set_cons_succ]
      refine takeD (i := 1) (some 66) (.agg (bcells a)) rfl rfl (by kernel_rfl) (by kernel_rfl) (by kernel_rfl) (fun _ _ _ h => h) (yields_loadW (by rfl) (.tmp 9) rfl ga 0 a rfl (fun _ h => h.2) HAL.out) hHeld ?_
      simp only [Act.put, List.setIfInBounds_toArray, List.set_cons_zero, List.set_cons_succ]
      refine takeD (i := 2) (some 67) (.slice A' n' c') rfl rfl (by kernel_rfl) (by kernel_rfl) (by kernel_rfl) (fun _ _ _ h => h) (Or.inl ⟨by rfl, fun _ _ => rfl⟩) hHeld ?_
      simp only [Act.put, List.setIfInBounds_toArray, List.set_cons_zero, List.set_cons_succ]
      refine takeD (i := 3) (some 68) (.int .i64 (n' : Int)) rfl rfl (by kernel_rfl) (by kernel_rfl) (by kernel_rfl) (fun _ _ _ h => h) (yields_len (by rfl) (.tmp 67) rfl A' n' c' rfl) hHeld ?_
      simp only [Act.put, List.setIfInBounds_toArray, List.set_cons_zero, List.set_cons_succ]
      refine takeD (i := 4) (some 69) (.bool bv) rfl rfl (by kernel_rfl) (by kernel_rfl) (by kernel_rfl) (fun _ _ _ h => h) (yields_eqI rfl (.tmp 68) _ rfl (n' : Int) 0 bv rfl rfl HBV.out) hHeld ?_
      simp only [Act.put, List.setIfInBounds_toArray, List.set_cons_zero, List.set_cons_succ]
      have B0 : Below wr.heap.size wr wr.drew := (Below.refl wr.heap.size wr).drew
      have HF1 := Lib.hid (HRF.out.below B0 hltf)
      have HA1 := Lib.hid (HRA.out.below B0 hlta)
      have BW := HBE.out.trans (B0.mono HBE.out.size)
      refine wpAnyH_ready (rs := [5]) (by kernel_rfl) (by decide) ?_
      refine AllReadyH.cons rfl (fun K' hK => ?_) AllReadyH.nil
      refine step_store_row Tryd.agg25 rfl (.tmp 8) (.tmp 65) rfl _ _ rfl rfl 46 (bcells f) HF1.out HFS.out HFS.out (bcells_one _) ?_
      intro w5 hr5 ho5
      have HF5 := Lib.hid hr5
      have HA5 := Lib.hid (HA1.out.only ho5 (by omega))
      have BW5 := BW.trans (ho5.below (B := w.heap.size) (by omega) BW.size)
      clear hr5
      refine hK.out _ _ ⟨range_row HF5.out, range_row HA5.out⟩ (fun hHeld5 => ?_)
      clear hK
      refine wpAnyH_ready (rs := [6]) (by kernel_rfl) (by decide) ?_
      refine AllReadyH.cons rfl (fun K' hK => ?_) AllReadyH.nil
      refine step_store_row Tryd.agg25 rfl (.tmp 9) (.tmp 66) rfl _ _ rfl rfl 46 (bcells a) HA5.out HAS.out HAS.out (bcells_one _) ?_
      intro w6 hr6 ho6
      have HA6 := Lib.hid hr6
      have HF6 := Lib.hid (HF5.out.only ho6 (by omega))
      have BW6 := BW5.trans (ho6.below (B := w.heap.size) (by omega) BW5.size)
      clear hr6
      refine hK.out _ _ ⟨range_row HF6.out, range_row HA6.out⟩ (fun hHeld6 => ?_)
      clear hK
      refine takeD (i := 7) (some 10) (.bool bv) rfl rfl (by kernel_rfl) (by kernel_rfl) (by kernel_rfl) (fun _ _ _ h => h) (Or.inl ⟨by rfl, fun _ _ => rfl⟩) hHeld6 ?_
      (try simp only [Act.put, List.setIfInBounds_toArray])
      refine wpAnyH_done (by kernel_rfl) ?_ _
      refine NoPanic.normal ?_
      go_wp2_with fail
      try rw [Exit.noGoto_ret]
      refine bodyPost_ret (results_row12 Tryd.agg25 Tryd.results41 rfl rfl rfl HF6.out HFS.out HA6.out HAS.out) rfl ⟨f, a, bv, rfl, HFL.out, HAL.out, ?_, BW6⟩
      rw [← HU.out]
      have hql := HQ.out.1
      have hbv := HBV.out
      by_cases hq0 : Q = []
      · rw [if_pos hq0]
        subst hq0
        refine ⟨?_, rfl⟩
        rw [← hbv]
        have : n' = 0 := hql.symm
        subst this
        rfl
      · rw [if_neg hq0]
        show bv = false
        rw [← hbv]
        have : n' ≠ 0 := fun h0 => hq0 (List.eq_nil_of_length_eq_zero (by omega))
        simp
        omega
end Go.Proofs.YtbpbpdaohganaaaDoor
