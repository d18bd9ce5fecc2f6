/-
  A call on both sides.
-/
import Derived.Test.YtgiobcpljbpmiaaDoorVltR
namespace Go.Proofs.YtgiobcpljbpmiaaDoor
open Go.RowKit
/-- both vaults side by side: they have the same, in blocks apart -/
def Pair (w : World) (v g m : Nat) (P D : Nat → Prop) (S : Tp) (V : Vs) : Prop := VT w v g P S V ∧ DM w m D V ∧ S.live ∧ ∀ b, P b → ¬ D b
theorem Pair.below {w w' : World} {v g m : Nat} {P D : Nat → Prop} {S : Tp} {V : Vs} (h : Pair w v g m P D S V) (hb : Below w.heap.size w w') : Pair w' v g m P D S V := ⟨h.1.below hb, h.2.1.below hb, h.2.2⟩
/-- what does makes of both -/
def DoesR (w : World) (v g m : Nat) (P D : Nat → Prop) (S : Tp) (_V V' : Vs) (e : Ending) (w' : World) : Prop :=
  e = .returned (.bool true) ∧ Off (fun b => P b ∨ D b) w w' ∧ ∃ P' D' S', Grows w P P' ∧ Grows w D D' ∧ Pair w' v g m P' D' S' V' ∧ (S'.cont 0).length ≤ (S.cont 0).length + 600
theorem pair_apart {w w3 w4 w5 : World} {P P' D D' : Nat → Prop} (hPD : ∀ b, P b → ¬ D b) (_hP : ∀ b, P b → b < w.heap.size) (hD : ∀ b, D b → b < w.heap.size) (h3 : w.heap.size ≤ w3.heap.size) (_h34 : w3.heap.size ≤ w4.heap.size) (g1 : Grows w3 P P') (g2 : Grows w4 D D') (hP' : ∀ b, P' b → b < w4.heap.size) (_h5 : w4.heap.size ≤ w5.heap.size) : ∀ b, P' b → ¬ D' b := fun b p d => by
  have hp := hP' b p
  rcases g2 b d with d | d
  · rcases g1 b p with p | p
    · exact hPD b p d
    · have := hD b d; omega
  · omega
set_option maxRecDepth 100000 in
set_option maxHeartbeats 4000000 in
theorem does_add {S : Tp} (v g m : Nat) (P D : Nat → Prop) (V : Vs) (ki : Int) (T I : Option Addr) (n c p d : Nat) (t : List UInt8) (w : World) (h : Pair w v g m P D S V) (hTb : Tab 2 w) (hB : Bs w T n t) (hT : n = 0 ∨ ∀ b off, T = some ⟨b, off, none⟩ → ¬ P b ∧ ¬ D b) (hn : n ≤ 500) (hg : V.gen ≤ 1000) (hki : ki = 0) (hc : (S.cont 0).length + 600 ≤ 1048576) :
    Calls Tryd.prog 16 #[.pointer (some ⟨v, 0, none⟩), .pointer (some ⟨m, 0, none⟩), .agg (clC ki T n c I p d)] w (DoesR w v g m P D S V (V.add t)) := by
  obtain ⟨hV, hM, hl, hPD⟩ := h
  have hb0 : Below w.heap.size w (w.alloc (.cells (clC ki T n c I p d) 39)) := (Below.refl _ _).alloc (Nat.le_refl _) _
  have HX0 := Lib.hid (Row.new w 39 (clC ki T n c I p d))
  have hcnt : V.recs.length + 1 ≤ 1000000000 := by have := hV.small.2.2.2; omega
  have hmb : n = 0 ∨ ∀ b off, T = some ⟨b, off, none⟩ → b ≠ m := hT.imp id (fun hT b off e q => (hT b off e).2 (by rw [q]; exact hM.1))
  have HOw := Lib.hid (fun w hB => own_any T n c t w hB (by omega))
  have HAd := Lib.hid (fun (A : Option Addr) (c : Nat) (w : World) (a1 : VT w v g P S V) a2 a3 => VAdd (S := S) v g n c A t P V w a1 a2 a3 (by omega) (by omega))
  have HMA := Lib.hid (fun (w : World) (a1 : DM w m D V) a2 => MAdd_any m n c T t D V w a1 a2 (by omega) hcnt)
  have HB := Lib.hid (fun wq (hb : Below w.heap.size w wq) => hB.below hb)
  have HVT := Lib.hid (fun wq (hb : Below w.heap.size w wq) => hV.below hb)
  have HDM := Lib.hid (fun wq (hb : Below w.heap.size w wq) => hM.below hb)
  have HTb := Lib.hid (fun wq (hb : Below w.heap.size w wq) => hTb.below hb)
  have HP := Lib.hid hV.1
  have HP2 := Lib.hid hV.2.1
  have HD := Lib.hid hM.2.1
  have HPD := Lib.hid hPD
  have HT := Lib.hid hT
  have HL := Lib.hid hl
  have HF := Lib.hid (vFr_small (a := (V.gen, t)) (by simp only; omega) (by simp only; rw [hB.1]; exact hn))
  have HC := Lib.hid hc
  obtain ⟨wz, hwz⟩ : ∃ wz, w.alloc (.cells (clC ki T n c I p d) 39) = wz := ⟨_, rfl⟩
  have hltz : w.heap.size < wz.heap.size := by rw [← hwz]; simp
  have HLZ := Lib.hid hltz
  rw [hwz] at hb0 HX0
  have HZ := Lib.hid hb0
  have KP : Hid (∀ wq, Below wz.heap.size wz wq → Row wq w.heap.size 39 (clC ki T n c I p d)) := Lib.hid (fun wq hb => HX0.out.below hb hltz)
  have q0 : wz.cell? ⟨w.heap.size, 0, none⟩ = some (.int .i64 ki) := HX0.out.cell 0
  unfold S4NewSlice at HOw
  rw [hB.1] at HOw
  clear hV hM hl hPD hb0 HX0 hcnt hmb hB hT hTb hn hg hltz hc
  unfold clC at hwz
  unfold clC
  have dk : (ki == 0) = true := by rw [hki]; rfl
  clear hki
  go_enter Tryd.func16, Tryd.ntmps16
  go_wp2_with fail
  clear hwz
  have Z0 : Below wz.heap.size wz wz.drew := (Below.refl wz.heap.size wz).drew
  refine wp_region_noPanic ?_
  refine wp_region_held_drew (S := fun w' => Row w' w.heap.size 39 (clC ki T n c I p d)) (by kernel_rfl) (KP.out _ Z0) (fun hHeld => ?_)
  refine takeD (i := 0) (some 10) (.pointer (some ⟨v, 0, none⟩)) rfl rfl (by kernel_rfl) (by kernel_rfl) (by kernel_rfl) (fun _ _ _ h => h) (Or.inl ⟨by rfl, fun _ _ => rfl⟩) hHeld ?_
  simp only [Act.put, List.setIfInBounds_toArray, List.set_cons_zero, List.set_cons_succ]
  refine takeD (i := 1) (some 11) (.pointer (some ⟨w.heap.size, 1, none⟩)) rfl rfl (by kernel_rfl) (by kernel_rfl) (by kernel_rfl) (fun _ _ _ h => h) (yields_fldM (by rfl) 39 (.tmp 5) 1 rfl (d := 1) (by decide) (w.heap.size) 0 _ rfl rfl) hHeld ?_
  simp only [Act.put, List.setIfInBounds_toArray, List.set_cons_zero, List.set_cons_succ]
  refine takeD (i := 2) (some 12) (.slice T n c) rfl rfl (by kernel_rfl) (by kernel_rfl) (by kernel_rfl) (fun _ _ _ h => h) (yieldsC (by rfl) 32 (.tmp 11) rfl (by decide) (w.heap.size) (1) _ rfl (fun _ h => h.cell 1)) hHeld ?_
  simp only [Act.put, List.setIfInBounds_toArray, List.set_cons_zero, List.set_cons_succ]
  refine takeD (i := 5) (some 15) (.pointer (some ⟨m, 0, none⟩)) rfl rfl (by kernel_rfl) (by kernel_rfl) (by kernel_rfl) (fun _ _ _ h => h) (Or.inl ⟨by rfl, fun _ _ => rfl⟩) hHeld ?_
  simp only [Act.put, List.setIfInBounds_toArray, List.set_cons_zero, List.set_cons_succ]
  refine takeD (i := 6) (some 16) (.pointer (some ⟨w.heap.size, 1, none⟩)) rfl rfl (by kernel_rfl) (by kernel_rfl) (by kernel_rfl) (fun _ _ _ h => h) (yields_fldM (by rfl) 39 (.tmp 5) 1 rfl (d := 1) (by decide) (w.heap.size) 0 _ rfl rfl) hHeld ?_
  simp only [Act.put, List.setIfInBounds_toArray, List.set_cons_zero, List.set_cons_succ]
  refine takeD (i := 7) (some 17) (.slice T n c) rfl rfl (by kernel_rfl) (by kernel_rfl) (by kernel_rfl) (fun _ _ _ h => h) (yieldsC (by rfl) 32 (.tmp 16) rfl (by decide) (w.heap.size) (1) _ rfl (fun _ h => h.cell 1)) hHeld ?_
  simp only [Act.put, List.setIfInBounds_toArray, List.set_cons_zero, List.set_cons_succ]
  refine wpAnyH_ready (rs := [3]) (by kernel_rfl) (by decide) ?_
  refine AllReadyH.cons rfl (fun K' hK => ?_) AllReadyH.nil
  go_simp
  refine (HOw.out wz.drew (HB.out _ (HZ.out.trans (Z0.mono HZ.out.size)))).mono ?_
  rintro e3 w3 ⟨A3, c3, rfl, hc3, hb3, ho3⟩
  have B3 : Below wz.heap.size wz w3 := Z0.trans hb3
  have W3 : Below w.heap.size w w3 := HZ.out.trans (B3.mono HZ.out.size)
  have HO3 := Lib.hid ho3
  clear ho3 hc3 hb3
  refine hK.out _ _ (KP.out _ B3) (fun hHeld1 => ?_)
  clear hK
  refine wpAnyH_ready (rs := [4]) (by kernel_rfl) (by decide) ?_
  refine AllReadyH.cons rfl (fun K' hK => ?_) AllReadyH.nil
  go_simp
  refine (HAd.out A3 c3 w3 (HVT.out _ W3) (HTb.out _ W3) HO3.out.bs).mono ?_
  rintro e4 w4 hr4
  obtain ⟨rfl, ho4, P4, S4, hg4, hv4, hc4, hl4⟩ := (by exact hr4.ok HL.out (by have := HF.out; have := HC.out; omega))
  have HO4 := Lib.hid ho4
  have HG4 := Lib.hid hg4
  have HV4 := Lib.hid hv4
  have HC4 := Lib.hid hc4
  have HL4 := Lib.hid hl4
  have KZ4 := Lib.hid (show Row w4 w.heap.size 39 (clC ki T n c I p d) from (KP.out _ B3).off ho4 (fun q => by have := HP.out _ q; omega))
  clear hr4 ho4 hg4 hv4 hc4 hl4
  refine hK.out _ _ KZ4.out (fun hHeld2 => ?_)
  clear hK
  refine wpAnyH_ready (rs := [8]) (by kernel_rfl) (by decide) ?_
  refine AllReadyH.cons rfl (fun K' hK => ?_) AllReadyH.nil
  go_simp
  refine (HMA.out w4 ((HDM.out _ W3).off HO4.out (fun b q q2 => HPD.out b q2 q)) ((HB.out _ W3).off0 (HT.out.imp id (fun hT b off e q => (hT b off e).1 q)) HO4.out)).mono ?_
  rintro e5 w5 ⟨rfl, ho5, D5, hg5, hd5⟩
  have HO5 := Lib.hid ho5
  have HG5 := Lib.hid hg5
  have HD5 := Lib.hid hd5
  have KZ5 := Lib.hid (show Row w5 w.heap.size 39 (clC ki T n c I p d) from KZ4.out.off ho5 (fun q => by have := HD.out _ q; omega))
  clear ho5 hg5 hd5
  refine hK.out _ _ KZ5.out (fun hHeld3 => ?_)
  clear hK
  refine takeD (i := 9) (some 19) (.bool true) rfl rfl (by kernel_rfl) (by kernel_rfl) (by kernel_rfl) (fun _ _ _ h => h) (yields_eqN (by rfl) _ _ rfl 0 0 true rfl rfl (by simp)) hHeld3 ?_
  simp only [Act.put, List.setIfInBounds_toArray, List.set_cons_zero, List.set_cons_succ]
  refine takeD (i := 10) (some 6) (.bool true) rfl rfl (by kernel_rfl) (by kernel_rfl) (by kernel_rfl) (fun _ _ _ h => h) (Or.inl ⟨by rfl, fun _ _ => rfl⟩) hHeld3 ?_
  simp only [Act.put, List.setIfInBounds_toArray, List.set_cons_zero, List.set_cons_succ]
  (try simp only [Act.put, List.setIfInBounds_toArray])
  refine wpAnyH_done (by kernel_rfl) ?_ _
  refine NoPanic.normal ?_
  go_wp2_with fail
  go_ret
  have hs3 := W3.size
  have hs4 := HO4.out.size
  have hs5 := HO5.out.size
  have hap := pair_apart (w := w) (w3 := w3) (w4 := w4) (w5 := w5) HPD.out HP.out HD.out hs3 hs4 HG4.out HG5.out HV4.out.1 hs5
  refine ⟨rfl, ((Off.of_below W3).trans (HO4.out.mono (fun _ q => Or.inl q)) (fun x q => .inl q)).trans (HO5.out.mono (fun _ q => Or.inr q)) (fun x q => .inl q), P4, D5, S4, fun b q => ?_, fun b q => ?_, ⟨HV4.out.off HO5.out (fun b q q2 => ?_), HD5.out, HL4.out, hap⟩, ?_⟩
  · rcases HG4.out b q with q | q
    · exact .inl q
    · exact .inr (Nat.le_trans hs3 q)
  · rcases HG5.out b q with q | q
    · exact .inl q
    · exact .inr (by omega)
  · rcases HG4.out b q with q | q
    · exact HPD.out b q q2
    · have := HD.out b q2; omega
  · rw [HC4.out, put_same, List.length_append]
    have := HF.out
    omega
set_option maxRecDepth 100000 in
set_option maxHeartbeats 4000000 in
theorem does_save {S : Tp} (v g m : Nat) (P D : Nat → Prop) (V : Vs) (ki : Int) (T I : Option Addr) (n c p d : Nat) (t : List UInt8) (w : World) (h : Pair w v g m P D S V) (hTb : Tab 2 w) (hB : Bs w T n t) (hT : n = 0 ∨ ∀ b off, T = some ⟨b, off, none⟩ → ¬ P b ∧ ¬ D b) (hn : n ≤ 500) (hg : V.gen ≤ 1000) (hki : ki = 1) :
    Calls Tryd.prog 16 #[.pointer (some ⟨v, 0, none⟩), .pointer (some ⟨m, 0, none⟩), .agg (clC ki T n c I p d)] w (DoesR w v g m P D S V (V.save t)) := by
  obtain ⟨hV, hM, hl, hPD⟩ := h
  have hb0 : Below w.heap.size w (w.alloc (.cells (clC ki T n c I p d) 39)) := (Below.refl _ _).alloc (Nat.le_refl _) _
  have HX0 := Lib.hid (Row.new w 39 (clC ki T n c I p d))
  have hcnt : V.recs.length + 1 ≤ 1000000000 := by have := hV.small.2.2.2; omega
  have hmb : n = 0 ∨ ∀ b off, T = some ⟨b, off, none⟩ → b ≠ m := hT.imp id (fun hT b off e q => (hT b off e).2 (by rw [q]; exact hM.1))
  have HOw := Lib.hid (fun w hB => own_any T n c t w hB (by omega))
  have HAd := Lib.hid (fun (A : Option Addr) (c : Nat) (w : World) (a1 : VT w v g P S V) a2 a3 => VSave (S := S) v g n c A t P V w a1 a2 a3 (by omega) (by omega))
  have HMA := Lib.hid (fun (w : World) (a1 : DM w m D V) a2 => MSave_any m n c T t D V w a1 a2 (by omega) (by omega) hmb)
  have HB := Lib.hid (fun wq (hb : Below w.heap.size w wq) => hB.below hb)
  have HVT := Lib.hid (fun wq (hb : Below w.heap.size w wq) => hV.below hb)
  have HDM := Lib.hid (fun wq (hb : Below w.heap.size w wq) => hM.below hb)
  have HTb := Lib.hid (fun wq (hb : Below w.heap.size w wq) => hTb.below hb)
  have HP := Lib.hid hV.1
  have HP2 := Lib.hid hV.2.1
  have HD := Lib.hid hM.2.1
  have HPD := Lib.hid hPD
  have HT := Lib.hid hT
  have HL := Lib.hid hl
  obtain ⟨wz, hwz⟩ : ∃ wz, w.alloc (.cells (clC ki T n c I p d) 39) = wz := ⟨_, rfl⟩
  have hltz : w.heap.size < wz.heap.size := by rw [← hwz]; simp
  have HLZ := Lib.hid hltz
  rw [hwz] at hb0 HX0
  have HZ := Lib.hid hb0
  have KP : Hid (∀ wq, Below wz.heap.size wz wq → Row wq w.heap.size 39 (clC ki T n c I p d)) := Lib.hid (fun wq hb => HX0.out.below hb hltz)
  have q0 : wz.cell? ⟨w.heap.size, 0, none⟩ = some (.int .i64 ki) := HX0.out.cell 0
  unfold S4NewSlice at HOw
  rw [hB.1] at HOw
  clear hV hM hl hPD hb0 HX0 hcnt hmb hB hT hTb hn hg hltz
  unfold clC at hwz
  unfold clC
  have dk : (ki == 0) = false := by rw [hki]; rfl
  clear hki
  go_enter Tryd.func16, Tryd.ntmps16
  go_wp2_with fail
  clear hwz
  have Z0 : Below wz.heap.size wz wz.drew := (Below.refl wz.heap.size wz).drew
  refine wp_region_noPanic ?_
  refine wp_region_held_drew (S := fun w' => Row w' w.heap.size 39 (clC ki T n c I p d)) (by kernel_rfl) (KP.out _ Z0) (fun hHeld => ?_)
  refine takeD (i := 0) (some 20) (.pointer (some ⟨v, 0, none⟩)) rfl rfl (by kernel_rfl) (by kernel_rfl) (by kernel_rfl) (fun _ _ _ h => h) (Or.inl ⟨by rfl, fun _ _ => rfl⟩) hHeld ?_
  simp only [Act.put, List.setIfInBounds_toArray, List.set_cons_zero, List.set_cons_succ]
  refine takeD (i := 1) (some 21) (.pointer (some ⟨w.heap.size, 1, none⟩)) rfl rfl (by kernel_rfl) (by kernel_rfl) (by kernel_rfl) (fun _ _ _ h => h) (yields_fldM (by rfl) 39 (.tmp 5) 1 rfl (d := 1) (by decide) (w.heap.size) 0 _ rfl rfl) hHeld ?_
  simp only [Act.put, List.setIfInBounds_toArray, List.set_cons_zero, List.set_cons_succ]
  refine takeD (i := 2) (some 22) (.slice T n c) rfl rfl (by kernel_rfl) (by kernel_rfl) (by kernel_rfl) (fun _ _ _ h => h) (yieldsC (by rfl) 32 (.tmp 21) rfl (by decide) (w.heap.size) (1) _ rfl (fun _ h => h.cell 1)) hHeld ?_
  simp only [Act.put, List.setIfInBounds_toArray, List.set_cons_zero, List.set_cons_succ]
  refine takeD (i := 5) (some 25) (.pointer (some ⟨m, 0, none⟩)) rfl rfl (by kernel_rfl) (by kernel_rfl) (by kernel_rfl) (fun _ _ _ h => h) (Or.inl ⟨by rfl, fun _ _ => rfl⟩) hHeld ?_
  simp only [Act.put, List.setIfInBounds_toArray, List.set_cons_zero, List.set_cons_succ]
  refine takeD (i := 6) (some 26) (.pointer (some ⟨w.heap.size, 1, none⟩)) rfl rfl (by kernel_rfl) (by kernel_rfl) (by kernel_rfl) (fun _ _ _ h => h) (yields_fldM (by rfl) 39 (.tmp 5) 1 rfl (d := 1) (by decide) (w.heap.size) 0 _ rfl rfl) hHeld ?_
  simp only [Act.put, List.setIfInBounds_toArray, List.set_cons_zero, List.set_cons_succ]
  refine takeD (i := 7) (some 27) (.slice T n c) rfl rfl (by kernel_rfl) (by kernel_rfl) (by kernel_rfl) (fun _ _ _ h => h) (yieldsC (by rfl) 32 (.tmp 26) rfl (by decide) (w.heap.size) (1) _ rfl (fun _ h => h.cell 1)) hHeld ?_
  simp only [Act.put, List.setIfInBounds_toArray, List.set_cons_zero, List.set_cons_succ]
  refine wpAnyH_ready (rs := [3]) (by kernel_rfl) (by decide) ?_
  refine AllReadyH.cons rfl (fun K' hK => ?_) AllReadyH.nil
  go_simp
  refine (HOw.out wz.drew (HB.out _ (HZ.out.trans (Z0.mono HZ.out.size)))).mono ?_
  rintro e3 w3 ⟨A3, c3, rfl, hc3, hb3, ho3⟩
  have B3 : Below wz.heap.size wz w3 := Z0.trans hb3
  have W3 : Below w.heap.size w w3 := HZ.out.trans (B3.mono HZ.out.size)
  have HO3 := Lib.hid ho3
  clear ho3 hc3 hb3
  refine hK.out _ _ (KP.out _ B3) (fun hHeld1 => ?_)
  clear hK
  refine wpAnyH_ready (rs := [4]) (by kernel_rfl) (by decide) ?_
  refine AllReadyH.cons rfl (fun K' hK => ?_) AllReadyH.nil
  go_simp
  refine (HAd.out A3 c3 w3 (HVT.out _ W3) (HTb.out _ W3) HO3.out.bs).mono ?_
  rintro e4 w4 hr4
  obtain ⟨rfl, ho4, P4, S4, hg4, hv4, hc4, hl4⟩ := (by exact hr4.ok HL.out)
  have HO4 := Lib.hid ho4
  have HG4 := Lib.hid hg4
  have HV4 := Lib.hid hv4
  have HC4 := Lib.hid hc4
  have HL4 := Lib.hid hl4
  have KZ4 := Lib.hid (show Row w4 w.heap.size 39 (clC ki T n c I p d) from (KP.out _ B3).off ho4 (fun q => by have := HP.out _ q; omega))
  clear hr4 ho4 hg4 hv4 hc4 hl4
  refine hK.out _ _ KZ4.out (fun hHeld2 => ?_)
  clear hK
  refine wpAnyH_ready (rs := [8]) (by kernel_rfl) (by decide) ?_
  refine AllReadyH.cons rfl (fun K' hK => ?_) AllReadyH.nil
  go_simp
  refine (HMA.out w4 ((HDM.out _ W3).off HO4.out (fun b q q2 => HPD.out b q2 q)) ((HB.out _ W3).off0 (HT.out.imp id (fun hT b off e q => (hT b off e).1 q)) HO4.out)).mono ?_
  rintro e5 w5 ⟨rfl, ho5, D5, hg5, hd5⟩
  have HO5 := Lib.hid ho5
  have HG5 := Lib.hid hg5
  have HD5 := Lib.hid hd5
  have KZ5 := Lib.hid (show Row w5 w.heap.size 39 (clC ki T n c I p d) from KZ4.out.off ho5 (fun q => by have := HD.out _ q; omega))
  clear ho5 hg5 hd5
  refine hK.out _ _ KZ5.out (fun hHeld3 => ?_)
  clear hK
  refine takeD (i := 9) (some 29) (.bool true) rfl rfl (by kernel_rfl) (by kernel_rfl) (by kernel_rfl) (fun _ _ _ h => h) (yields_eqN (by rfl) _ _ rfl 0 0 true rfl rfl (by simp)) hHeld3 ?_
  simp only [Act.put, List.setIfInBounds_toArray, List.set_cons_zero, List.set_cons_succ]
  refine takeD (i := 10) (some 6) (.bool true) rfl rfl (by kernel_rfl) (by kernel_rfl) (by kernel_rfl) (fun _ _ _ h => h) (Or.inl ⟨by rfl, fun _ _ => rfl⟩) hHeld3 ?_
  simp only [Act.put, List.setIfInBounds_toArray, List.set_cons_zero, List.set_cons_succ]
  (try simp only [Act.put, List.setIfInBounds_toArray])
  refine wpAnyH_done (by kernel_rfl) ?_ _
  refine NoPanic.normal ?_
  go_wp2_with fail
  go_ret
  have hs3 := W3.size
  have hs4 := HO4.out.size
  have hs5 := HO5.out.size
  have hap := pair_apart (w := w) (w3 := w3) (w4 := w4) (w5 := w5) HPD.out HP.out HD.out hs3 hs4 HG4.out HG5.out HV4.out.1 hs5
  refine ⟨rfl, ((Off.of_below W3).trans (HO4.out.mono (fun _ q => Or.inl q)) (fun x q => .inl q)).trans (HO5.out.mono (fun _ q => Or.inr q)) (fun x q => .inl q), P4, D5, S4, fun b q => ?_, fun b q => ?_, ⟨HV4.out.off HO5.out (fun b q q2 => ?_), HD5.out, HL4.out, hap⟩, ?_⟩
  · rcases HG4.out b q with q | q
    · exact .inl q
    · exact .inr (Nat.le_trans hs3 q)
  · rcases HG5.out b q with q | q
    · exact .inl q
    · exact .inr (by omega)
  · rcases HG4.out b q with q | q
    · exact HPD.out b q q2
    · have := HD.out b q2; omega
  · rw [HC4.out, put_same]
    simp
end Go.Proofs.YtgiobcpljbpmiaaDoor
