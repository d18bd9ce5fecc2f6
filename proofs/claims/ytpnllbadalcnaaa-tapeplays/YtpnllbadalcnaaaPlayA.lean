/-
  Both tapes side by side: same, Does.
-/
import Derived.Test.YtpnllbadalcnaaaRefG
namespace Go.Proofs.Ytpnllbadalcnaaa
open Go.RowKit
set_option maxRecDepth 100000 in
set_option maxHeartbeats 4000000 in
theorem same_any {S : Tp} (g gm K : Nat) (z : Int) (F FM : Nat → Nat → Prop) (w : World) (h : Tap w g F S) (hm : TapM w gm FM S) (hok : S.ok K) (hK : K ≤ 100000000) :
    Calls Try.prog 18 #[.pointer (some ⟨g, 0, none⟩), .pointer (some ⟨gm, 0, none⟩), .int .i64 z] w fun e w' => e = .returned (.bool true) ∧ Below w.heap.size w w' := by
  have HT := Lib.hid h
  have HM := Lib.hid hm
  obtain ⟨n, hn⟩ : ∃ n, (S.readL z).length = n := ⟨_, rfl⟩
  have hnb : n ≤ 1048576 := by
    rw [← hn]
    unfold Tp.readL
    split
    · exact hok.now _
    · simp
  have HR1 := Lib.hid (fun w h => read_Z (S := S) g K n z F w h hok hK hn)
  have HR2 := Lib.hid (fun w h => (MRead_any (S := S) gm K z FM w h hok hK).mono fun _ _ q => q.toN hn)
  have HO1 := Lib.hid (fun w h => Open_any (S := S) g z F w h)
  have HO2 := Lib.hid (fun w h => MOpen_any (S := S) gm z FM w h)
  have hE : (S.readE z == S.readE z) = true := by simp
  have hO : ((S.openN z : Int) == (S.openN z : Int)) = true := by simp
  clear h hm hok hn
  generalize S.readL z = L at *
  generalize S.readE z = E at *
  generalize S.openN z = M at *
  go_enter Try.func18, Try.ntmps18
  go_wp2_with (first
    | (go_at_call 22; refine (HR1.out w HT.out).mono ?_; rintro e1 w1 ⟨A1, c1, rfl, hB1, hc1, _, hb1⟩; have HB1 := Lib.hid hB1; have HM1 := Lib.hid (HM.out.below hb1); clear hB1)
    | (go_at_call 35; refine (HR2.out w1 HM1.out).mono ?_; rintro e2 w2 ⟨A2, c2, rfl, hB2, hc2, _, hb2⟩; have HB2 := Lib.hid hB2; have b2 := hb1.trans (hb2.mono hb1.size); have HT2 := Lib.hid (HT.out.below b2); have HM2 := Lib.hid (HM1.out.below hb2); clear hB2)
    | (go_at_call 25; refine (Same_yes A1 A2 n c1 c2 L w2 (HB1.out.below hb2) HB2.out (by omega)).mono ?_; rintro e3 w3 ⟨rfl, m3, rfl⟩)
    | (go_at_call 26; refine (HO1.out _ (HT2.out.drewN _)).mono ?_; rintro e4 w4 ⟨rfl, rfl⟩)
    | (go_at_call 36; refine (HO2.out _ (HM2.out.below (below_drewN (Below.refl _ _) _))).mono ?_; rintro e5 w5 ⟨rfl, rfl⟩))
  go_ret
  exact ⟨rfl, b2.trans (Below.mono (below_drewN (Below.refl w2.heap.size w2) m3) b2.size)⟩
def doesT (S : Tp) (ki fi ni : Int) (l : List UInt8) : Tp := if ki = 0 then (S.append fi l).1 else if ki = 1 then (S.cutT fi ni).1 else if ki = 2 then (S.syncT fi).1 else if ki = 4 then S.fuseT ni else S
theorem doesT_ok {S : Tp} {K : Nat} (ki fi ni : Int) (l : List UInt8) (h : S.ok K) (hb : l.length ≤ 500) : (doesT S ki fi ni l).ok (K + 501) := by
  unfold doesT
  split
  · exact (append_ok _ _ h).mono (by omega)
  · split
    · exact (cut_ok _ _ h).mono (by omega)
    · split
      · exact (sync_ok _ h).mono (by omega)
      · split
        · exact (fuse_ok _ h).mono (by omega)
        · exact h.mono (by omega)
/-- both tapes behind a step -/
def Both (w : World) (g gm : Nat) (F FM : Nat → Nat → Prop) (S : Tp) (w' : World) : Prop := ∃ F' FM', Within w F F' ∧ Within w FM FM' ∧ Tap w' g F' S ∧ TapM w' gm FM' S ∧ (∀ b, Foot g F' b → Foot gm FM' b → False) ∧ Off (fun b => Foot g F b ∨ Foot gm FM b) w w'
theorem both_of {w wo w1 w2 : World} {g gm : Nat} {F FM : Nat → Nat → Prop} {S S' : Tp} (_ : Tap w g F S) (hm : TapM w gm FM S) (hd : ∀ b, Foot g F b → Foot gm FM b → False) (bo : Below w.heap.size w wo) (k1 : Grow wo g F S' w1) (k2 : GrowM w1 gm FM S' w2) : Both w g gm F FM S' w2 := by
  obtain ⟨⟨F1, hF1, ht1⟩, ho1⟩ := k1
  obtain ⟨⟨FM1, hFM1, htm1⟩, ho2⟩ := k2
  have hs1 := bo.size
  have hs2 := ho1.size
  refine ⟨F1, FM1, fun i b q => (hF1 i b q).imp id (fun q => Nat.le_trans hs1 q), fun i b q => (hFM1 i b q).imp id (fun q => by omega), ht1.outside ho2 (fun b q q2 => ?_), htm1, fun b q q2 => ?_, ?_⟩
  · rcases hF1.foot b q with q3 | q3
    · exact hd b q3 q2
    · have := hm.foot q2; omega
  · rcases hFM1.foot b q2 with q4 | q4
    · rcases hF1.foot b q with q3 | q3
      · exact hd b q3 q4
      · have := hm.foot q4; omega
    · have := ht1.foot q; omega
  · exact ((Off.of_below (F := fun b => Foot g F b ∨ Foot gm FM b) bo).trans (ho1.mono (F' := fun b => Foot g F b ∨ Foot gm FM b) (fun b q => .inl q)) (fun x q => .inl q)).trans (ho2.mono (F' := fun b => Foot g F b ∨ Foot gm FM b) (fun b q => .inr q)) (fun x q => .inl q)
theorem TapM.mid {w w1 : World} {g gm : Nat} {F FM : Nat → Nat → Prop} {S S' : Tp} (hm : TapM w gm FM S) (hd : ∀ b, Foot g F b → Foot gm FM b → False) (k1 : Grow w g F S' w1) : TapM w1 gm FM S := hm.outside k1.2 (fun b q q2 => hd b q2 q)
theorem MApp_any2 {S : Tp} (g K m c : Nat) (z : Int) (A : Option Addr) (l : List UInt8) (F : Nat → Nat → Prop) (w : World) (h : TapM w g F S) (hok : S.ok K) (hK : K + m ≤ 100000000) (hB : Bs w A m l) (hA : m ≠ 0 → ∀ b off, A = some ⟨b, off, none⟩ → ¬ Foot g F b) :
    Calls Try.prog 31 #[.pointer (some ⟨g, 0, none⟩), .int .i64 z, .slice A m c] w (DidM w g F (S.append z l)) := MApp_any g K m c z A l F w h hok hK hB hA
theorem box_row (w : World) (cs : Array Value) : Row (w.alloc (.cells cs 32)) w.heap.size 32 cs := Row.new w 32 cs
set_option maxRecDepth 100000 in
set_option maxHeartbeats 8000000 in
theorem Does_any {S : Tp} (g gm K : Nat) (ki fi ni : Int) (T : Option Addr) (m c1 : Nat) (I : Option Addr) (p d : Nat) (l : List UInt8) (F FM : Nat → Nat → Prop) (w : World) (h : Tap w g F S) (hm : TapM w gm FM S) (hd : ∀ b, Foot g F b → Foot gm FM b → False) (hok : S.ok K) (hK : K + 501 ≤ 100000000) (hB : Bs w T m l) (hm5 : m ≤ 500)
    (hA : m ≠ 0 → ∀ b off, T = some ⟨b, off, none⟩ → ¬ Foot g F b ∧ ¬ Foot gm FM b) (hni : ni < 9223372036854775808) :
    Calls Try.prog 16 #[.pointer (some ⟨g, 0, none⟩), .pointer (some ⟨gm, 0, none⟩), .agg (clC ki fi ni T m c1 I p d)] w fun e w' => e = .returned (.bool true) ∧ Both w g gm F FM (doesT S ki fi ni l) w' := by
  have HT := Lib.hid h
  have HM := Lib.hid hm
  have HD := Lib.hid hd
  have HOK := Lib.hid hok
  have HB := Lib.hid hB
  have HN := Lib.hid hni
  have hb0 := (Below.refl w.heap.size w).alloc (Nat.le_refl _) (.cells (clC ki fi ni T m c1 I p d) 32)
  have HB0 := Lib.hid hb0
  have HRb := Lib.hid (box_row w (clC ki fi ni T m c1 I p d))
  have HTz := Lib.hid (h.below hb0)
  have HMz := Lib.hid (hm.below hb0)
  have hml : l.length = m := hB.1
  have HBk := Lib.hid (fun w1 w2 (b1 : Below w.heap.size w w1) (o2 : Off (Foot g F) w1 w2) => show Bs w2 T m l from by
    rcases Nat.eq_zero_or_pos m with h0 | h0
    · have hE := hB.empty h0
      exact ⟨hB.1, fun k x hx => by rw [hE] at hx; simp at hx⟩
    · exact (hB.below b1).off (fun b off e => (hA (by omega) b off e).1) o2)
  have HAm := Lib.hid (fun (h0 : m ≠ 0) b off (e : T = some ⟨b, off, none⟩) => (hA h0 b off e).2)
  obtain ⟨wz, hwz⟩ : ∃ wz, w.alloc (.cells (clC ki fi ni T m c1 I p d) 32) = wz := ⟨_, rfl⟩
  obtain ⟨gc, hgc⟩ : ∃ gc, w.heap.size = gc := ⟨_, rfl⟩
  have HGC := Lib.hid (fun b (q : Foot g F b ∨ Foot gm FM b) => show b ≠ gc from fun e => by rcases q with q | q; have := h.foot q; omega; have := hm.foot q; omega)
  have hgz : gc < wz.heap.size := by rw [← hwz, ← hgc]; simp
  rw [hwz, hgc] at HRb
  rw [hwz] at HTz HMz HB0
  obtain ⟨q0, q1, q2, q3, q4⟩ := cl_cells HRb.out
  clear h hm hd hok hB hA hb0 hni
  have HKP := Lib.hid (fun wq (hb : Below wz.heap.size wz wq) => HRb.out.below hb hgz)
  have HWZ := Lib.hid hwz
  have HWG := Lib.hid hgc
  by_cases h0 : ki = 0
  · subst h0
    have HDo := Lib.hid (show doesT S 0 fi ni l = (S.append fi l).1 from if_pos rfl)
    rw [HDo.out]
    go_enter Try.func16, Try.ntmps16
    go_wp2_with fail
    clear hwz hgc
    refine cutR (fun a a' w' => ∃ (A4 : Option Addr) (c4 : Nat) (E : Int), a' = (((((((((((((((a.put (some 11) (.pointer (some ⟨g, 0, none⟩))).put (some 12) (.pointer (some ⟨gc, 1, none⟩))).put (some 13) (.int .i64 fi)).put (some 14) (.pointer (some ⟨gc, 3, none⟩))).put (some 15) (.slice T m c1)).put (some 16) (.slice A4 m c4)).put (some 17) (.int .i64 E)).put (some 18) (.pointer (some ⟨gm, 0, none⟩))).put (some 19) (.pointer (some ⟨gc, 1, none⟩))).put (some 20) (.int .i64 fi)).put (some 21) (.pointer (some ⟨gc, 3, none⟩))).put (some 22) (.slice T m c1)).put (some 23) (.int .i64 E)).put (some 24) (.bool true)).put (some 6) (.bool true)) ∧ Both w g gm F FM ((S.append fi l).1) w') ?_ ?_
    · have D0 : Below wz.heap.size wz wz.drew := (Below.refl wz.heap.size wz).drew
      refine wp_region_noPanic ?_
      refine wp_region_held_drew (S := fun w' => Row w' gc 32 (clC 0 fi ni T m c1 I p d)) (by kernel_rfl) (HKP.out _ D0) (fun hHeld => ?_)
      refine takeD (i := 0) (some 11) (.pointer (some ⟨g, 0, none⟩)) rfl rfl (by kernel_rfl) (by kernel_rfl) (by kernel_rfl) (fun _ _ _ h => h) (Or.inl ⟨by rfl, fun _ _ => rfl⟩) hHeld ?_
      simp only [Act.put, List.setIfInBounds_toArray, List.set_cons_zero, List.set_cons_succ]
      refine takeD (i := 1) (some 12) (.pointer (some ⟨gc, 1, none⟩)) rfl rfl (by kernel_rfl) (by kernel_rfl) (by kernel_rfl) (fun _ _ _ h => h) (yields_fld32 (by rfl) (.tmp 5) 1 rfl (by decide) gc 0 _ rfl rfl) hHeld ?_
      simp only [Act.put, List.setIfInBounds_toArray, List.set_cons_zero, List.set_cons_succ]
      refine takeD (i := 2) (some 13) (.int .i64 fi) rfl rfl (by kernel_rfl) (by kernel_rfl) (by kernel_rfl) (fun _ _ _ h => h) (yields_cell (by rfl) 3 (.tmp 12) rfl (by decide) gc 1 _ rfl (fun _ h => (cl_cells h).2.1)) hHeld ?_
      simp only [Act.put, List.setIfInBounds_toArray, List.set_cons_zero, List.set_cons_succ]
      refine takeD (i := 3) (some 14) (.pointer (some ⟨gc, 3, none⟩)) rfl rfl (by kernel_rfl) (by kernel_rfl) (by kernel_rfl) (fun _ _ _ h => h) (yields_fld32 (by rfl) (.tmp 5) 3 rfl (by decide) gc 0 _ rfl rfl) hHeld ?_
      simp only [Act.put, List.setIfInBounds_toArray, List.set_cons_zero, List.set_cons_succ]
      refine takeD (i := 4) (some 15) (.slice T m c1) rfl rfl (by kernel_rfl) (by kernel_rfl) (by kernel_rfl) (fun _ _ _ h => h) (yields_loadV (by rfl) 29 (.tmp 14) rfl (by decide) gc 3 _ rfl (fun _ h => (cl_cells h).2.2.2.1)) hHeld ?_
      simp only [Act.put, List.setIfInBounds_toArray, List.set_cons_zero, List.set_cons_succ]
      refine takeD (i := 7) (some 18) (.pointer (some ⟨gm, 0, none⟩)) rfl rfl (by kernel_rfl) (by kernel_rfl) (by kernel_rfl) (fun _ _ _ h => h) (Or.inl ⟨by rfl, fun _ _ => rfl⟩) hHeld ?_
      simp only [Act.put, List.setIfInBounds_toArray, List.set_cons_zero, List.set_cons_succ]
      refine takeD (i := 8) (some 19) (.pointer (some ⟨gc, 1, none⟩)) rfl rfl (by kernel_rfl) (by kernel_rfl) (by kernel_rfl) (fun _ _ _ h => h) (yields_fld32 (by rfl) (.tmp 5) 1 rfl (by decide) gc 0 _ rfl rfl) hHeld ?_
      simp only [Act.put, List.setIfInBounds_toArray, List.set_cons_zero, List.set_cons_succ]
      refine takeD (i := 9) (some 20) (.int .i64 fi) rfl rfl (by kernel_rfl) (by kernel_rfl) (by kernel_rfl) (fun _ _ _ h => h) (yields_cell (by rfl) 3 (.tmp 19) rfl (by decide) gc 1 _ rfl (fun _ h => (cl_cells h).2.1)) hHeld ?_
      simp only [Act.put, List.setIfInBounds_toArray, List.set_cons_zero, List.set_cons_succ]
      refine takeD (i := 10) (some 21) (.pointer (some ⟨gc, 3, none⟩)) rfl rfl (by kernel_rfl) (by kernel_rfl) (by kernel_rfl) (fun _ _ _ h => h) (yields_fld32 (by rfl) (.tmp 5) 3 rfl (by decide) gc 0 _ rfl rfl) hHeld ?_
      simp only [Act.put, List.setIfInBounds_toArray, List.set_cons_zero, List.set_cons_succ]
      refine takeD (i := 11) (some 22) (.slice T m c1) rfl rfl (by kernel_rfl) (by kernel_rfl) (by kernel_rfl) (fun _ _ _ h => h) (yields_loadV (by rfl) 29 (.tmp 21) rfl (by decide) gc 3 _ rfl (fun _ h => (cl_cells h).2.2.2.1)) hHeld ?_
      simp only [Act.put, List.setIfInBounds_toArray, List.set_cons_zero, List.set_cons_succ]
      refine wpAnyH_ready (rs := [5]) (by kernel_rfl) (by decide) ?_
      refine AllReadyH.cons rfl (fun K' hK => ?_) AllReadyH.nil
      go_simp
      refine (ownB_any T m c1 l wz.drew (HB.out.below (HB0.out.trans (D0.mono HB0.out.size))) (by omega)).mono ?_
      rintro e4 wo ⟨A4, c4, rfl, hc4, ho4, hb4⟩
      have HO4 := Lib.hid (show Own wo wz.heap.size 5 (.slice A4 m c4) m l from ho4)
      have BZ : Below wz.heap.size wz wo := D0.trans hb4
      have BO : Below w.heap.size w wo := HB0.out.trans (BZ.mono HB0.out.size)
      clear ho4 hb4
      refine hK.out _ _ (HKP.out _ BZ) (fun hHeld1 => ?_)
      clear hK
      (try simp only [Act.put, List.setIfInBounds_toArray, List.set_cons_zero, List.set_cons_succ])
      refine wpAnyH_ready (rs := [6]) (by kernel_rfl) (by decide) ?_
      refine AllReadyH.cons rfl (fun K' hK => ?_) AllReadyH.nil
      go_simp
      refine (App_any g K m c4 fi A4 l F wo (HTz.out.below BZ) HOK.out (by omega) HO4.out.bs (own_foot HTz.out HO4.out)).mono ?_
      rintro e5 w5 ⟨rfl, hg5⟩
      have HG1 := Lib.hid hg5
      have HM5 := Lib.hid ((HMz.out.below BZ).mid HD.out hg5)
      have HB5 := Lib.hid (HBk.out _ _ BO hg5.2)
      clear hg5
      refine hK.out _ _ ((HG1.out.2.block gc (Nat.lt_of_lt_of_le hgz BZ.size) (fun q => HGC.out gc (.inl q) rfl)).trans (HKP.out _ BZ)) (fun hHeld2 => ?_)
      clear hK
      (try simp only [Act.put, List.setIfInBounds_toArray, List.set_cons_zero, List.set_cons_succ])
      refine wpAnyH_ready (rs := [12]) (by kernel_rfl) (by decide) ?_
      refine AllReadyH.cons rfl (fun K' hK => ?_) AllReadyH.nil
      go_simp
      refine (MApp_any2 gm K m c1 fi T l FM w5 HM5.out HOK.out (by omega) HB5.out HAm.out).mono ?_
      rintro e6 w6 ⟨rfl, hg6⟩
      have HG2 := Lib.hid hg6
      clear hg6
      refine hK.out _ _ ((HG2.out.2.block gc (Nat.lt_of_lt_of_le hgz (Nat.le_trans BZ.size HG1.out.2.size)) (fun q => HGC.out gc (.inr q) rfl)).trans ((HG1.out.2.block gc (Nat.lt_of_lt_of_le hgz BZ.size) (fun q => HGC.out gc (.inl q) rfl)).trans (HKP.out _ BZ))) (fun hHeld3 => ?_)
      clear hK
      (try simp only [Act.put, List.setIfInBounds_toArray, List.set_cons_zero, List.set_cons_succ])
      refine takeD (i := 13) (some 24) (.bool true) rfl rfl (by kernel_rfl) (by kernel_rfl) (by kernel_rfl) (fun _ _ _ h => h) (yields_eqN (by rfl) (.tmp 17) (.tmp 23) rfl _ _ true rfl rfl (by simp)) hHeld3 ?_
      simp only [Act.put, List.setIfInBounds_toArray, List.set_cons_zero, List.set_cons_succ]
      refine takeD (i := 14) (some 6) (.bool true) rfl rfl (by kernel_rfl) (by kernel_rfl) (by kernel_rfl) (fun _ _ _ h => h) (Or.inl ⟨by rfl, fun _ _ => rfl⟩) hHeld3 ?_
      (try simp only [Act.put, List.setIfInBounds_toArray, List.set_cons_zero, List.set_cons_succ])
      refine wpAnyH_done (by kernel_rfl) ?_ _
      refine NoPanic.normal ?_
      exact ⟨rfl, A4, c4, _, rfl, both_of HT.out HM.out HD.out BO HG1.out HG2.out⟩
    · rintro a' w6 ⟨A4, c4, E, rfl, hg6⟩
      simp only [Act.put, List.setIfInBounds_toArray, List.set_cons_zero, List.set_cons_succ]
      go_wp2
      go_ret
      exact ⟨rfl, hg6⟩
  · by_cases h1 : ki = 1
    · subst h1
      have HDo := Lib.hid (show doesT S 1 fi ni l = (S.cutT fi ni).1 from by unfold doesT; rw [if_neg (show ¬ (1 : Int) = 0 by decide), if_pos rfl])
      rw [HDo.out]
      go_enter Try.func16, Try.ntmps16
      go_wp2_with fail
      clear hwz hgc
      refine cutR (fun a a' w' => ∃ (E : Int), a' = ((((((((((((((a.put (some 27) (.pointer (some ⟨g, 0, none⟩))).put (some 28) (.pointer (some ⟨gc, 1, none⟩))).put (some 29) (.int .i64 fi)).put (some 30) (.pointer (some ⟨gc, 2, none⟩))).put (some 31) (.int .i64 ni)).put (some 32) (.int .i64 E)).put (some 33) (.pointer (some ⟨gm, 0, none⟩))).put (some 34) (.pointer (some ⟨gc, 1, none⟩))).put (some 35) (.int .i64 fi)).put (some 36) (.pointer (some ⟨gc, 2, none⟩))).put (some 37) (.int .i64 ni)).put (some 38) (.int .i64 E)).put (some 39) (.bool true)).put (some 6) (.bool true)) ∧ Both w g gm F FM ((S.cutT fi ni).1) w') ?_ ?_
      · have D0 : Below wz.heap.size wz wz.drew := (Below.refl wz.heap.size wz).drew
        refine wp_region_noPanic ?_
        refine wp_region_held_drew (S := fun w' => Row w' gc 32 (clC 1 fi ni T m c1 I p d)) (by kernel_rfl) (HKP.out _ D0) (fun hHeld => ?_)
        refine takeD (i := 0) (some 27) (.pointer (some ⟨g, 0, none⟩)) rfl rfl (by kernel_rfl) (by kernel_rfl) (by kernel_rfl) (fun _ _ _ h => h) (Or.inl ⟨by rfl, fun _ _ => rfl⟩) hHeld ?_
        simp only [Act.put, List.setIfInBounds_toArray, List.set_cons_zero, List.set_cons_succ]
        refine takeD (i := 1) (some 28) (.pointer (some ⟨gc, 1, none⟩)) rfl rfl (by kernel_rfl) (by kernel_rfl) (by kernel_rfl) (fun _ _ _ h => h) (yields_fld32 (by rfl) (.tmp 5) 1 rfl (by decide) gc 0 _ rfl rfl) hHeld ?_
        simp only [Act.put, List.setIfInBounds_toArray, List.set_cons_zero, List.set_cons_succ]
        refine takeD (i := 2) (some 29) (.int .i64 fi) rfl rfl (by kernel_rfl) (by kernel_rfl) (by kernel_rfl) (fun _ _ _ h => h) (yields_cell (by rfl) 3 (.tmp 28) rfl (by decide) gc 1 _ rfl (fun _ h => (cl_cells h).2.1)) hHeld ?_
        simp only [Act.put, List.setIfInBounds_toArray, List.set_cons_zero, List.set_cons_succ]
        refine takeD (i := 3) (some 30) (.pointer (some ⟨gc, 2, none⟩)) rfl rfl (by kernel_rfl) (by kernel_rfl) (by kernel_rfl) (fun _ _ _ h => h) (yields_fld32 (by rfl) (.tmp 5) 2 rfl (by decide) gc 0 _ rfl rfl) hHeld ?_
        simp only [Act.put, List.setIfInBounds_toArray, List.set_cons_zero, List.set_cons_succ]
        refine takeD (i := 4) (some 31) (.int .i64 ni) rfl rfl (by kernel_rfl) (by kernel_rfl) (by kernel_rfl) (fun _ _ _ h => h) (yields_cell (by rfl) 3 (.tmp 30) rfl (by decide) gc 2 _ rfl (fun _ h => (cl_cells h).2.2.1)) hHeld ?_
        simp only [Act.put, List.setIfInBounds_toArray, List.set_cons_zero, List.set_cons_succ]
        refine takeD (i := 6) (some 33) (.pointer (some ⟨gm, 0, none⟩)) rfl rfl (by kernel_rfl) (by kernel_rfl) (by kernel_rfl) (fun _ _ _ h => h) (Or.inl ⟨by rfl, fun _ _ => rfl⟩) hHeld ?_
        simp only [Act.put, List.setIfInBounds_toArray, List.set_cons_zero, List.set_cons_succ]
        refine takeD (i := 7) (some 34) (.pointer (some ⟨gc, 1, none⟩)) rfl rfl (by kernel_rfl) (by kernel_rfl) (by kernel_rfl) (fun _ _ _ h => h) (yields_fld32 (by rfl) (.tmp 5) 1 rfl (by decide) gc 0 _ rfl rfl) hHeld ?_
        simp only [Act.put, List.setIfInBounds_toArray, List.set_cons_zero, List.set_cons_succ]
        refine takeD (i := 8) (some 35) (.int .i64 fi) rfl rfl (by kernel_rfl) (by kernel_rfl) (by kernel_rfl) (fun _ _ _ h => h) (yields_cell (by rfl) 3 (.tmp 34) rfl (by decide) gc 1 _ rfl (fun _ h => (cl_cells h).2.1)) hHeld ?_
        simp only [Act.put, List.setIfInBounds_toArray, List.set_cons_zero, List.set_cons_succ]
        refine takeD (i := 9) (some 36) (.pointer (some ⟨gc, 2, none⟩)) rfl rfl (by kernel_rfl) (by kernel_rfl) (by kernel_rfl) (fun _ _ _ h => h) (yields_fld32 (by rfl) (.tmp 5) 2 rfl (by decide) gc 0 _ rfl rfl) hHeld ?_
        simp only [Act.put, List.setIfInBounds_toArray, List.set_cons_zero, List.set_cons_succ]
        refine takeD (i := 10) (some 37) (.int .i64 ni) rfl rfl (by kernel_rfl) (by kernel_rfl) (by kernel_rfl) (fun _ _ _ h => h) (yields_cell (by rfl) 3 (.tmp 36) rfl (by decide) gc 2 _ rfl (fun _ h => (cl_cells h).2.2.1)) hHeld ?_
        simp only [Act.put, List.setIfInBounds_toArray, List.set_cons_zero, List.set_cons_succ]
        refine wpAnyH_ready (rs := [5]) (by kernel_rfl) (by decide) ?_
        refine AllReadyH.cons rfl (fun K' hK => ?_) AllReadyH.nil
        go_simp
        have BZ : Below wz.heap.size wz wz.drew := D0
        have BO : Below w.heap.size w wz.drew := HB0.out.trans (BZ.mono HB0.out.size)
        refine (Cut_any g K fi ni F wz.drew (HTz.out.below BZ) HOK.out (by omega)).mono ?_
        rintro e5 w5 ⟨rfl, hg5⟩
        have HG1 := Lib.hid hg5
        have HM5 := Lib.hid ((HMz.out.below BZ).mid HD.out hg5)
        clear hg5
        refine hK.out _ _ ((HG1.out.2.block gc (Nat.lt_of_lt_of_le hgz BZ.size) (fun q => HGC.out gc (.inl q) rfl)).trans (HKP.out _ BZ)) (fun hHeld1 => ?_)
        clear hK
        (try simp only [Act.put, List.setIfInBounds_toArray, List.set_cons_zero, List.set_cons_succ])
        refine wpAnyH_ready (rs := [11]) (by kernel_rfl) (by decide) ?_
        refine AllReadyH.cons rfl (fun K' hK => ?_) AllReadyH.nil
        go_simp
        refine (MCut_any gm K fi ni FM w5 HM5.out HOK.out (by omega)).mono ?_
        rintro e6 w6 ⟨rfl, hg6⟩
        have HG2 := Lib.hid hg6
        clear hg6
        refine hK.out _ _ ((HG2.out.2.block gc (Nat.lt_of_lt_of_le hgz (Nat.le_trans BZ.size HG1.out.2.size)) (fun q => HGC.out gc (.inr q) rfl)).trans ((HG1.out.2.block gc (Nat.lt_of_lt_of_le hgz BZ.size) (fun q => HGC.out gc (.inl q) rfl)).trans (HKP.out _ BZ))) (fun hHeld2 => ?_)
        clear hK
        (try simp only [Act.put, List.setIfInBounds_toArray, List.set_cons_zero, List.set_cons_succ])
        refine takeD (i := 12) (some 39) (.bool true) rfl rfl (by kernel_rfl) (by kernel_rfl) (by kernel_rfl) (fun _ _ _ h => h) (yields_eqN (by rfl) (.tmp 32) (.tmp 38) rfl _ _ true rfl rfl (by simp)) hHeld2 ?_
        simp only [Act.put, List.setIfInBounds_toArray, List.set_cons_zero, List.set_cons_succ]
        refine takeD (i := 13) (some 6) (.bool true) rfl rfl (by kernel_rfl) (by kernel_rfl) (by kernel_rfl) (fun _ _ _ h => h) (Or.inl ⟨by rfl, fun _ _ => rfl⟩) hHeld2 ?_
        (try simp only [Act.put, List.setIfInBounds_toArray, List.set_cons_zero, List.set_cons_succ])
        refine wpAnyH_done (by kernel_rfl) ?_ _
        refine NoPanic.normal ?_
        exact ⟨rfl, _, rfl, both_of HT.out HM.out HD.out BO HG1.out HG2.out⟩
      · rintro a' w6 ⟨E, rfl, hg6⟩
        simp only [Act.put, List.setIfInBounds_toArray, List.set_cons_zero, List.set_cons_succ]
        go_wp2
        go_ret
        exact ⟨rfl, hg6⟩
    · by_cases h2 : ki = 2
      · subst h2
        have HDo := Lib.hid (show doesT S 2 fi ni l = (S.syncT fi).1 from by unfold doesT; rw [if_neg (show ¬ (2 : Int) = 0 by decide), if_neg (show ¬ (2 : Int) = 1 by decide), if_pos rfl])
        rw [HDo.out]
        go_enter Try.func16, Try.ntmps16
        go_wp2_with fail
        clear hwz hgc
        refine cutR (fun a a' w' => ∃ (E : Int), a' = ((((((((((a.put (some 42) (.pointer (some ⟨g, 0, none⟩))).put (some 43) (.pointer (some ⟨gc, 1, none⟩))).put (some 44) (.int .i64 fi)).put (some 45) (.int .i64 E)).put (some 46) (.pointer (some ⟨gm, 0, none⟩))).put (some 47) (.pointer (some ⟨gc, 1, none⟩))).put (some 48) (.int .i64 fi)).put (some 49) (.int .i64 E)).put (some 50) (.bool true)).put (some 6) (.bool true)) ∧ Both w g gm F FM ((S.syncT fi).1) w') ?_ ?_
        · have D0 : Below wz.heap.size wz wz.drew := (Below.refl wz.heap.size wz).drew
          refine wp_region_noPanic ?_
          refine wp_region_held_drew (S := fun w' => Row w' gc 32 (clC 2 fi ni T m c1 I p d)) (by kernel_rfl) (HKP.out _ D0) (fun hHeld => ?_)
          refine takeD (i := 0) (some 42) (.pointer (some ⟨g, 0, none⟩)) rfl rfl (by kernel_rfl) (by kernel_rfl) (by kernel_rfl) (fun _ _ _ h => h) (Or.inl ⟨by rfl, fun _ _ => rfl⟩) hHeld ?_
          simp only [Act.put, List.setIfInBounds_toArray, List.set_cons_zero, List.set_cons_succ]
          refine takeD (i := 1) (some 43) (.pointer (some ⟨gc, 1, none⟩)) rfl rfl (by kernel_rfl) (by kernel_rfl) (by kernel_rfl) (fun _ _ _ h => h) (yields_fld32 (by rfl) (.tmp 5) 1 rfl (by decide) gc 0 _ rfl rfl) hHeld ?_
          simp only [Act.put, List.setIfInBounds_toArray, List.set_cons_zero, List.set_cons_succ]
          refine takeD (i := 2) (some 44) (.int .i64 fi) rfl rfl (by kernel_rfl) (by kernel_rfl) (by kernel_rfl) (fun _ _ _ h => h) (yields_cell (by rfl) 3 (.tmp 43) rfl (by decide) gc 1 _ rfl (fun _ h => (cl_cells h).2.1)) hHeld ?_
          simp only [Act.put, List.setIfInBounds_toArray, List.set_cons_zero, List.set_cons_succ]
          refine takeD (i := 4) (some 46) (.pointer (some ⟨gm, 0, none⟩)) rfl rfl (by kernel_rfl) (by kernel_rfl) (by kernel_rfl) (fun _ _ _ h => h) (Or.inl ⟨by rfl, fun _ _ => rfl⟩) hHeld ?_
          simp only [Act.put, List.setIfInBounds_toArray, List.set_cons_zero, List.set_cons_succ]
          refine takeD (i := 5) (some 47) (.pointer (some ⟨gc, 1, none⟩)) rfl rfl (by kernel_rfl) (by kernel_rfl) (by kernel_rfl) (fun _ _ _ h => h) (yields_fld32 (by rfl) (.tmp 5) 1 rfl (by decide) gc 0 _ rfl rfl) hHeld ?_
          simp only [Act.put, List.setIfInBounds_toArray, List.set_cons_zero, List.set_cons_succ]
          refine takeD (i := 6) (some 48) (.int .i64 fi) rfl rfl (by kernel_rfl) (by kernel_rfl) (by kernel_rfl) (fun _ _ _ h => h) (yields_cell (by rfl) 3 (.tmp 47) rfl (by decide) gc 1 _ rfl (fun _ h => (cl_cells h).2.1)) hHeld ?_
          simp only [Act.put, List.setIfInBounds_toArray, List.set_cons_zero, List.set_cons_succ]
          refine wpAnyH_ready (rs := [3]) (by kernel_rfl) (by decide) ?_
          refine AllReadyH.cons rfl (fun K' hK => ?_) AllReadyH.nil
          go_simp
          have BZ : Below wz.heap.size wz wz.drew := D0
          have BO : Below w.heap.size w wz.drew := HB0.out.trans (BZ.mono HB0.out.size)
          refine (Sync_any g K fi F wz.drew (HTz.out.below BZ) HOK.out (by omega)).mono ?_
          rintro e5 w5 ⟨rfl, hg5⟩
          have HG1 := Lib.hid hg5
          have HM5 := Lib.hid ((HMz.out.below BZ).mid HD.out hg5)
          clear hg5
          refine hK.out _ _ ((HG1.out.2.block gc (Nat.lt_of_lt_of_le hgz BZ.size) (fun q => HGC.out gc (.inl q) rfl)).trans (HKP.out _ BZ)) (fun hHeld1 => ?_)
          clear hK
          (try simp only [Act.put, List.setIfInBounds_toArray, List.set_cons_zero, List.set_cons_succ])
          refine wpAnyH_ready (rs := [7]) (by kernel_rfl) (by decide) ?_
          refine AllReadyH.cons rfl (fun K' hK => ?_) AllReadyH.nil
          go_simp
          refine (MSync_any gm K fi FM w5 HM5.out HOK.out (by omega)).mono ?_
          rintro e6 w6 ⟨rfl, hg6⟩
          have HG2 := Lib.hid hg6
          clear hg6
          refine hK.out _ _ ((HG2.out.2.block gc (Nat.lt_of_lt_of_le hgz (Nat.le_trans BZ.size HG1.out.2.size)) (fun q => HGC.out gc (.inr q) rfl)).trans ((HG1.out.2.block gc (Nat.lt_of_lt_of_le hgz BZ.size) (fun q => HGC.out gc (.inl q) rfl)).trans (HKP.out _ BZ))) (fun hHeld2 => ?_)
          clear hK
          (try simp only [Act.put, List.setIfInBounds_toArray, List.set_cons_zero, List.set_cons_succ])
          refine takeD (i := 8) (some 50) (.bool true) rfl rfl (by kernel_rfl) (by kernel_rfl) (by kernel_rfl) (fun _ _ _ h => h) (yields_eqN (by rfl) (.tmp 45) (.tmp 49) rfl _ _ true rfl rfl (by simp)) hHeld2 ?_
          simp only [Act.put, List.setIfInBounds_toArray, List.set_cons_zero, List.set_cons_succ]
          refine takeD (i := 9) (some 6) (.bool true) rfl rfl (by kernel_rfl) (by kernel_rfl) (by kernel_rfl) (fun _ _ _ h => h) (Or.inl ⟨by rfl, fun _ _ => rfl⟩) hHeld2 ?_
          (try simp only [Act.put, List.setIfInBounds_toArray, List.set_cons_zero, List.set_cons_succ])
          refine wpAnyH_done (by kernel_rfl) ?_ _
          refine NoPanic.normal ?_
          exact ⟨rfl, _, rfl, both_of HT.out HM.out HD.out BO HG1.out HG2.out⟩
        · rintro a' w6 ⟨E, rfl, hg6⟩
          simp only [Act.put, List.setIfInBounds_toArray, List.set_cons_zero, List.set_cons_succ]
          go_wp2
          go_ret
          exact ⟨rfl, hg6⟩
      · by_cases h4 : ki = 4
        · subst h4
          have HDo := Lib.hid (show doesT S 4 fi ni l = S.fuseT ni from by unfold doesT; rw [if_neg (show ¬ (4 : Int) = 0 by decide), if_neg (show ¬ (4 : Int) = 1 by decide), if_neg (show ¬ (4 : Int) = 2 by decide), if_pos rfl])
          have HOKf := Lib.hid (show (S.fuseT ni).ok K from HOK.out)
          rw [HDo.out]
          go_enter Try.func16, Try.ntmps16
          go_wp2_with (first
            | (go_at_call 28; refine (Fuse_any g ni F _ HTz.out HN.out).mono ?_; rintro e1 w1 ⟨rfl, ht1, ho1⟩; have HT1 := Lib.hid ht1; have HO1 := Lib.hid ho1; have HM1 := Lib.hid (HMz.out.outside ho1 (fun b q (q2 : b = g) => HD.out b (.inl q2) q)); have c2' : w1.cell? ⟨gc, 2, none⟩ = some (.int .i64 ni) := (World.cell?_of_block (a := ⟨gc, 2, none⟩) (ho1.block gc hgz (fun e => HGC.out g (.inl (.inl rfl)) e.symm))).trans q2; have c1' : w1.cell? ⟨gc, 1, none⟩ = some (.int .i64 fi) := (World.cell?_of_block (a := ⟨gc, 1, none⟩) (ho1.block gc hgz (fun e => HGC.out g (.inl (.inl rfl)) e.symm))).trans q1; clear ht1 ho1)
            | (go_at_call 34; refine (MFuse_any gm ni FM w1 HM1.out HN.out).mono ?_; rintro e2 w2 ⟨rfl, ht2, ho2⟩; have HM2 := Lib.hid ht2; have HT2 := Lib.hid (HT1.out.outside ho2 (fun b q (q2 : b = gm) => HD.out b q (.inl q2))); have c1w : w2.cell? ⟨gc, 1, none⟩ = some (.int .i64 fi) := (World.cell?_of_block (a := ⟨gc, 1, none⟩) (ho2.block gc (Nat.lt_of_lt_of_le hgz HO1.out.size) (fun e => HGC.out gm (.inr (.inl rfl)) e.symm))).trans c1'; have HO2 := Lib.hid ho2; clear ht2 ho2)
            | (go_at_call 18; refine (same_any g gm K fi F FM w2 HT2.out HM2.out HOKf.out (by omega)).mono ?_; rintro e3 w3 ⟨rfl, hb3⟩))
          go_ret
          refine ⟨rfl, F, FM, fun _ _ q => .inl q, fun _ _ q => .inl q, HT2.out.below hb3, HM2.out.below hb3, HD.out, ?_⟩
          exact (((Off.of_below (F := fun b => Foot g F b ∨ Foot gm FM b) HB0.out).trans (HO1.out.mono (F' := fun b => Foot g F b ∨ Foot gm FM b) (fun b q => .inl (.inl q))) (fun x q => .inl q)).trans (HO2.out.mono (F' := fun b => Foot g F b ∨ Foot gm FM b) (fun b q => .inr (.inl q))) (fun x q => .inl q)).trans (Off.of_below (F := fun b => Foot g F b ∨ Foot gm FM b) hb3) (fun x q => .inl q)
        · have z0 : (ki == 0) = false := by simp [h0]
          have z1 : (ki == 1) = false := by simp [h1]
          have z2 : (ki == 2) = false := by simp [h2]
          have z4 : (ki == 4) = false := by simp [h4]
          have HDo := Lib.hid (show doesT S ki fi ni l = S from by unfold doesT; rw [if_neg h0, if_neg h1, if_neg h2, if_neg h4])
          rw [HDo.out]
          clear h0 h1 h2 h4
          go_enter Try.func16, Try.ntmps16
          go_wp2_with (go_at_call 18; refine (same_any g gm K fi F FM _ HTz.out HMz.out HOK.out (by omega)).mono ?_; rintro e3 w3 ⟨rfl, hb3⟩)
          go_ret
          refine ⟨rfl, F, FM, fun _ _ q => .inl q, fun _ _ q => .inl q, HTz.out.below hb3, HMz.out.below hb3, HD.out, ?_⟩
          exact (Off.of_below (F := fun b => Foot g F b ∨ Foot gm FM b) HB0.out).trans (Off.of_below (F := fun b => Foot g F b ∨ Foot gm FM b) hb3) (fun x q => .inl q)
end Go.Proofs.Ytpnllbadalcnaaa
