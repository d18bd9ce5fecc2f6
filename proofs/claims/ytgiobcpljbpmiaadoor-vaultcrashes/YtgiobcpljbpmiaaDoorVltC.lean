/-
  What stands in a file's frames; a vault's steps as functions: what each does to the tape.
-/
import Derived.Test.YtgiobcpljbpmiaaDoorVltB
namespace Go.Proofs.YtgiobcpljbpmiaaDoor
open Go.RowKit
theorem Row.off {G : Nat → Prop} {w w' : World} {g : Nat} {t : TypeId} {cs : Array Value} (h : Row w g t cs) (ho : Off G w w') (hG : ¬ G g) : Row w' g t cs := (ho.block g h.lt hG).trans h
theorem Row.range2 {w : World} {g : Nat} {t : TypeId} {v0 v1 : Value} (h : Row w g t #[v0, v1]) : w.rangeAt g 0 [v0, v1] := fun j v hv => by
  rw [Nat.zero_add, h.cell j]; simpa using hv
theorem Did.drew {w w' : World} {g : Nat} {F : Nat → Nat → Prop} {r : Tp × Int} {e : Ending} (h : Did w.drew g F r e w') : Did w g F r e w' := ⟨h.1, h.2.1, ⟨h.2.2.os, h.2.2.tape, h.2.2.output, h.2.2.size, h.2.2.block⟩⟩
theorem Did.after {w w1 w' : World} {g : Nat} {F : Nat → Nat → Prop} {r : Tp × Int} {e : Ending} (hb : Below w.heap.size w w1) (h : Did w1 g F r e w') : Did w g F r e w' := by
  obtain ⟨h1, ⟨F', h2, h3⟩, h4⟩ := h
  refine ⟨h1, ⟨F', fun i b q => ?_, h3⟩, (Off.of_below hb).trans h4 (fun x q => .inl q)⟩
  rcases h2 i b q with q | q
  · exact .inl q
  · exact .inr (Nat.le_trans hb.size q)
/-- the frames that stand at the beginning of a file, and how long it is -/
def FramesE (w : World) (l : List UInt8) (E : Int) (e : Ending) (w' : World) : Prop :=
  ∃ (L : List (List UInt8)) (k s : Nat) (A : Option Addr) (c : Nat), e = .returned (.tuple #[.slice A k c, .int .i64 (l.length : Int), .int .i64 E]) ∧ Scans l L s ∧ OwnL w' w.heap.size (.slice A k c) k L ∧ Below w.heap.size w w'
set_option maxRecDepth 100000 in
set_option maxHeartbeats 1000000 in
theorem frames_any {S : Tp} (v g K : Nat) (z : Int) (cs : Array Value) (F : Nat → Nat → Prop) (w : World) (h3 : Row w v 70 cs) (h0 : cs[0]? = some (.pointer (some ⟨g, 0, none⟩))) (h : Tap w g F S) (hok : S.ok K) (hK : K ≤ 100000000) (hT : Tab 2 w) :
    Calls Tryd.prog 50 #[.pointer (some ⟨v, 0, none⟩), .int .i64 z] w (FramesE w (S.readL z) (S.readE z)) := by
  have c0 : w.cell? ⟨v, 0, none⟩ = some (.pointer (some ⟨g, 0, none⟩)) := (h3.cell 0).trans h0
  have HR := Lib.hid (TRead_any g K z F w h hok hK)
  have hlen : (S.readL z).length ≤ 1048576 := by
    unfold Tp.readL
    split
    · exact hok.now _
    · simp
  have HS := Lib.hid (fun A n c w hB hc hn hT => Scan_any A n c (S.readL z) w hB hc hn hT)
  have HT := Lib.hid hT
  generalize S.readL z = l at *
  generalize S.readE z = E at *
  obtain ⟨m, hm⟩ : ∃ m, l.length = m := ⟨_, rfl⟩
  rw [hm] at hlen
  unfold FramesE
  rw [hm]
  have HM := Lib.hid hm
  clear h3 h0 h hok hK hT hm
  go_enter Tryd.func50, Tryd.ntmps50
  go_wp2_with (first
    | (go_at_call 31; refine HR.out.mono ?_; rintro e1 w1 ⟨A1, n1, c1, rfl, ho1, hb1⟩; have hn1 : n1 = m := ho1.length.symm.trans HM.out; subst hn1; have hc1 : n1 ≤ c1 := (by obtain ⟨A', c', e', q'⟩ := ho1.form; injection e' with _ _ e'; omega); have HO1 := Lib.hid ho1; clear ho1)
    | (go_at_call 64; refine (HS.out A1 n1 c1 w1 HO1.out.bs hc1 hlen (HT.out.below hb1)).mono ?_; rintro e2 w2 ⟨L, k, s, A2, c2, rfl, hs2, ho2, hb2⟩; have HO2 := Lib.hid ho2; have HS2 := Lib.hid hs2; clear ho2 hs2))
  refine bodyPost_ret (results_tmp3 rfl _ _ _) rfl ?_
  exact ⟨L, k, s, A2, c2, rfl, HS2.out, HO2.out.mono hb1.size, hb1.trans (hb2.mono hb1.size)⟩
set_option maxRecDepth 100000 in
set_option maxHeartbeats 1000000 in
theorem sync1_any {S : Tp} (bv bf v g K : Nat) (z : Int) (cs : Array Value) (F : Nat → Nat → Prop) (w : World) (h1 : Row w bv 27 #[.pointer (some ⟨v, 0, none⟩)]) (h2 : Row w bf 3 #[.int .i64 z]) (h3 : Row w v 70 cs) (h0 : cs[0]? = some (.pointer (some ⟨g, 0, none⟩))) (x1 : ¬ Foot g F bv) (x2 : ¬ Foot g F bf) (x3 : ¬ Foot g F v) (h : Tap w g F S) (hok : S.ok K) (hK : K ≤ 100000000) :
    Calls Tryd.prog 54 #[.pointer (some ⟨bv, 0, none⟩), .pointer (some ⟨bf, 0, none⟩)] w (Did w g F (S.syncT z)) := by
  have H0 := Lib.hid h0
  have HT := Lib.hid h
  have KB : Hid (∀ wq, Below w.heap.size w wq → Row wq bv 27 #[.pointer (some ⟨v, 0, none⟩)] ∧ Row wq bf 3 #[.int .i64 z] ∧ Row wq v 70 cs) := Lib.hid (fun wq hb => ⟨h1.below hb h1.lt, h2.below hb h2.lt, h3.below hb h3.lt⟩)
  have KO : Hid (∀ wq, Off (Foot g F) w wq → Row wq bv 27 #[.pointer (some ⟨v, 0, none⟩)] ∧ Row wq bf 3 #[.int .i64 z] ∧ Row wq v 70 cs) := Lib.hid (fun wq hb => ⟨h1.off hb x1, h2.off hb x2, h3.off hb x3⟩)
  have HS := Lib.hid (fun w h => Sync_any (S := S) g K z F w h hok hK)
  generalize S.syncT z = r at *
  clear h1 h2 h3 h0 x1 x2 x3 h hok hK
  go_enter Tryd.func54, Tryd.ntmps54
  go_wp2_with fail
  have Z0 : Below w.heap.size w w.drew := (Below.refl w.heap.size w).drew
  refine wp_region_noPanic ?_
  refine wp_region_held_drew (S := fun w' => Row w' bv 27 #[.pointer (some ⟨v, 0, none⟩)] ∧ Row w' bf 3 #[.int .i64 z] ∧ Row w' v 70 cs) (by kernel_rfl) (KB.out _ Z0) (fun hHeld => ?_)
  refine takeD (i := 0) (some 3) (.pointer (some ⟨v, 0, none⟩)) rfl rfl (by kernel_rfl) (by kernel_rfl) (by kernel_rfl) (fun _ _ _ h => h) (yieldsC (by rfl) 27 (.tmp 0) rfl (by decide) (bv) (0) _ rfl (fun _ h => h.1.cell 0)) hHeld ?_
  simp only [Act.put, List.setIfInBounds_toArray, List.set_cons_zero, List.set_cons_succ]
  refine takeD (i := 1) (some 4) (.pointer (some ⟨v, 0, none⟩)) rfl rfl (by kernel_rfl) (by kernel_rfl) (by kernel_rfl) (fun _ _ _ h => h) (yields_nil (by rfl) (.tmp 3) rfl _ rfl) hHeld ?_
  simp only [Act.put, List.setIfInBounds_toArray, List.set_cons_zero, List.set_cons_succ]
  refine takeD (i := 2) (some 5) (.pointer (some ⟨v, 0, none⟩)) rfl rfl (by kernel_rfl) (by kernel_rfl) (by kernel_rfl) (fun _ _ _ h => h) (yields_fldV (by rfl) 70 (.tmp 4) 0 rfl (d := 0) (by decide) (v) 0 _ rfl rfl) hHeld ?_
  simp only [Act.put, List.setIfInBounds_toArray, List.set_cons_zero, List.set_cons_succ]
  refine takeD (i := 3) (some 6) (.pointer (some ⟨g, 0, none⟩)) rfl rfl (by kernel_rfl) (by kernel_rfl) (by kernel_rfl) (fun _ _ _ h => h) (yieldsC (by rfl) 25 (.tmp 5) rfl (by decide) (v) (0) _ rfl (fun _ h => (h.2.2.cell 0).trans H0.out)) hHeld ?_
  simp only [Act.put, List.setIfInBounds_toArray, List.set_cons_zero, List.set_cons_succ]
  refine takeD (i := 4) (some 7) (.int .i64 z) rfl rfl (by kernel_rfl) (by kernel_rfl) (by kernel_rfl) (fun _ _ _ h => h) (yieldsC (by rfl) 3 (.tmp 1) rfl (by decide) (bf) (0) _ rfl (fun _ h => h.2.1.cell 0)) hHeld ?_
  simp only [Act.put, List.setIfInBounds_toArray, List.set_cons_zero, List.set_cons_succ]
  refine wpAnyH_ready (rs := [5]) (by kernel_rfl) (by decide) ?_
  refine AllReadyH.cons rfl (fun K' hK => ?_) AllReadyH.nil
  go_simp
  refine (HS.out w.drew (HT.out.below Z0)).mono ?_
  rintro e5 w5 hd5
  have hd5 := Did.drew hd5
  obtain ⟨rfl, hg5⟩ := hd5
  have HG5 := Lib.hid hg5
  clear hg5
  refine hK.out _ _ (KO.out _ HG5.out.2) (fun hHeld1 => ?_)
  clear hK
  refine takeD (i := 6) (some 2) (.int .i64 r.2) rfl rfl (by kernel_rfl) (by kernel_rfl) (by kernel_rfl) (fun _ _ _ h => h) (Or.inl ⟨by rfl, fun _ _ => rfl⟩) hHeld1 ?_
  simp only [Act.put, List.setIfInBounds_toArray, List.set_cons_zero, List.set_cons_succ]
  (try simp only [Act.put, List.setIfInBounds_toArray])
  refine wpAnyH_done (by kernel_rfl) ?_ _
  refine NoPanic.normal ?_
  go_wp2_with fail
  go_ret
  exact ⟨rfl, HG5.out⟩
set_option maxRecDepth 100000 in
set_option maxHeartbeats 1000000 in
theorem empty1_any {S : Tp} (bv bf v g K : Nat) (z : Int) (cs : Array Value) (F : Nat → Nat → Prop) (w : World) (h1 : Row w bv 27 #[.pointer (some ⟨v, 0, none⟩)]) (h2 : Row w bf 3 #[.int .i64 z]) (h3 : Row w v 70 cs) (h0 : cs[0]? = some (.pointer (some ⟨g, 0, none⟩))) (x1 : ¬ Foot g F bv) (x2 : ¬ Foot g F bf) (x3 : ¬ Foot g F v) (h : Tap w g F S) (hok : S.ok K) (hK : K ≤ 100000000) :
    Calls Tryd.prog 58 #[.pointer (some ⟨bv, 0, none⟩), .pointer (some ⟨bf, 0, none⟩)] w (Did w g F (S.cutT z 0)) := by
  have H0 := Lib.hid h0
  have HT := Lib.hid h
  have KB : Hid (∀ wq, Below w.heap.size w wq → Row wq bv 27 #[.pointer (some ⟨v, 0, none⟩)] ∧ Row wq bf 3 #[.int .i64 z] ∧ Row wq v 70 cs) := Lib.hid (fun wq hb => ⟨h1.below hb h1.lt, h2.below hb h2.lt, h3.below hb h3.lt⟩)
  have KO : Hid (∀ wq, Off (Foot g F) w wq → Row wq bv 27 #[.pointer (some ⟨v, 0, none⟩)] ∧ Row wq bf 3 #[.int .i64 z] ∧ Row wq v 70 cs) := Lib.hid (fun wq hb => ⟨h1.off hb x1, h2.off hb x2, h3.off hb x3⟩)
  have HS := Lib.hid (fun w h => Cut_any (S := S) g K z 0 F w h hok hK)
  generalize S.cutT z 0 = r at *
  clear h1 h2 h3 h0 x1 x2 x3 h hok hK
  go_enter Tryd.func58, Tryd.ntmps58
  go_wp2_with fail
  have Z0 : Below w.heap.size w w.drew := (Below.refl w.heap.size w).drew
  refine wp_region_noPanic ?_
  refine wp_region_held_drew (S := fun w' => Row w' bv 27 #[.pointer (some ⟨v, 0, none⟩)] ∧ Row w' bf 3 #[.int .i64 z] ∧ Row w' v 70 cs) (by kernel_rfl) (KB.out _ Z0) (fun hHeld => ?_)
  refine takeD (i := 0) (some 3) (.pointer (some ⟨v, 0, none⟩)) rfl rfl (by kernel_rfl) (by kernel_rfl) (by kernel_rfl) (fun _ _ _ h => h) (yieldsC (by rfl) 27 (.tmp 0) rfl (by decide) (bv) (0) _ rfl (fun _ h => h.1.cell 0)) hHeld ?_
  simp only [Act.put, List.setIfInBounds_toArray, List.set_cons_zero, List.set_cons_succ]
  refine takeD (i := 1) (some 4) (.pointer (some ⟨v, 0, none⟩)) rfl rfl (by kernel_rfl) (by kernel_rfl) (by kernel_rfl) (fun _ _ _ h => h) (yields_nil (by rfl) (.tmp 3) rfl _ rfl) hHeld ?_
  simp only [Act.put, List.setIfInBounds_toArray, List.set_cons_zero, List.set_cons_succ]
  refine takeD (i := 2) (some 5) (.pointer (some ⟨v, 0, none⟩)) rfl rfl (by kernel_rfl) (by kernel_rfl) (by kernel_rfl) (fun _ _ _ h => h) (yields_fldV (by rfl) 70 (.tmp 4) 0 rfl (d := 0) (by decide) (v) 0 _ rfl rfl) hHeld ?_
  simp only [Act.put, List.setIfInBounds_toArray, List.set_cons_zero, List.set_cons_succ]
  refine takeD (i := 3) (some 6) (.pointer (some ⟨g, 0, none⟩)) rfl rfl (by kernel_rfl) (by kernel_rfl) (by kernel_rfl) (fun _ _ _ h => h) (yieldsC (by rfl) 25 (.tmp 5) rfl (by decide) (v) (0) _ rfl (fun _ h => (h.2.2.cell 0).trans H0.out)) hHeld ?_
  simp only [Act.put, List.setIfInBounds_toArray, List.set_cons_zero, List.set_cons_succ]
  refine takeD (i := 4) (some 7) (.int .i64 z) rfl rfl (by kernel_rfl) (by kernel_rfl) (by kernel_rfl) (fun _ _ _ h => h) (yieldsC (by rfl) 3 (.tmp 1) rfl (by decide) (bf) (0) _ rfl (fun _ h => h.2.1.cell 0)) hHeld ?_
  simp only [Act.put, List.setIfInBounds_toArray, List.set_cons_zero, List.set_cons_succ]
  refine wpAnyH_ready (rs := [5]) (by kernel_rfl) (by decide) ?_
  refine AllReadyH.cons rfl (fun K' hK => ?_) AllReadyH.nil
  go_simp
  refine (HS.out w.drew (HT.out.below Z0)).mono ?_
  rintro e5 w5 hd5
  have hd5 := Did.drew hd5
  obtain ⟨rfl, hg5⟩ := hd5
  have HG5 := Lib.hid hg5
  clear hg5
  refine hK.out _ _ (KO.out _ HG5.out.2) (fun hHeld1 => ?_)
  clear hK
  refine takeD (i := 6) (some 2) (.int .i64 r.2) rfl rfl (by kernel_rfl) (by kernel_rfl) (by kernel_rfl) (fun _ _ _ h => h) (Or.inl ⟨by rfl, fun _ _ => rfl⟩) hHeld1 ?_
  simp only [Act.put, List.setIfInBounds_toArray, List.set_cons_zero, List.set_cons_succ]
  (try simp only [Act.put, List.setIfInBounds_toArray])
  refine wpAnyH_done (by kernel_rfl) ?_ _
  refine NoPanic.normal ?_
  go_wp2_with fail
  go_ret
  exact ⟨rfl, HG5.out⟩
set_option maxRecDepth 100000 in
set_option maxHeartbeats 1000000 in
theorem put1_any {S : Tp} (bv bf v g K : Nat) (z : Int) (cs : Array Value) (F : Nat → Nat → Prop) (w : World) (h1 : Row w bv 27 #[.pointer (some ⟨v, 0, none⟩)]) (h2 : Row w bf 3 #[.int .i64 z]) (h3 : Row w v 70 cs) (h0 : cs[0]? = some (.pointer (some ⟨g, 0, none⟩))) (x1 : ¬ Foot g F bv) (x2 : ¬ Foot g F bf) (x3 : ¬ Foot g F v) (h : Tap w g F S) (hok : S.ok K) (bh q n c : Nat) (A : Option Addr) (t : List UInt8) (h4 : Row w bh 68 #[.int .i64 (q : Int), .slice A n c]) (x4 : ¬ Foot g F bh) (hB : Bs w A n t) (hV : okV (q, t)) (hTb : Tab 2 w) (hlen : K + (vFr (q, t)).length ≤ 100000000) :
    Calls Tryd.prog 57 #[.pointer (some ⟨bv, 0, none⟩), .pointer (some ⟨bf, 0, none⟩), .pointer (some ⟨bh, 0, none⟩)] w (Did w g F (S.append z (vFr (q, t)))) := by
  have H0 := Lib.hid h0
  have HT := Lib.hid h
  have KB : Hid (∀ wq, Below w.heap.size w wq → Row wq bv 27 #[.pointer (some ⟨v, 0, none⟩)] ∧ Row wq bf 3 #[.int .i64 z] ∧ Row wq v 70 cs ∧ Row wq bh 68 #[.int .i64 (q : Int), .slice A n c]) := Lib.hid (fun wq hb => ⟨h1.below hb h1.lt, h2.below hb h2.lt, h3.below hb h3.lt, h4.below hb h4.lt⟩)
  have KO : Hid (∀ wq, Off (Foot g F) w wq → Row wq bv 27 #[.pointer (some ⟨v, 0, none⟩)] ∧ Row wq bf 3 #[.int .i64 z] ∧ Row wq v 70 cs ∧ Row wq bh 68 #[.int .i64 (q : Int), .slice A n c]) := Lib.hid (fun wq hb => ⟨h1.off hb x1, h2.off hb x2, h3.off hb x3, h4.off hb x4⟩)
  have HF := Lib.hid (fun w hB hT => frame_any q n c A t w hB hV hT)
  have HB := Lib.hid (fun wq (hb : Below w.heap.size w wq) => hB.below hb)
  have HTb := Lib.hid hTb
  have HS := Lib.hid (fun A c w h hB hA => App_any (S := S) g K (vFr (q, t)).length c z A (vFr (q, t)) F w h hok hlen hB hA)
  generalize vFr (q, t) = M at *
  generalize S.append z M = r at *
  clear h1 h2 h3 h0 x1 x2 x3 h hok h4 x4 hB hV hTb hlen
  go_enter Tryd.func57, Tryd.ntmps57
  go_wp2_with fail
  have Z0 : Below w.heap.size w w.drew := (Below.refl w.heap.size w).drew
  refine wp_region_noPanic ?_
  refine wp_region_held_drew (S := fun w' => Row w' bv 27 #[.pointer (some ⟨v, 0, none⟩)] ∧ Row w' bf 3 #[.int .i64 z] ∧ Row w' v 70 cs ∧ Row w' bh 68 #[.int .i64 (q : Int), .slice A n c]) (by kernel_rfl) (KB.out _ Z0) (fun hHeld => ?_)
  refine takeD (i := 0) (some 4) (.pointer (some ⟨v, 0, none⟩)) rfl rfl (by kernel_rfl) (by kernel_rfl) (by kernel_rfl) (fun _ _ _ h => h) (yieldsC (by rfl) 27 (.tmp 0) rfl (by decide) (bv) (0) _ rfl (fun _ h => h.1.cell 0)) hHeld ?_
  simp only [Act.put, List.setIfInBounds_toArray, List.set_cons_zero, List.set_cons_succ]
  refine takeD (i := 1) (some 5) (.pointer (some ⟨v, 0, none⟩)) rfl rfl (by kernel_rfl) (by kernel_rfl) (by kernel_rfl) (fun _ _ _ h => h) (yields_nil (by rfl) (.tmp 4) rfl _ rfl) hHeld ?_
  simp only [Act.put, List.setIfInBounds_toArray, List.set_cons_zero, List.set_cons_succ]
  refine takeD (i := 2) (some 6) (.pointer (some ⟨v, 0, none⟩)) rfl rfl (by kernel_rfl) (by kernel_rfl) (by kernel_rfl) (fun _ _ _ h => h) (yields_fldV (by rfl) 70 (.tmp 5) 0 rfl (d := 0) (by decide) (v) 0 _ rfl rfl) hHeld ?_
  simp only [Act.put, List.setIfInBounds_toArray, List.set_cons_zero, List.set_cons_succ]
  refine takeD (i := 3) (some 7) (.pointer (some ⟨g, 0, none⟩)) rfl rfl (by kernel_rfl) (by kernel_rfl) (by kernel_rfl) (fun _ _ _ h => h) (yieldsC (by rfl) 25 (.tmp 6) rfl (by decide) (v) (0) _ rfl (fun _ h => (h.2.2.1.cell 0).trans H0.out)) hHeld ?_
  simp only [Act.put, List.setIfInBounds_toArray, List.set_cons_zero, List.set_cons_succ]
  refine takeD (i := 4) (some 8) (.int .i64 z) rfl rfl (by kernel_rfl) (by kernel_rfl) (by kernel_rfl) (fun _ _ _ h => h) (yieldsC (by rfl) 3 (.tmp 1) rfl (by decide) (bf) (0) _ rfl (fun _ h => h.2.1.cell 0)) hHeld ?_
  simp only [Act.put, List.setIfInBounds_toArray, List.set_cons_zero, List.set_cons_succ]
  refine takeD (i := 5) (some 9) (.agg #[.int .i64 (q : Int), .slice A n c]) rfl rfl (by kernel_rfl) (by kernel_rfl) (by kernel_rfl) (fun _ _ _ h => h) (yields_load68 (by rfl) (.tmp 2) rfl (bh) (0) _ _ rfl (fun _ h => h.2.2.2.range2)) hHeld ?_
  simp only [Act.put, List.setIfInBounds_toArray, List.set_cons_zero, List.set_cons_succ]
  refine wpAnyH_ready (rs := [6]) (by kernel_rfl) (by decide) ?_
  refine AllReadyH.cons rfl (fun K' hK => ?_) AllReadyH.nil
  go_simp
  refine (HF.out w.drew (HB.out _ Z0) (HTb.out.below Z0)).mono ?_
  rintro e6 w6 ⟨A6, c6, rfl, hc6, hb6, ho6⟩
  have B6 : Below w.heap.size w w6 := Z0.trans hb6
  have HO6 := Lib.hid ho6
  clear ho6
  refine hK.out _ _ (KB.out _ B6) (fun hHeld1 => ?_)
  clear hK
  refine wpAnyH_ready (rs := [7]) (by kernel_rfl) (by decide) ?_
  refine AllReadyH.cons rfl (fun K' hK => ?_) AllReadyH.nil
  go_simp
  refine (HS.out A6 c6 w6 (HT.out.below B6) HO6.out.bs (fun b off e hf => by have q1 := HO6.out.fresh b off e; have q2 := HT.out.foot hf; exact absurd q2 (Nat.not_lt.2 q1))).mono ?_
  rintro e7 w7 hd7
  have hd7 := Did.after B6 hd7
  obtain ⟨rfl, hg7⟩ := hd7
  have HG7 := Lib.hid hg7
  clear hg7
  refine hK.out _ _ (KO.out _ HG7.out.2) (fun hHeld2 => ?_)
  clear hK
  refine takeD (i := 8) (some 3) (.int .i64 r.2) rfl rfl (by kernel_rfl) (by kernel_rfl) (by kernel_rfl) (fun _ _ _ h => h) (Or.inl ⟨by rfl, fun _ _ => rfl⟩) hHeld2 ?_
  simp only [Act.put, List.setIfInBounds_toArray, List.set_cons_zero, List.set_cons_succ]
  (try simp only [Act.put, List.setIfInBounds_toArray])
  refine wpAnyH_done (by kernel_rfl) ?_ _
  refine NoPanic.normal ?_
  go_wp2_with fail
  go_ret
  exact ⟨rfl, HG7.out⟩
end Go.Proofs.YtgiobcpljbpmiaaDoor
