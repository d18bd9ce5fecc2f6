/-
  What the program's Append answers: the place, and the ledger has one leaf more; too long a leaf, a full ledger, a nil one.
-/
import Derived.Test.YtbpbpdaohganaaaDoorLedE
namespace Go.Proofs.YtbpbpdaohganaaaDoor
open Go.RowKit
theorem cutL {P : Program} {id : Nat} {ops : Array Oper} {b : Bool} {Q : Exit → Act → World → Prop} {a : Act} {w : World} (R : Act → Act → World → Prop) (h1 : (Code.region id ops b).wp P (fun e a' w' => e = .normal ∧ R a a' w') a w) (h2 : ∀ a' w', R a a' w' → Q .normal a' w') : (Code.region id ops b).wp P Q a w :=
  Code.wp_mono (fun e a' w' ⟨he, hR⟩ => by rw [he]; exact h2 a' w' hR) h1
theorem Led.made {w w' : World} {g n : Nat} {F : Nat → Prop} {L : List (List UInt8)} {Ad Al : Option Addr} {cd cl : Nat} (hg : F g) (hs : w.heap.size ≤ w'.heap.size) (hlt : g < w.heap.size) (hr : Row w' g 74 #[.slice Ad n cd, .slice Al n cl]) (hd : Dgst w' (More F w) (.slice Ad n cd) n (L.map leafL)) (ht : Texts w' (More F w) (.slice Al n cl) n L) :
    Led w' g (fun b => More F w b ∧ b < w'.heap.size) n L :=
  ⟨⟨.inl hg, Nat.lt_of_lt_of_le hlt hs⟩, fun _ h => h.2, Ad, cd, Al, cl, hr, hd.cap, ht.cap⟩
/-- what an Append leaves: the ledger with one leaf more, in its blocks and new ones; all else is as it was -/
def Grew (w : World) (g n : Nat) (F : Nat → Prop) (L : List (List UInt8)) (w' : World) : Prop := (∃ F' : Nat → Prop, (∀ b, F' b → F b ∨ w.heap.size ≤ b) ∧ Led w' g F' n L) ∧ Off F w w'
set_option maxRecDepth 100000 in
set_option maxHeartbeats 4000000 in
theorem App_ok (g n m c : Nat) (A : Option Addr) (F : Nat → Prop) (L : List (List UInt8)) (l : List UInt8) (w : World) (h : Led w g F n L) (hB : Bs w A m l) (hA : ∀ b off, A = some ⟨b, off, none⟩ → ¬ F b) (hmc : m ≤ c) (hm : m ≤ 4096) (hn : n < 4096) (hT : Tab 1 w) (hT1 : ¬ F 1) :
    Calls Tryd.prog 12 #[.pointer (some ⟨g, 0, none⟩), .slice A m c] w fun e w' => e = .returned (.tuple #[.int .i64 (n : Int), .int .i64 0]) ∧ Grew w g (n + 1) F (L ++ [l]) w' := by
  obtain ⟨hg, hF, Ad, cd, Al, cl, hr, hd, ht⟩ := h
  obtain rfl : l.length = m := hB.1
  have hgl := hr.lt
  have HR := Lib.hid hr
  have HDg := Lib.hid hd
  have HTx := Lib.hid ht
  have HG := Lib.hid hg
  have HF := Lib.hid hF
  have HA := Lib.hid hA
  have HB := Lib.hid hB
  have HT := Lib.hid hT
  have HT1 := Lib.hid hT1
  have HC := Lib.hid (fun w hc => count_any g n cd Ad w hc)
  have HK := Lib.hid (fun w hB => Clone_any A l.length c l w hB (by omega))
  have HLf := Lib.hid (fun w hB hT => Leaf_any A l.length c l w hB hmc (by omega) hT)
  have HLL := Lib.hid (leafL_length l)
  have HAd := Lib.hid (fun Ad cd nl vl F D L w hg hF hr hd ht => add_ok g n cd nl Ad vl F D L (leafL l) w (leafL_length l) (by omega) hg hF hr hd ht)
  have HX0 := Lib.hid (hr.cell 0)
  have HCl := Lib.hid (fun wq (hb : Below w.heap.size w wq) => show wq.cell? ⟨g, 1, none⟩ = some (.slice Al n cl) from (HR.out.below hb hgl).cell 1)
  have HD0 := Lib.hid (show (L ++ [l]).map leafL = L.map leafL ++ [leafL l] by rw [List.map_append]; rfl)
  have i1 : ¬ (4096 : Int) < (l.length : Int) := by omega
  have i2 : ((n : Int) == 4096) = false := by simp; omega
  obtain ⟨m, hml⟩ : ∃ m, l.length = m := ⟨_, rfl⟩
  have HM := Lib.hid hml
  rw [hml] at i1 HK HLf
  have HB := Lib.hid (show Bs w A m l by rw [← hml]; exact HB.out)
  have hn1 : n + 1 ≤ 1000000 := by omega
  clear hr hd ht hg hF hA hB hT hT1 hmc hn hm
  rw [hml]
  clear hml
  generalize leafL l = dl at *
  go_enter Tryd.func12, Tryd.ntmps12
  go_wp2_with (go_at_call 30; refine (HC.out _ HX0.out).mono ?_; rintro e1 w1 ⟨rfl, rfl⟩)
  refine cutL (fun a a' w' => ∃ (A3 : Option Addr) (c3 g4 : Nat) (A5 : Option Addr) (c5 : Nat), a' = (((((((((((a.put (some 18) (.pointer (some ⟨g, 0, none⟩))).put (some 19) (.pointer (some ⟨g, 0, none⟩))).put (some 20) (.pointer (some ⟨g, 0, none⟩))).put (some 21) (.pointer (some ⟨g, 1, none⟩))).put (some 23) (.slice A m c)).put (some 22) (.slice Al n cl)).put (some 24) (.slice A3 m c3)).put (some 25) (.slice (some ⟨g4, 0, none⟩) 1 1)).put (some 26) (.slice A5 (n + 1) c5)).put (some 27) (.pointer (some ⟨g, 0, none⟩))).put (some 28) (.pointer (some ⟨g, 1, none⟩))) ∧ Row w' g 74 #[.slice Ad n cd, .slice A5 (n + 1) c5] ∧ Dgst w' (More F w) (.slice Ad n cd) n (L.map leafL) ∧ Texts w' (More F w) (.slice A5 (n + 1) c5) (n + 1) (L ++ [l]) ∧ Off F w w') ?_ ?_
  · refine wp_region_noPanic ?_
    refine wp_region_held_drew (S := fun w' => True) (by kernel_rfl) trivial (fun hHeld => ?_)
    have B0 : Below w.heap.size w w.drew := (Below.refl w.heap.size w).drew
    refine takeD (i := 0) (some 18) (.pointer (some ⟨g, 0, none⟩)) rfl rfl (by kernel_rfl) (by kernel_rfl) (by kernel_rfl) (fun _ _ _ h => h) (Or.inl ⟨by rfl, fun _ _ => rfl⟩) hHeld ?_
    simp only [Act.put, List.setIfInBounds_toArray, List.set_cons_zero, List.set_cons_succ]
    refine takeD (i := 1) (some 19) (.pointer (some ⟨g, 0, none⟩)) rfl rfl (by kernel_rfl) (by kernel_rfl) (by kernel_rfl) (fun _ _ _ h => h) (Or.inl ⟨by rfl, fun _ _ => rfl⟩) hHeld ?_
    simp only [Act.put, List.setIfInBounds_toArray, List.set_cons_zero, List.set_cons_succ]
    refine takeD (i := 2) (some 20) (.pointer (some ⟨g, 0, none⟩)) rfl rfl (by kernel_rfl) (by kernel_rfl) (by kernel_rfl) (fun _ _ _ h => h) (yields_nil (by rfl) (.tmp 19) rfl _ rfl) hHeld ?_
    simp only [Act.put, List.setIfInBounds_toArray, List.set_cons_zero, List.set_cons_succ]
    refine takeD (i := 3) (some 21) (.pointer (some ⟨g, 1, none⟩)) rfl rfl (by kernel_rfl) (by kernel_rfl) (by kernel_rfl) (fun _ _ _ h => h) (yields_fldL (by rfl) 74 (.tmp 20) 1 rfl (by decide) g rfl) hHeld ?_
    simp only [Act.put, List.setIfInBounds_toArray, List.set_cons_zero, List.set_cons_succ]
    refine takeD (i := 5) (some 23) (.slice A m c) rfl rfl (by kernel_rfl) (by kernel_rfl) (by kernel_rfl) (fun _ _ _ h => h) (Or.inl ⟨by rfl, fun _ _ => rfl⟩) hHeld ?_
    simp only [Act.put, List.setIfInBounds_toArray, List.set_cons_zero, List.set_cons_succ]
    refine wpAnyH_ready (rs := [4, 6]) (by kernel_rfl) (by decide) ?_
    refine AllReadyH.cons rfl (fun K' hK => ?_) (AllReadyH.cons rfl (fun K' hK => ?_) AllReadyH.nil)
    · skip
      refine step_of rfl (wp_loadC 27 (.tmp 21) rfl (.inl rfl) g 1 (.slice Al n cl) rfl (HCl.out _ B0) ?_)
      refine hK.out _ _ trivial (fun hHeld1 => ?_)
      clear hK
      simp only [List.getElem_toArray, List.getElem_cons_succ, List.getElem_cons_zero, Act.put, List.setIfInBounds_toArray, List.set_cons_zero, List.set_cons_succ]
      refine wpAnyH_ready (rs := [6]) (by kernel_rfl) (by decide) ?_
      refine AllReadyH.cons rfl (fun K' hK => ?_) AllReadyH.nil
      go_simp
      refine (HK.out _ (HB.out.below B0)).mono ?_
      rintro e3 w3 ⟨A3, c3, rfl, hc3, ho3, hb3⟩
      have HO3 := Lib.hid (show Own w3 w.heap.size 5 (.slice A3 m c3) m l from ho3)
      have B3 : Below w.heap.size w w3 := B0.trans (hb3.mono B0.size)
      clear ho3 hc3 hb3
      refine hK.out _ _ trivial (fun hHeld2 => ?_)
      clear hK
      refine wpAnyH_ready (rs := [7]) (by kernel_rfl) (by decide) ?_
      refine AllReadyH.cons rfl (fun K' hK => ?_) AllReadyH.nil
      refine step_of rfl (wp_buildT (.tmp 24) rfl A3 m c3 rfl ?_)
      obtain ⟨w4, hw4⟩ : ∃ w4, w3.alloc (.cells #[.slice A3 m c3] 31) = w4 := ⟨_, rfl⟩
      obtain ⟨g4, hg4⟩ : ∃ g4, w3.heap.size = g4 := ⟨_, rfl⟩
      have HX4 := Lib.hid ((Row.new w3 31 #[.slice A3 m c3]).cell 0)
      have HO4 := Lib.hid (show Own w4 w.heap.size 5 (.slice A3 m c3) m l from by rw [← hw4]; exact World.ownsRow.alloc HO3.out _)
      have B4 : Below w.heap.size w w4 := by rw [← hw4]; exact B3.alloc B3.size _
      rw [hw4, hg4] at HX4
      rw [hw4, hg4]
      clear hw4 hg4
      refine hK.out _ _ trivial (fun hHeld3 => ?_)
      clear hK
      simp only [List.getElem_toArray, List.getElem_cons_succ, List.getElem_cons_zero, Act.put, List.setIfInBounds_toArray, List.set_cons_zero, List.set_cons_succ]
      refine wpAnyH_ready (rs := [8]) (by kernel_rfl) (by decide) ?_
      refine AllReadyH.cons rfl (fun K' hK => ?_) AllReadyH.nil
      refine step_of rfl (wp_appTF (.tmp 22) (.tmp 25) rfl (More F w) (.slice Al n cl) n L rfl ((HTx.out.same (fun b q => B4.block b (HF.out b q))).mono (fun b q => .inl q)) (.slice A3 m c3) l (by rw [HM.out]; exact ownsRow_base HO4.out (Nat.zero_le _)) (fun b q => .inr (HO4.out.lt b q).1) g4 0 1 rfl HX4.out hn1 ?_)
      intro A5 c5 w5 h5 hg5
      have S5 := Lib.hid (stepT (k := 1) (n := n + 1) (vl' := .slice A5 (n + 1) c5) (by decide) HR.out HG.out HDg.out ⟨n, HTx.out⟩ B4 hg5 h5)
      clear h5 hg5
      refine hK.out _ _ trivial (fun hHeld4 => ?_)
      clear hK
      simp only [List.getElem_toArray, List.getElem_cons_succ, List.getElem_cons_zero, Act.put, List.setIfInBounds_toArray, List.set_cons_zero, List.set_cons_succ]
      refine takeD (i := 9) (some 27) (.pointer (some ⟨g, 0, none⟩)) rfl rfl (by kernel_rfl) (by kernel_rfl) (by kernel_rfl) (fun _ _ _ h => h) (yields_nil (by rfl) (.tmp 18) rfl _ rfl) hHeld4 ?_
      simp only [Act.put, List.setIfInBounds_toArray, List.set_cons_zero, List.set_cons_succ]
      refine takeD (i := 10) (some 28) (.pointer (some ⟨g, 1, none⟩)) rfl rfl (by kernel_rfl) (by kernel_rfl) (by kernel_rfl) (fun _ _ _ h => h) (yields_fldL (by rfl) 74 (.tmp 27) 1 rfl (by decide) g rfl) hHeld4 ?_
      simp only [Act.put, List.setIfInBounds_toArray, List.set_cons_zero, List.set_cons_succ]
      refine wpAnyH_ready (rs := [11]) (by kernel_rfl) (by decide) ?_
      refine AllReadyH.cons rfl (fun K' hK => ?_) AllReadyH.nil
      refine step_of rfl (wp_storeC 27 (.tmp 28) (.tmp 26) rfl (.inl rfl) g 1 A5 (n + 1) c5 74 _ rfl rfl S5.out.1 (by show 1 < 2; omega) ?_)
      refine hK.out _ _ trivial (fun hHeld5 => ?_)
      clear hK
      refine wpAnyH_done (by kernel_rfl) ?_ _
      refine NoPanic.normal ?_
      exact ⟨rfl, A3, c3, g4, A5, c5, rfl, S5.out.2.1, S5.out.2.2.1, S5.out.2.2.2.1, S5.out.2.2.2.2⟩
    · skip
      go_simp
      refine (HK.out _ (HB.out.below B0)).mono ?_
      rintro e3 w3 ⟨A3, c3, rfl, hc3, ho3, hb3⟩
      have HO3 := Lib.hid (show Own w3 w.heap.size 5 (.slice A3 m c3) m l from ho3)
      have B3 : Below w.heap.size w w3 := B0.trans (hb3.mono B0.size)
      clear ho3 hc3 hb3
      refine hK.out _ _ trivial (fun hHeld6 => ?_)
      clear hK
      refine wpAnyH_ready (rs := [4, 7]) (by kernel_rfl) (by decide) ?_
      refine AllReadyH.cons rfl (fun K' hK => ?_) (AllReadyH.cons rfl (fun K' hK => ?_) AllReadyH.nil)
      · skip
        refine step_of rfl (wp_loadC 27 (.tmp 21) rfl (.inl rfl) g 1 (.slice Al n cl) rfl (HCl.out _ B3) ?_)
        refine hK.out _ _ trivial (fun hHeld7 => ?_)
        clear hK
        simp only [List.getElem_toArray, List.getElem_cons_succ, List.getElem_cons_zero, Act.put, List.setIfInBounds_toArray, List.set_cons_zero, List.set_cons_succ]
        refine wpAnyH_ready (rs := [7]) (by kernel_rfl) (by decide) ?_
        refine AllReadyH.cons rfl (fun K' hK => ?_) AllReadyH.nil
        refine step_of rfl (wp_buildT (.tmp 24) rfl A3 m c3 rfl ?_)
        obtain ⟨w4, hw4⟩ : ∃ w4, w3.alloc (.cells #[.slice A3 m c3] 31) = w4 := ⟨_, rfl⟩
        obtain ⟨g4, hg4⟩ : ∃ g4, w3.heap.size = g4 := ⟨_, rfl⟩
        have HX4 := Lib.hid ((Row.new w3 31 #[.slice A3 m c3]).cell 0)
        have HO4 := Lib.hid (show Own w4 w.heap.size 5 (.slice A3 m c3) m l from by rw [← hw4]; exact World.ownsRow.alloc HO3.out _)
        have B4 : Below w.heap.size w w4 := by rw [← hw4]; exact B3.alloc B3.size _
        rw [hw4, hg4] at HX4
        rw [hw4, hg4]
        clear hw4 hg4
        refine hK.out _ _ trivial (fun hHeld8 => ?_)
        clear hK
        simp only [List.getElem_toArray, List.getElem_cons_succ, List.getElem_cons_zero, Act.put, List.setIfInBounds_toArray, List.set_cons_zero, List.set_cons_succ]
        refine wpAnyH_ready (rs := [8]) (by kernel_rfl) (by decide) ?_
        refine AllReadyH.cons rfl (fun K' hK => ?_) AllReadyH.nil
        refine step_of rfl (wp_appTF (.tmp 22) (.tmp 25) rfl (More F w) (.slice Al n cl) n L rfl ((HTx.out.same (fun b q => B4.block b (HF.out b q))).mono (fun b q => .inl q)) (.slice A3 m c3) l (by rw [HM.out]; exact ownsRow_base HO4.out (Nat.zero_le _)) (fun b q => .inr (HO4.out.lt b q).1) g4 0 1 rfl HX4.out hn1 ?_)
        intro A5 c5 w5 h5 hg5
        have S5 := Lib.hid (stepT (k := 1) (n := n + 1) (vl' := .slice A5 (n + 1) c5) (by decide) HR.out HG.out HDg.out ⟨n, HTx.out⟩ B4 hg5 h5)
        clear h5 hg5
        refine hK.out _ _ trivial (fun hHeld9 => ?_)
        clear hK
        simp only [List.getElem_toArray, List.getElem_cons_succ, List.getElem_cons_zero, Act.put, List.setIfInBounds_toArray, List.set_cons_zero, List.set_cons_succ]
        refine takeD (i := 9) (some 27) (.pointer (some ⟨g, 0, none⟩)) rfl rfl (by kernel_rfl) (by kernel_rfl) (by kernel_rfl) (fun _ _ _ h => h) (yields_nil (by rfl) (.tmp 18) rfl _ rfl) hHeld9 ?_
        simp only [Act.put, List.setIfInBounds_toArray, List.set_cons_zero, List.set_cons_succ]
        refine takeD (i := 10) (some 28) (.pointer (some ⟨g, 1, none⟩)) rfl rfl (by kernel_rfl) (by kernel_rfl) (by kernel_rfl) (fun _ _ _ h => h) (yields_fldL (by rfl) 74 (.tmp 27) 1 rfl (by decide) g rfl) hHeld9 ?_
        simp only [Act.put, List.setIfInBounds_toArray, List.set_cons_zero, List.set_cons_succ]
        refine wpAnyH_ready (rs := [11]) (by kernel_rfl) (by decide) ?_
        refine AllReadyH.cons rfl (fun K' hK => ?_) AllReadyH.nil
        refine step_of rfl (wp_storeC 27 (.tmp 28) (.tmp 26) rfl (.inl rfl) g 1 A5 (n + 1) c5 74 _ rfl rfl S5.out.1 (by show 1 < 2; omega) ?_)
        refine hK.out _ _ trivial (fun hHeld10 => ?_)
        clear hK
        refine wpAnyH_done (by kernel_rfl) ?_ _
        refine NoPanic.normal ?_
        exact ⟨rfl, A3, c3, g4, A5, c5, rfl, S5.out.2.1, S5.out.2.2.1, S5.out.2.2.2.1, S5.out.2.2.2.2⟩
      · skip
        refine step_of rfl (wp_buildT (.tmp 24) rfl A3 m c3 rfl ?_)
        obtain ⟨w4, hw4⟩ : ∃ w4, w3.alloc (.cells #[.slice A3 m c3] 31) = w4 := ⟨_, rfl⟩
        obtain ⟨g4, hg4⟩ : ∃ g4, w3.heap.size = g4 := ⟨_, rfl⟩
        have HX4 := Lib.hid ((Row.new w3 31 #[.slice A3 m c3]).cell 0)
        have HO4 := Lib.hid (show Own w4 w.heap.size 5 (.slice A3 m c3) m l from by rw [← hw4]; exact World.ownsRow.alloc HO3.out _)
        have B4 : Below w.heap.size w w4 := by rw [← hw4]; exact B3.alloc B3.size _
        rw [hw4, hg4] at HX4
        rw [hw4, hg4]
        clear hw4 hg4
        refine hK.out _ _ trivial (fun hHeld11 => ?_)
        clear hK
        simp only [List.getElem_toArray, List.getElem_cons_succ, List.getElem_cons_zero, Act.put, List.setIfInBounds_toArray, List.set_cons_zero, List.set_cons_succ]
        refine wpAnyH_ready (rs := [4]) (by kernel_rfl) (by decide) ?_
        refine AllReadyH.cons rfl (fun K' hK => ?_) AllReadyH.nil
        refine step_of rfl (wp_loadC 27 (.tmp 21) rfl (.inl rfl) g 1 (.slice Al n cl) rfl (HCl.out _ B4) ?_)
        refine hK.out _ _ trivial (fun hHeld12 => ?_)
        clear hK
        simp only [List.getElem_toArray, List.getElem_cons_succ, List.getElem_cons_zero, Act.put, List.setIfInBounds_toArray, List.set_cons_zero, List.set_cons_succ]
        refine wpAnyH_ready (rs := [8]) (by kernel_rfl) (by decide) ?_
        refine AllReadyH.cons rfl (fun K' hK => ?_) AllReadyH.nil
        refine step_of rfl (wp_appTF (.tmp 22) (.tmp 25) rfl (More F w) (.slice Al n cl) n L rfl ((HTx.out.same (fun b q => B4.block b (HF.out b q))).mono (fun b q => .inl q)) (.slice A3 m c3) l (by rw [HM.out]; exact ownsRow_base HO4.out (Nat.zero_le _)) (fun b q => .inr (HO4.out.lt b q).1) g4 0 1 rfl HX4.out hn1 ?_)
        intro A5 c5 w5 h5 hg5
        have S5 := Lib.hid (stepT (k := 1) (n := n + 1) (vl' := .slice A5 (n + 1) c5) (by decide) HR.out HG.out HDg.out ⟨n, HTx.out⟩ B4 hg5 h5)
        clear h5 hg5
        refine hK.out _ _ trivial (fun hHeld13 => ?_)
        clear hK
        simp only [List.getElem_toArray, List.getElem_cons_succ, List.getElem_cons_zero, Act.put, List.setIfInBounds_toArray, List.set_cons_zero, List.set_cons_succ]
        refine takeD (i := 9) (some 27) (.pointer (some ⟨g, 0, none⟩)) rfl rfl (by kernel_rfl) (by kernel_rfl) (by kernel_rfl) (fun _ _ _ h => h) (yields_nil (by rfl) (.tmp 18) rfl _ rfl) hHeld13 ?_
        simp only [Act.put, List.setIfInBounds_toArray, List.set_cons_zero, List.set_cons_succ]
        refine takeD (i := 10) (some 28) (.pointer (some ⟨g, 1, none⟩)) rfl rfl (by kernel_rfl) (by kernel_rfl) (by kernel_rfl) (fun _ _ _ h => h) (yields_fldL (by rfl) 74 (.tmp 27) 1 rfl (by decide) g rfl) hHeld13 ?_
        simp only [Act.put, List.setIfInBounds_toArray, List.set_cons_zero, List.set_cons_succ]
        refine wpAnyH_ready (rs := [11]) (by kernel_rfl) (by decide) ?_
        refine AllReadyH.cons rfl (fun K' hK => ?_) AllReadyH.nil
        refine step_of rfl (wp_storeC 27 (.tmp 28) (.tmp 26) rfl (.inl rfl) g 1 A5 (n + 1) c5 74 _ rfl rfl S5.out.1 (by show 1 < 2; omega) ?_)
        refine hK.out _ _ trivial (fun hHeld14 => ?_)
        clear hK
        refine wpAnyH_done (by kernel_rfl) ?_ _
        refine NoPanic.normal ?_
        exact ⟨rfl, A3, c3, g4, A5, c5, rfl, S5.out.2.1, S5.out.2.2.1, S5.out.2.2.2.1, S5.out.2.2.2.2⟩
  rintro a' w6 ⟨A3, c3, g4, A5, c5, rfl, hr6, hd6, ht6, ho6⟩
  have HR6 := Lib.hid hr6
  have HD6 := Lib.hid hd6.cap
  have HT6 := Lib.hid ht6.cap
  have HO6 := Lib.hid ho6
  have hs6 := ho6.size
  have hg6 := hr6.lt
  have HF6 := Lib.hid (show ∀ b, (More F w b ∧ b < w6.heap.size) → b < w6.heap.size from fun b q => q.2)
  have HTb := Lib.hid (show Tab 1 w6 from ⟨Nat.lt_of_lt_of_le HT.out.1 hs6, fun t q => (World.cell?_of_block (a := ⟨1, t, none⟩) (ho6.block 1 HT.out.1 HT1.out)).trans (HT.out.2 t q)⟩)
  have HB6 := Lib.hid (HB.out.off HA.out ho6)
  clear hr6 hd6 ht6 ho6
  simp only [Act.put, List.setIfInBounds_toArray, List.set_cons_zero, List.set_cons_succ]
  go_wp2_with fail
  refine wp_region_noPanic ?_
  refine wp_region_held_drew (S := fun w' => True) (by kernel_rfl) trivial (fun hHeld => ?_)
  have C0 : Below w6.heap.size w6 w6.drew := (Below.refl w6.heap.size w6).drew
  refine takeD (i := 0) (some 29) (.pointer (some ⟨g, 0, none⟩)) rfl rfl (by kernel_rfl) (by kernel_rfl) (by kernel_rfl) (fun _ _ _ h => h) (Or.inl ⟨by rfl, fun _ _ => rfl⟩) hHeld ?_
  simp only [Act.put, List.setIfInBounds_toArray, List.set_cons_zero, List.set_cons_succ]
  refine takeD (i := 1) (some 30) (.pointer (some ⟨g, 0, none⟩)) rfl rfl (by kernel_rfl) (by kernel_rfl) (by kernel_rfl) (fun _ _ _ h => h) (yields_nil (by rfl) (.tmp 29) rfl _ rfl) hHeld ?_
  simp only [Act.put, List.setIfInBounds_toArray, List.set_cons_zero, List.set_cons_succ]
  refine takeD (i := 2) (some 31) (.pointer (some ⟨g, 0, none⟩)) rfl rfl (by kernel_rfl) (by kernel_rfl) (by kernel_rfl) (fun _ _ _ h => h) (yields_fldL (by rfl) 74 (.tmp 30) 0 rfl (by decide) g rfl) hHeld ?_
  simp only [Act.put, List.setIfInBounds_toArray, List.set_cons_zero, List.set_cons_succ]
  refine takeD (i := 3) (some 32) (.slice A m c) rfl rfl (by kernel_rfl) (by kernel_rfl) (by kernel_rfl) (fun _ _ _ h => h) (Or.inl ⟨by rfl, fun _ _ => rfl⟩) hHeld ?_
  simp only [Act.put, List.setIfInBounds_toArray, List.set_cons_zero, List.set_cons_succ]
  refine wpAnyH_ready (rs := [4]) (by kernel_rfl) (by decide) ?_
  refine AllReadyH.cons rfl (fun K' hK => ?_) AllReadyH.nil
  go_simp
  refine (HLf.out w6.drew HB6.out HTb.out).mono ?_
  rintro e7 w7 ⟨rfl, hb7⟩
  refine hK.out _ _ trivial (fun hHeld21 => ?_)
  clear hK
  refine wpAnyH_ready (rs := [5]) (by kernel_rfl) (by decide) ?_
  refine AllReadyH.cons rfl (fun K' hK => ?_) AllReadyH.nil
  go_simp
  have C7 : Below w6.heap.size w6 w7 := C0.trans (hb7.mono C0.size)
  have HF7 := Lib.hid (show ∀ b, (More F w b ∧ b < w6.heap.size) → b < w7.heap.size from fun b q => Nat.lt_of_lt_of_le q.2 C7.size)
  refine (HAd.out Ad cd (n + 1) (.slice A5 (n + 1) c5) (fun b => More F w b ∧ b < w6.heap.size) (L.map leafL) (L ++ [l]) w7 ⟨.inl HG.out, hg6⟩ HF7.out (HR6.out.below C7 hg6) (HD6.out.same (fun b q => C7.block b q.2)) (HT6.out.same (fun b q => C7.block b q.2))).mono ?_
  rintro e8 w8 ⟨rfl, A8, c8, hr8, hd8, ht8, ho8⟩
  have HR8 := Lib.hid hr8
  have HD8 := Lib.hid hd8
  have HT8 := Lib.hid ht8
  have HO8 := Lib.hid ho8
  clear hr8 hd8 ht8 ho8
  refine hK.out _ _ trivial (fun hHeld22 => ?_)
  clear hK
  refine wpAnyH_done (by kernel_rfl) ?_ _
  refine NoPanic.normal ?_
  go_wp2_with fail
  go_ret2
  have hF8 : ∀ b, More (fun b => More F w b ∧ b < w6.heap.size) w7 b → F b ∨ w.heap.size ≤ b := fun b q => by
    rcases q with q | q
    · exact q.1
    · have := C7.size; exact .inr (by omega)
  have q := Led.made (F := fun b => More F w b ∧ b < w6.heap.size) (L := L ++ [l]) ⟨.inl HG.out, hg6⟩ HO8.out.size (Nat.lt_of_lt_of_le hg6 C7.size) HR8.out (by rw [HD0.out]; exact HD8.out) HT8.out
  exact ⟨rfl, ⟨_, fun b q => hF8 b q.1, q⟩, HO6.out.trans ((Off.of_below C7).trans HO8.out (fun x q => .inl q)) (fun x q => q.1)⟩
set_option maxRecDepth 100000 in
set_option maxHeartbeats 400000 in
theorem App_long (g m c : Nat) (A : Option Addr) (w : World) (hm : 4096 < m) : Calls Tryd.prog 12 #[.pointer (some ⟨g, 0, none⟩), .slice A m c] w fun e w' => e = .returned (.tuple #[.int .i64 0, .int .i64 42]) ∧ w = w' := by
  have i1 : (4096 : Int) < (m : Int) := by omega
  clear hm
  go_enter Tryd.func12, Tryd.ntmps12
  go_wp2
  go_ret2
  exact ⟨rfl, rfl⟩
set_option maxRecDepth 100000 in
set_option maxHeartbeats 400000 in
theorem App_full (g m c : Nat) (A : Option Addr) (F : Nat → Prop) (L : List (List UInt8)) (w : World) (h : Led w g F 4096 L) (hm : m ≤ 4096) : Calls Tryd.prog 12 #[.pointer (some ⟨g, 0, none⟩), .slice A m c] w fun e w' => e = .returned (.tuple #[.int .i64 0, .int .i64 90]) ∧ w = w' := by
  obtain ⟨Ad, cd, Al, cl, hc, _⟩ := h.cell
  have HC := Lib.hid (fun w hc => count_any g 4096 cd Ad w hc)
  have HX := Lib.hid hc
  have i1 : ¬ (4096 : Int) < (m : Int) := by omega
  clear h hc hm
  go_enter Tryd.func12, Tryd.ntmps12
  go_wp2_with (go_at_call 30; refine (HC.out _ HX.out).mono ?_; rintro e1 w1 ⟨rfl, rfl⟩)
  go_ret2
  exact ⟨rfl, rfl⟩
set_option maxRecDepth 100000 in
set_option maxHeartbeats 400000 in
theorem App_nil (m c : Nat) (A : Option Addr) (w : World) : Calls Tryd.prog 12 #[.pointer none, .slice A m c] w fun e w' => e = .returned (.tuple #[.int .i64 0, .int .i64 2]) ∧ w = w' := by
  go_enter Tryd.func12, Tryd.ntmps12
  go_wp2
  go_ret2
  exact ⟨rfl, rfl⟩
end Go.Proofs.YtbpbpdaohganaaaDoor
