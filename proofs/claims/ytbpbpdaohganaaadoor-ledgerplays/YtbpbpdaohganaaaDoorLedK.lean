/-
  What the document's Append answers: the place, and its ledger has one leaf more; too long a leaf, a full ledger.
-/
import Derived.Test.YtbpbpdaohganaaaDoorLedJ
import Derived.Test.YtbpbpdaohganaaaDoorNodeB
namespace Go.Proofs.YtbpbpdaohganaaaDoor
open Go.RowKit
theorem LedM.cell {w : World} {g n : Nat} {F : Nat → Prop} {L : List (List UInt8)} (h : LedM w g F n L) : ∃ Ad cd Al cl, w.cell? ⟨g, 0, none⟩ = some (.slice Al n cl) ∧ w.cell? ⟨g, 1, none⟩ = some (.slice Ad n cd) ∧ n ≤ cd ∧ Ds w Ad n (L.map leafL) ∧ Texts w F (.slice Al n cl) n L := by
  obtain ⟨h1, h2, Ad, cd, Al, cl, h3, h4, h5⟩ := h
  obtain ⟨A', c', e, hc⟩ := h4.1.form
  injection e with q1 q2 q3
  subst q1 q3
  exact ⟨Ad, cd, Al, cl, h3.cell 0, h3.cell 1, hc, h4.1.ds, h5⟩
theorem run_emptyB (w : World) : (Instr.buildSlice 31 0 #[]).run Tryd.prog w = .ok (.slice (some ⟨w.heap.size, 0, none⟩) 0 0) (w.alloc (.cells #[] 5)) := by
  obtain ⟨i, hi, hz, hsize, hby⟩ := info_parts (show (Tryd.prog.info? 5).map (fun i => (i.zero, i.size, i.bytes)) = some (some (.int .u8 0), 1, 1) by kernel_rfl)
  simp [Instr.buildSlice, run_underlying Tryd.underlying31, sizeOf, typeInfo, hi, Instr.fill, newRow]
  have e : Array.map (fun _ => (default : Value)) (Array.range 0) = #[] := by apply Array.ext <;> simp
  rw [e]
theorem wp_emptyB {o : Oper} {a : Act} {w : World} {K : Act → World → Prop} {Q : Exit → Act → World → Prop} (ho : o.op = .buildSlice 31 0 #[])
    (h : ∀ g w', g = w.heap.size → Own w' w.heap.size 5 (.slice (some ⟨g, 0, none⟩) 0 0) 0 [] → Below w.heap.size w w' → K (a.put o.dst (.slice (some ⟨g, 0, none⟩) 0 0)) w') : o.wp Tryd.prog a w K Q := by
  unfold Oper.wp execOp
  simp only [ho, List.map_toArray, List.map_nil, Sem.run_bind, run_emptyB, Result.andThen_ok]
  exact h _ _ rfl ((Row.new w 5 #[]).own (l := []) (Nat.le_refl _) rfl rfl (by omega) (fun j x h => by simp at h)) ((Below.refl _ _).alloc (Nat.le_refl _) _)
theorem wp_appB {o : Oper} {a : Act} {w : World} {K : Act → World → Prop} {Q : Exit → Act → World → Prop} (s x : Operand) (ho : o.op = .call { callee := .builtin .append, args := #[s, x], argTypes := #[31, 31] })
    (base : Nat) (v : Value) (n : Nat) (xs : List UInt8) (hs : a.eval s = v) (hown : Own w base 5 v n xs) (A : Option Addr) (m c : Nat) (l : List UInt8) (hx : a.eval x = .slice A m c) (hr : Bs w A m l) (hb : n + m ≤ 140737488355328) (hbase : base ≤ w.heap.size)
    (h : ∀ A' c' w', Own w' base 5 (.slice A' (n + m) c') (n + m) (xs ++ l) → Below base w w' → K (a.put o.dst (.slice A' (n + m) c')) w') : o.wp Tryd.prog a w K Q := by
  obtain ⟨A', c', w', hrun, h2, h3, _⟩ := run_app Tryd.byteTypes o.type w base v n xs hown A m c l hr hb hbase
  unfold Oper.wp execOp
  simp only [ho, resolve, invoke, builtin, Sem.run_bind, Sem.run_pure, Result.andThen_ok, List.map_toArray, List.map_cons, List.map_nil, hs, hx, hrun]
  exact h A' c' w' h2 h3
theorem LedM.made {w w' : World} {g n : Nat} {F : Nat → Prop} {L : List (List UInt8)} {Ad Al : Option Addr} {cd cl : Nat} (hg : F g) (hs : w.heap.size ≤ w'.heap.size) (hlt : g < w.heap.size) (hr : Row w' g 30 #[.slice Al n cl, .slice Ad n cd]) (hd : Dgst w' (More F w) (.slice Ad n cd) n (L.map leafL)) (ht : Texts w' (More F w) (.slice Al n cl) n L) :
    LedM w' g (fun b => More F w b ∧ b < w'.heap.size) n L :=
  ⟨⟨.inl hg, Nat.lt_of_lt_of_le hlt hs⟩, fun _ h => h.2, Ad, cd, Al, cl, hr, hd.cap, ht.cap⟩
def GrewM (w : World) (g n : Nat) (F : Nat → Prop) (L : List (List UInt8)) (w' : World) : Prop := (∃ F' : Nat → Prop, (∀ b, F' b → F b ∨ w.heap.size ≤ b) ∧ LedM w' g F' n L) ∧ Off F w w'
set_option maxRecDepth 100000 in
set_option maxHeartbeats 4000000 in
theorem MApp_ok (g n m c : Nat) (A : Option Addr) (F : Nat → Prop) (L : List (List UInt8)) (l : List UInt8) (w : World) (h : LedM w g F n L) (hB : Bs w A m l) (hA : ∀ w', Off F w w' → Bs w' A m l) (hm : m ≤ 4096) (hn : n < 4096) (hFi : First w) (hT : Tab 4 w) (hT0 : ¬ F 0) (hT4 : ¬ F 4) :
    Calls Tryd.prog 14 #[.pointer (some ⟨g, 0, none⟩), .slice A m c] w fun e w' => e = .returned (.tuple #[.int .i64 (n : Int), .int .i64 0]) ∧ GrewM w g (n + 1) F (L ++ [l]) w' := by
  obtain ⟨hg, hF, Ad, cd, Al, cl, hr, hd, ht⟩ := h
  obtain rfl : l.length = m := hB.1
  have hgl := hr.lt
  have HR := Lib.hid hr
  have HDg := Lib.hid hd
  have HTx := Lib.hid ht
  have HG := Lib.hid hg
  have HF := Lib.hid hF
  have HA := Lib.hid hA
  have HB := Lib.hid hB
  have HFi := Lib.hid hFi
  have HT := Lib.hid hT
  have HT0 := Lib.hid hT0
  have HT4 := Lib.hid hT4
  have HLf := Lib.hid (fun w hB hF hT => RefLeaf_any A l.length c l w hB (by omega) hF hT)
  have HLL := Lib.hid (leafL_length l)
  have hX0 : w.cell? ⟨g, 0, none⟩ = some (.slice Al n cl) := hr.cell 0
  have HCl := Lib.hid (fun wq (hb : Below w.heap.size w wq) => show wq.cell? ⟨g, 0, none⟩ = some (.slice Al n cl) from (HR.out.below hb hgl).cell 0)
  have HD0 := Lib.hid (show (L ++ [l]).map leafL = L.map leafL ++ [leafL l] by rw [List.map_append]; rfl)
  have i1 : ¬ (4096 : Int) < (l.length : Int) := by omega
  have i2 : ¬ (4096 : Int) ≤ (n : Int) := by omega
  obtain ⟨m, hml⟩ : ∃ m, l.length = m := ⟨_, rfl⟩
  have HM := Lib.hid hml
  rw [hml] at i1 HLf hm
  have HB := Lib.hid (show Bs w A m l by rw [← hml]; exact HB.out)
  have hn1 : n + 1 ≤ 1000000 := by omega
  clear hr hd ht hg hF hA hB hT hFi hT0 hT4
  rw [hml]
  clear hml
  generalize leafL l = dl at *
  go_enter Tryd.func14, Tryd.ntmps14
  go_wp2_with fail
  clear hX0
  refine cutL (fun a a' w' => ∃ (g3 : Nat) (A3 : Option Addr) (c3 g4 : Nat) (A5 : Option Addr) (c5 : Nat), a' = ((((((((((((a.put (some 15) (.pointer (some ⟨g, 0, none⟩))).put (some 16) (.pointer (some ⟨g, 0, none⟩))).put (some 17) (.pointer (some ⟨g, 0, none⟩))).put (some 18) (.pointer (some ⟨g, 0, none⟩))).put (some 19) (.slice Al n cl)).put (some 20) (.slice (some ⟨g3, 0, none⟩) 0 0)).put (some 21) (.slice A m c)).put (some 22) (.slice A3 m c3)).put (some 23) (.slice (some ⟨g4, 0, none⟩) 1 1)).put (some 24) (.slice A5 (n + 1) c5)).put (some 25) (.pointer (some ⟨g, 0, none⟩))).put (some 26) (.pointer (some ⟨g, 0, none⟩))) ∧ Row w' g 30 #[.slice A5 (n + 1) c5, .slice Ad n cd] ∧ Dgst w' (More F w) (.slice Ad n cd) n (L.map leafL) ∧ Texts w' (More F w) (.slice A5 (n + 1) c5) (n + 1) (L ++ [l]) ∧ Off F w w') ?_ ?_
  · refine wp_region_noPanic ?_
    refine wp_region_held_drew (S := fun w' => True) (by kernel_rfl) trivial (fun hHeld => ?_)
    have B0 : Below w.heap.size w w.drew := (Below.refl w.heap.size w).drew
    refine takeD (i := 0) (some 15) (.pointer (some ⟨g, 0, none⟩)) rfl rfl (by kernel_rfl) (by kernel_rfl) (by kernel_rfl) (fun _ _ _ h => h) (Or.inl ⟨by rfl, fun _ _ => rfl⟩) hHeld ?_
    simp only [Act.put, List.setIfInBounds_toArray, List.set_cons_zero, List.set_cons_succ]
    refine takeD (i := 1) (some 16) (.pointer (some ⟨g, 0, none⟩)) rfl rfl (by kernel_rfl) (by kernel_rfl) (by kernel_rfl) (fun _ _ _ h => h) (Or.inl ⟨by rfl, fun _ _ => rfl⟩) hHeld ?_
    simp only [Act.put, List.setIfInBounds_toArray, List.set_cons_zero, List.set_cons_succ]
    refine takeD (i := 2) (some 17) (.pointer (some ⟨g, 0, none⟩)) rfl rfl (by kernel_rfl) (by kernel_rfl) (by kernel_rfl) (fun _ _ _ h => h) (yields_nil (by rfl) (.tmp 16) rfl _ rfl) hHeld ?_
    simp only [Act.put, List.setIfInBounds_toArray, List.set_cons_zero, List.set_cons_succ]
    refine takeD (i := 3) (some 18) (.pointer (some ⟨g, 0, none⟩)) rfl rfl (by kernel_rfl) (by kernel_rfl) (by kernel_rfl) (fun _ _ _ h => h) (yields_fldL (by rfl) 30 (.tmp 17) 0 rfl (by decide) g rfl) hHeld ?_
    simp only [Act.put, List.setIfInBounds_toArray, List.set_cons_zero, List.set_cons_succ]
    refine takeD (i := 6) (some 21) (.slice A m c) rfl rfl (by kernel_rfl) (by kernel_rfl) (by kernel_rfl) (fun _ _ _ h => h) (Or.inl ⟨by rfl, fun _ _ => rfl⟩) hHeld ?_
    simp only [Act.put, List.setIfInBounds_toArray, List.set_cons_zero, List.set_cons_succ]
    refine wpAnyH_ready (rs := [4, 5]) (by kernel_rfl) (by decide) ?_
    refine AllReadyH.cons rfl (fun K' hK => ?_) (AllReadyH.cons rfl (fun K' hK => ?_) AllReadyH.nil)
    · skip
      refine step_of rfl (wp_loadC 27 (.tmp 18) rfl (.inl rfl) g 0 (.slice Al n cl) rfl (HCl.out _ B0) ?_)
      refine hK.out _ _ trivial (fun hHeld1 => ?_)
      clear hK
      simp only [List.getElem_toArray, List.getElem_cons_succ, List.getElem_cons_zero, Act.put, List.setIfInBounds_toArray, List.set_cons_zero, List.set_cons_succ]
      refine wpAnyH_ready (rs := [5]) (by kernel_rfl) (by decide) ?_
      refine AllReadyH.cons rfl (fun K' hK => ?_) AllReadyH.nil
      refine step_of rfl (wp_emptyB rfl ?_)
      intro g3 w2 hg3 ho2 hb2
      have HO2 := Lib.hid (show Own w2 w.heap.size 5 (.slice (some ⟨g3, 0, none⟩) 0 0) 0 [] from ho2)
      have B2 : Below w.heap.size w w2 := B0.trans (hb2.mono B0.size)
      clear ho2 hb2 hg3
      refine hK.out _ _ trivial (fun hHeld2 => ?_)
      clear hK
      simp only [List.getElem_toArray, List.getElem_cons_succ, List.getElem_cons_zero, Act.put, List.setIfInBounds_toArray, List.set_cons_zero, List.set_cons_succ]
      refine wpAnyH_ready (rs := [7]) (by kernel_rfl) (by decide) ?_
      refine AllReadyH.cons rfl (fun K' hK => ?_) AllReadyH.nil
      refine step_of rfl (wp_appB (.tmp 20) (.tmp 21) rfl w.heap.size _ 0 [] rfl HO2.out A m c l rfl (HB.out.below B2) (by omega) B2.size ?_)
      rw [Nat.zero_add, List.nil_append]
      intro A3 c3 w3 ho3 hb3
      have HO3 := Lib.hid ho3
      have B3 : Below w.heap.size w w3 := B2.trans hb3
      clear ho3 hb3
      refine hK.out _ _ trivial (fun hHeld3 => ?_)
      clear hK
      simp only [List.getElem_toArray, List.getElem_cons_succ, List.getElem_cons_zero, Act.put, List.setIfInBounds_toArray, List.set_cons_zero, List.set_cons_succ]
      refine wpAnyH_ready (rs := [8]) (by kernel_rfl) (by decide) ?_
      refine AllReadyH.cons rfl (fun K' hK => ?_) AllReadyH.nil
      refine step_of rfl (wp_buildT (.tmp 22) rfl A3 m c3 rfl ?_)
      obtain ⟨w4, hw4⟩ : ∃ w4, w3.alloc (.cells #[.slice A3 m c3] 31) = w4 := ⟨_, rfl⟩
      obtain ⟨g4, hg4⟩ : ∃ g4, w3.heap.size = g4 := ⟨_, rfl⟩
      have HX4 := Lib.hid ((Row.new w3 31 #[.slice A3 m c3]).cell 0)
      have HO4 := Lib.hid (show Own w4 w.heap.size 5 (.slice A3 m c3) m l from by rw [← hw4]; exact World.ownsRow.alloc HO3.out _)
      have B4 : Below w.heap.size w w4 := by rw [← hw4]; exact B3.alloc B3.size _
      rw [hw4, hg4] at HX4
      rw [hw4, hg4]
      clear hw4 hg4
      refine hK.out _ _ trivial (fun hHeld4 => ?_)
      clear hK
      simp only [List.getElem_toArray, List.getElem_cons_succ, List.getElem_cons_zero, Act.put, List.setIfInBounds_toArray, List.set_cons_zero, List.set_cons_succ]
      refine wpAnyH_ready (rs := [9]) (by kernel_rfl) (by decide) ?_
      refine AllReadyH.cons rfl (fun K' hK => ?_) AllReadyH.nil
      refine step_of rfl (wp_appTF (.tmp 19) (.tmp 23) rfl (More F w) (.slice Al n cl) n L rfl ((HTx.out.same (fun b q => B4.block b (HF.out b q))).mono (fun b q => .inl q)) (.slice A3 m c3) l (by rw [HM.out]; exact ownsRow_base HO4.out (Nat.zero_le _)) (fun b q => .inr (HO4.out.lt b q).1) g4 0 1 rfl HX4.out hn1 ?_)
      intro A5 c5 w5 h5 hg5
      have S5 := Lib.hid (stepT (k := 0) (n := n + 1) (vl' := .slice A5 (n + 1) c5) (by decide) HR.out HG.out HDg.out ⟨n, HTx.out⟩ B4 hg5 h5)
      clear h5 hg5
      refine hK.out _ _ trivial (fun hHeld5 => ?_)
      clear hK
      simp only [List.getElem_toArray, List.getElem_cons_succ, List.getElem_cons_zero, Act.put, List.setIfInBounds_toArray, List.set_cons_zero, List.set_cons_succ]
      refine takeD (i := 10) (some 25) (.pointer (some ⟨g, 0, none⟩)) rfl rfl (by kernel_rfl) (by kernel_rfl) (by kernel_rfl) (fun _ _ _ h => h) (yields_nil (by rfl) (.tmp 15) rfl _ rfl) hHeld5 ?_
      simp only [Act.put, List.setIfInBounds_toArray, List.set_cons_zero, List.set_cons_succ]
      refine takeD (i := 11) (some 26) (.pointer (some ⟨g, 0, none⟩)) rfl rfl (by kernel_rfl) (by kernel_rfl) (by kernel_rfl) (fun _ _ _ h => h) (yields_fldL (by rfl) 30 (.tmp 25) 0 rfl (by decide) g rfl) hHeld5 ?_
      simp only [Act.put, List.setIfInBounds_toArray, List.set_cons_zero, List.set_cons_succ]
      refine wpAnyH_ready (rs := [12]) (by kernel_rfl) (by decide) ?_
      refine AllReadyH.cons rfl (fun K' hK => ?_) AllReadyH.nil
      refine step_of rfl (wp_storeC 27 (.tmp 26) (.tmp 24) rfl (.inl rfl) g 0 A5 (n + 1) c5 30 _ rfl rfl S5.out.1 (by show 0 < 2; omega) ?_)
      refine hK.out _ _ trivial (fun hHeld6 => ?_)
      clear hK
      refine wpAnyH_done (by kernel_rfl) ?_ _
      refine NoPanic.normal ?_
      exact ⟨rfl, g3, A3, c3, g4, A5, c5, rfl, S5.out.2.1, S5.out.2.2.1, S5.out.2.2.2.1, S5.out.2.2.2.2⟩
    · skip
      refine step_of rfl (wp_emptyB rfl ?_)
      intro g3 w2 hg3 ho2 hb2
      have HO2 := Lib.hid (show Own w2 w.heap.size 5 (.slice (some ⟨g3, 0, none⟩) 0 0) 0 [] from ho2)
      have B2 : Below w.heap.size w w2 := B0.trans (hb2.mono B0.size)
      clear ho2 hb2 hg3
      refine hK.out _ _ trivial (fun hHeld7 => ?_)
      clear hK
      simp only [List.getElem_toArray, List.getElem_cons_succ, List.getElem_cons_zero, Act.put, List.setIfInBounds_toArray, List.set_cons_zero, List.set_cons_succ]
      refine wpAnyH_ready (rs := [4, 7]) (by kernel_rfl) (by decide) ?_
      refine AllReadyH.cons rfl (fun K' hK => ?_) (AllReadyH.cons rfl (fun K' hK => ?_) AllReadyH.nil)
      · skip
        refine step_of rfl (wp_loadC 27 (.tmp 18) rfl (.inl rfl) g 0 (.slice Al n cl) rfl (HCl.out _ B2) ?_)
        refine hK.out _ _ trivial (fun hHeld8 => ?_)
        clear hK
        simp only [List.getElem_toArray, List.getElem_cons_succ, List.getElem_cons_zero, Act.put, List.setIfInBounds_toArray, List.set_cons_zero, List.set_cons_succ]
        refine wpAnyH_ready (rs := [7]) (by kernel_rfl) (by decide) ?_
        refine AllReadyH.cons rfl (fun K' hK => ?_) AllReadyH.nil
        refine step_of rfl (wp_appB (.tmp 20) (.tmp 21) rfl w.heap.size _ 0 [] rfl HO2.out A m c l rfl (HB.out.below B2) (by omega) B2.size ?_)
        rw [Nat.zero_add, List.nil_append]
        intro A3 c3 w3 ho3 hb3
        have HO3 := Lib.hid ho3
        have B3 : Below w.heap.size w w3 := B2.trans hb3
        clear ho3 hb3
        refine hK.out _ _ trivial (fun hHeld9 => ?_)
        clear hK
        simp only [List.getElem_toArray, List.getElem_cons_succ, List.getElem_cons_zero, Act.put, List.setIfInBounds_toArray, List.set_cons_zero, List.set_cons_succ]
        refine wpAnyH_ready (rs := [8]) (by kernel_rfl) (by decide) ?_
        refine AllReadyH.cons rfl (fun K' hK => ?_) AllReadyH.nil
        refine step_of rfl (wp_buildT (.tmp 22) rfl A3 m c3 rfl ?_)
        obtain ⟨w4, hw4⟩ : ∃ w4, w3.alloc (.cells #[.slice A3 m c3] 31) = w4 := ⟨_, rfl⟩
        obtain ⟨g4, hg4⟩ : ∃ g4, w3.heap.size = g4 := ⟨_, rfl⟩
        have HX4 := Lib.hid ((Row.new w3 31 #[.slice A3 m c3]).cell 0)
        have HO4 := Lib.hid (show Own w4 w.heap.size 5 (.slice A3 m c3) m l from by rw [← hw4]; exact World.ownsRow.alloc HO3.out _)
        have B4 : Below w.heap.size w w4 := by rw [← hw4]; exact B3.alloc B3.size _
        rw [hw4, hg4] at HX4
        rw [hw4, hg4]
        clear hw4 hg4
        refine hK.out _ _ trivial (fun hHeld10 => ?_)
        clear hK
        simp only [List.getElem_toArray, List.getElem_cons_succ, List.getElem_cons_zero, Act.put, List.setIfInBounds_toArray, List.set_cons_zero, List.set_cons_succ]
        refine wpAnyH_ready (rs := [9]) (by kernel_rfl) (by decide) ?_
        refine AllReadyH.cons rfl (fun K' hK => ?_) AllReadyH.nil
        refine step_of rfl (wp_appTF (.tmp 19) (.tmp 23) rfl (More F w) (.slice Al n cl) n L rfl ((HTx.out.same (fun b q => B4.block b (HF.out b q))).mono (fun b q => .inl q)) (.slice A3 m c3) l (by rw [HM.out]; exact ownsRow_base HO4.out (Nat.zero_le _)) (fun b q => .inr (HO4.out.lt b q).1) g4 0 1 rfl HX4.out hn1 ?_)
        intro A5 c5 w5 h5 hg5
        have S5 := Lib.hid (stepT (k := 0) (n := n + 1) (vl' := .slice A5 (n + 1) c5) (by decide) HR.out HG.out HDg.out ⟨n, HTx.out⟩ B4 hg5 h5)
        clear h5 hg5
        refine hK.out _ _ trivial (fun hHeld11 => ?_)
        clear hK
        simp only [List.getElem_toArray, List.getElem_cons_succ, List.getElem_cons_zero, Act.put, List.setIfInBounds_toArray, List.set_cons_zero, List.set_cons_succ]
        refine takeD (i := 10) (some 25) (.pointer (some ⟨g, 0, none⟩)) rfl rfl (by kernel_rfl) (by kernel_rfl) (by kernel_rfl) (fun _ _ _ h => h) (yields_nil (by rfl) (.tmp 15) rfl _ rfl) hHeld11 ?_
        simp only [Act.put, List.setIfInBounds_toArray, List.set_cons_zero, List.set_cons_succ]
        refine takeD (i := 11) (some 26) (.pointer (some ⟨g, 0, none⟩)) rfl rfl (by kernel_rfl) (by kernel_rfl) (by kernel_rfl) (fun _ _ _ h => h) (yields_fldL (by rfl) 30 (.tmp 25) 0 rfl (by decide) g rfl) hHeld11 ?_
        simp only [Act.put, List.setIfInBounds_toArray, List.set_cons_zero, List.set_cons_succ]
        refine wpAnyH_ready (rs := [12]) (by kernel_rfl) (by decide) ?_
        refine AllReadyH.cons rfl (fun K' hK => ?_) AllReadyH.nil
        refine step_of rfl (wp_storeC 27 (.tmp 26) (.tmp 24) rfl (.inl rfl) g 0 A5 (n + 1) c5 30 _ rfl rfl S5.out.1 (by show 0 < 2; omega) ?_)
        refine hK.out _ _ trivial (fun hHeld12 => ?_)
        clear hK
        refine wpAnyH_done (by kernel_rfl) ?_ _
        refine NoPanic.normal ?_
        exact ⟨rfl, g3, A3, c3, g4, A5, c5, rfl, S5.out.2.1, S5.out.2.2.1, S5.out.2.2.2.1, S5.out.2.2.2.2⟩
      · skip
        refine step_of rfl (wp_appB (.tmp 20) (.tmp 21) rfl w.heap.size _ 0 [] rfl HO2.out A m c l rfl (HB.out.below B2) (by omega) B2.size ?_)
        rw [Nat.zero_add, List.nil_append]
        intro A3 c3 w3 ho3 hb3
        have HO3 := Lib.hid ho3
        have B3 : Below w.heap.size w w3 := B2.trans hb3
        clear ho3 hb3
        refine hK.out _ _ trivial (fun hHeld13 => ?_)
        clear hK
        simp only [List.getElem_toArray, List.getElem_cons_succ, List.getElem_cons_zero, Act.put, List.setIfInBounds_toArray, List.set_cons_zero, List.set_cons_succ]
        refine wpAnyH_ready (rs := [4, 8]) (by kernel_rfl) (by decide) ?_
        refine AllReadyH.cons rfl (fun K' hK => ?_) (AllReadyH.cons rfl (fun K' hK => ?_) AllReadyH.nil)
        · skip
          refine step_of rfl (wp_loadC 27 (.tmp 18) rfl (.inl rfl) g 0 (.slice Al n cl) rfl (HCl.out _ B3) ?_)
          refine hK.out _ _ trivial (fun hHeld14 => ?_)
          clear hK
          simp only [List.getElem_toArray, List.getElem_cons_succ, List.getElem_cons_zero, Act.put, List.setIfInBounds_toArray, List.set_cons_zero, List.set_cons_succ]
          refine wpAnyH_ready (rs := [8]) (by kernel_rfl) (by decide) ?_
          refine AllReadyH.cons rfl (fun K' hK => ?_) AllReadyH.nil
          refine step_of rfl (wp_buildT (.tmp 22) rfl A3 m c3 rfl ?_)
          obtain ⟨w4, hw4⟩ : ∃ w4, w3.alloc (.cells #[.slice A3 m c3] 31) = w4 := ⟨_, rfl⟩
          obtain ⟨g4, hg4⟩ : ∃ g4, w3.heap.size = g4 := ⟨_, rfl⟩
          have HX4 := Lib.hid ((Row.new w3 31 #[.slice A3 m c3]).cell 0)
          have HO4 := Lib.hid (show Own w4 w.heap.size 5 (.slice A3 m c3) m l from by rw [← hw4]; exact World.ownsRow.alloc HO3.out _)
          have B4 : Below w.heap.size w w4 := by rw [← hw4]; exact B3.alloc B3.size _
          rw [hw4, hg4] at HX4
          rw [hw4, hg4]
          clear hw4 hg4
          refine hK.out _ _ trivial (fun hHeld15 => ?_)
          clear hK
          simp only [List.getElem_toArray, List.getElem_cons_succ, List.getElem_cons_zero, Act.put, List.setIfInBounds_toArray, List.set_cons_zero, List.set_cons_succ]
          refine wpAnyH_ready (rs := [9]) (by kernel_rfl) (by decide) ?_
          refine AllReadyH.cons rfl (fun K' hK => ?_) AllReadyH.nil
          refine step_of rfl (wp_appTF (.tmp 19) (.tmp 23) rfl (More F w) (.slice Al n cl) n L rfl ((HTx.out.same (fun b q => B4.block b (HF.out b q))).mono (fun b q => .inl q)) (.slice A3 m c3) l (by rw [HM.out]; exact ownsRow_base HO4.out (Nat.zero_le _)) (fun b q => .inr (HO4.out.lt b q).1) g4 0 1 rfl HX4.out hn1 ?_)
          intro A5 c5 w5 h5 hg5
          have S5 := Lib.hid (stepT (k := 0) (n := n + 1) (vl' := .slice A5 (n + 1) c5) (by decide) HR.out HG.out HDg.out ⟨n, HTx.out⟩ B4 hg5 h5)
          clear h5 hg5
          refine hK.out _ _ trivial (fun hHeld16 => ?_)
          clear hK
          simp only [List.getElem_toArray, List.getElem_cons_succ, List.getElem_cons_zero, Act.put, List.setIfInBounds_toArray, List.set_cons_zero, List.set_cons_succ]
          refine takeD (i := 10) (some 25) (.pointer (some ⟨g, 0, none⟩)) rfl rfl (by kernel_rfl) (by kernel_rfl) (by kernel_rfl) (fun _ _ _ h => h) (yields_nil (by rfl) (.tmp 15) rfl _ rfl) hHeld16 ?_
          simp only [Act.put, List.setIfInBounds_toArray, List.set_cons_zero, List.set_cons_succ]
          refine takeD (i := 11) (some 26) (.pointer (some ⟨g, 0, none⟩)) rfl rfl (by kernel_rfl) (by kernel_rfl) (by kernel_rfl) (fun _ _ _ h => h) (yields_fldL (by rfl) 30 (.tmp 25) 0 rfl (by decide) g rfl) hHeld16 ?_
          simp only [Act.put, List.setIfInBounds_toArray, List.set_cons_zero, List.set_cons_succ]
          refine wpAnyH_ready (rs := [12]) (by kernel_rfl) (by decide) ?_
          refine AllReadyH.cons rfl (fun K' hK => ?_) AllReadyH.nil
          refine step_of rfl (wp_storeC 27 (.tmp 26) (.tmp 24) rfl (.inl rfl) g 0 A5 (n + 1) c5 30 _ rfl rfl S5.out.1 (by show 0 < 2; omega) ?_)
          refine hK.out _ _ trivial (fun hHeld17 => ?_)
          clear hK
          refine wpAnyH_done (by kernel_rfl) ?_ _
          refine NoPanic.normal ?_
          exact ⟨rfl, g3, A3, c3, g4, A5, c5, rfl, S5.out.2.1, S5.out.2.2.1, S5.out.2.2.2.1, S5.out.2.2.2.2⟩
        · skip
          refine step_of rfl (wp_buildT (.tmp 22) rfl A3 m c3 rfl ?_)
          obtain ⟨w4, hw4⟩ : ∃ w4, w3.alloc (.cells #[.slice A3 m c3] 31) = w4 := ⟨_, rfl⟩
          obtain ⟨g4, hg4⟩ : ∃ g4, w3.heap.size = g4 := ⟨_, rfl⟩
          have HX4 := Lib.hid ((Row.new w3 31 #[.slice A3 m c3]).cell 0)
          have HO4 := Lib.hid (show Own w4 w.heap.size 5 (.slice A3 m c3) m l from by rw [← hw4]; exact World.ownsRow.alloc HO3.out _)
          have B4 : Below w.heap.size w w4 := by rw [← hw4]; exact B3.alloc B3.size _
          rw [hw4, hg4] at HX4
          rw [hw4, hg4]
          clear hw4 hg4
          refine hK.out _ _ trivial (fun hHeld18 => ?_)
          clear hK
          simp only [List.getElem_toArray, List.getElem_cons_succ, List.getElem_cons_zero, Act.put, List.setIfInBounds_toArray, List.set_cons_zero, List.set_cons_succ]
          refine wpAnyH_ready (rs := [4]) (by kernel_rfl) (by decide) ?_
          refine AllReadyH.cons rfl (fun K' hK => ?_) AllReadyH.nil
          refine step_of rfl (wp_loadC 27 (.tmp 18) rfl (.inl rfl) g 0 (.slice Al n cl) rfl (HCl.out _ B4) ?_)
          refine hK.out _ _ trivial (fun hHeld19 => ?_)
          clear hK
          simp only [List.getElem_toArray, List.getElem_cons_succ, List.getElem_cons_zero, Act.put, List.setIfInBounds_toArray, List.set_cons_zero, List.set_cons_succ]
          refine wpAnyH_ready (rs := [9]) (by kernel_rfl) (by decide) ?_
          refine AllReadyH.cons rfl (fun K' hK => ?_) AllReadyH.nil
          refine step_of rfl (wp_appTF (.tmp 19) (.tmp 23) rfl (More F w) (.slice Al n cl) n L rfl ((HTx.out.same (fun b q => B4.block b (HF.out b q))).mono (fun b q => .inl q)) (.slice A3 m c3) l (by rw [HM.out]; exact ownsRow_base HO4.out (Nat.zero_le _)) (fun b q => .inr (HO4.out.lt b q).1) g4 0 1 rfl HX4.out hn1 ?_)
          intro A5 c5 w5 h5 hg5
          have S5 := Lib.hid (stepT (k := 0) (n := n + 1) (vl' := .slice A5 (n + 1) c5) (by decide) HR.out HG.out HDg.out ⟨n, HTx.out⟩ B4 hg5 h5)
          clear h5 hg5
          refine hK.out _ _ trivial (fun hHeld20 => ?_)
          clear hK
          simp only [List.getElem_toArray, List.getElem_cons_succ, List.getElem_cons_zero, Act.put, List.setIfInBounds_toArray, List.set_cons_zero, List.set_cons_succ]
          refine takeD (i := 10) (some 25) (.pointer (some ⟨g, 0, none⟩)) rfl rfl (by kernel_rfl) (by kernel_rfl) (by kernel_rfl) (fun _ _ _ h => h) (yields_nil (by rfl) (.tmp 15) rfl _ rfl) hHeld20 ?_
          simp only [Act.put, List.setIfInBounds_toArray, List.set_cons_zero, List.set_cons_succ]
          refine takeD (i := 11) (some 26) (.pointer (some ⟨g, 0, none⟩)) rfl rfl (by kernel_rfl) (by kernel_rfl) (by kernel_rfl) (fun _ _ _ h => h) (yields_fldL (by rfl) 30 (.tmp 25) 0 rfl (by decide) g rfl) hHeld20 ?_
          simp only [Act.put, List.setIfInBounds_toArray, List.set_cons_zero, List.set_cons_succ]
          refine wpAnyH_ready (rs := [12]) (by kernel_rfl) (by decide) ?_
          refine AllReadyH.cons rfl (fun K' hK => ?_) AllReadyH.nil
          refine step_of rfl (wp_storeC 27 (.tmp 26) (.tmp 24) rfl (.inl rfl) g 0 A5 (n + 1) c5 30 _ rfl rfl S5.out.1 (by show 0 < 2; omega) ?_)
          refine hK.out _ _ trivial (fun hHeld21 => ?_)
          clear hK
          refine wpAnyH_done (by kernel_rfl) ?_ _
          refine NoPanic.normal ?_
          exact ⟨rfl, g3, A3, c3, g4, A5, c5, rfl, S5.out.2.1, S5.out.2.2.1, S5.out.2.2.2.1, S5.out.2.2.2.2⟩
  rintro a' w6 ⟨g3, A3, c3, g4, A5, c5, rfl, hr6, hd6, ht6, ho6⟩
  have HR6 := Lib.hid hr6
  have HD6 := Lib.hid hd6.cap
  have HT6 := Lib.hid ht6.cap
  have HO6 := Lib.hid ho6
  have hs6 := ho6.size
  have hg6 := hr6.lt
  have HTb := Lib.hid (show Tab 4 w6 from ⟨Nat.lt_of_lt_of_le HT.out.1 hs6, fun t q => (World.cell?_of_block (a := ⟨4, t, none⟩) (ho6.block 4 HT.out.1 HT4.out)).trans (HT.out.2 t q)⟩)
  have HFb := Lib.hid (show First w6 from ⟨Nat.lt_of_lt_of_le HFi.out.1 hs6, fun t q => (World.cell?_of_block (a := ⟨0, t, none⟩) (ho6.block 0 HFi.out.1 HT0.out)).trans (HFi.out.2 t q)⟩)
  have HB6 := Lib.hid (show Bs w6 A m l by rw [← HM.out]; exact HA.out _ ho6)
  have HC6 := Lib.hid (fun wq (hb : Below w6.heap.size w6 wq) => show wq.cell? ⟨g, 1, none⟩ = some (.slice Ad n cd) from (HR6.out.below hb hg6).cell 1)
  clear hr6 hd6 ht6 ho6
  simp only [Act.put, List.setIfInBounds_toArray, List.set_cons_zero, List.set_cons_succ]
  go_wp2_with fail
  refine cutL (fun a a' w' => ∃ (g7 : Nat) (A8 : Option Addr) (c8 : Nat), a' = (((((((((((a.put (some 27) (.pointer (some ⟨g, 0, none⟩))).put (some 28) (.pointer (some ⟨g, 0, none⟩))).put (some 29) (.pointer (some ⟨g, 0, none⟩))).put (some 30) (.pointer (some ⟨g, 1, none⟩))).put (some 31) (.slice Ad n cd)).put (some 32) (.slice A m c)).put (some 33) (.agg (bcells dl))).put (some 34) (.slice (some ⟨g7, 0, none⟩) 1 1)).put (some 35) (.slice A8 (n + 1) c8)).put (some 36) (.pointer (some ⟨g, 0, none⟩))).put (some 37) (.pointer (some ⟨g, 1, none⟩))) ∧ Row w' g 30 #[.slice A5 (n + 1) c5, .slice A8 (n + 1) c8] ∧ Dgst w' (More (fun b => More F w b ∧ b < w6.heap.size) w6) (.slice A8 (n + 1) c8) (n + 1) (L.map leafL ++ [dl]) ∧ Texts w' (More (fun b => More F w b ∧ b < w6.heap.size) w6) (.slice A5 (n + 1) c5) (n + 1) (L ++ [l]) ∧ Off (fun b => More F w b ∧ b < w6.heap.size) w6 w') ?_ ?_
  · refine wp_region_noPanic ?_
    refine wp_region_held_drew (S := fun w' => True) (by kernel_rfl) trivial (fun hHeld => ?_)
    have C0 : Below w6.heap.size w6 w6.drew := (Below.refl w6.heap.size w6).drew
    refine takeD (i := 0) (some 27) (.pointer (some ⟨g, 0, none⟩)) rfl rfl (by kernel_rfl) (by kernel_rfl) (by kernel_rfl) (fun _ _ _ h => h) (Or.inl ⟨by rfl, fun _ _ => rfl⟩) hHeld ?_
    simp only [Act.put, List.setIfInBounds_toArray, List.set_cons_zero, List.set_cons_succ]
    refine takeD (i := 1) (some 28) (.pointer (some ⟨g, 0, none⟩)) rfl rfl (by kernel_rfl) (by kernel_rfl) (by kernel_rfl) (fun _ _ _ h => h) (Or.inl ⟨by rfl, fun _ _ => rfl⟩) hHeld ?_
    simp only [Act.put, List.setIfInBounds_toArray, List.set_cons_zero, List.set_cons_succ]
    refine takeD (i := 2) (some 29) (.pointer (some ⟨g, 0, none⟩)) rfl rfl (by kernel_rfl) (by kernel_rfl) (by kernel_rfl) (fun _ _ _ h => h) (yields_nil (by rfl) (.tmp 28) rfl _ rfl) hHeld ?_
    simp only [Act.put, List.setIfInBounds_toArray, List.set_cons_zero, List.set_cons_succ]
    refine takeD (i := 3) (some 30) (.pointer (some ⟨g, 1, none⟩)) rfl rfl (by kernel_rfl) (by kernel_rfl) (by kernel_rfl) (fun _ _ _ h => h) (yields_fldL (by rfl) 30 (.tmp 29) 1 rfl (by decide) g rfl) hHeld ?_
    simp only [Act.put, List.setIfInBounds_toArray, List.set_cons_zero, List.set_cons_succ]
    refine takeD (i := 5) (some 32) (.slice A m c) rfl rfl (by kernel_rfl) (by kernel_rfl) (by kernel_rfl) (fun _ _ _ h => h) (Or.inl ⟨by rfl, fun _ _ => rfl⟩) hHeld ?_
    simp only [Act.put, List.setIfInBounds_toArray, List.set_cons_zero, List.set_cons_succ]
    refine wpAnyH_ready (rs := [4, 6]) (by kernel_rfl) (by decide) ?_
    refine AllReadyH.cons rfl (fun K' hK => ?_) (AllReadyH.cons rfl (fun K' hK => ?_) AllReadyH.nil)
    · skip
      refine step_of rfl (wp_loadC 28 (.tmp 30) rfl (.inr rfl) g 1 (.slice Ad n cd) rfl (HC6.out _ C0) ?_)
      refine hK.out _ _ trivial (fun hHeld1 => ?_)
      clear hK
      simp only [List.getElem_toArray, List.getElem_cons_succ, List.getElem_cons_zero, Act.put, List.setIfInBounds_toArray, List.set_cons_zero, List.set_cons_succ]
      refine wpAnyH_ready (rs := [6]) (by kernel_rfl) (by decide) ?_
      refine AllReadyH.cons rfl (fun K' hK => ?_) AllReadyH.nil
      go_simp
      refine (HLf.out w6.drew HB6.out HFb.out HTb.out).mono ?_
      rintro e7 w7 ⟨rfl, hb7⟩
      have C7 : Below w6.heap.size w6 w7 := C0.trans (hb7.mono C0.size)
      clear hb7
      refine hK.out _ _ trivial (fun hHeld2 => ?_)
      clear hK
      refine wpAnyH_ready (rs := [7]) (by kernel_rfl) (by decide) ?_
      refine AllReadyH.cons rfl (fun K' hK => ?_) AllReadyH.nil
      refine step_of rfl (wp_buildD1 (.tmp 33) rfl dl HLL.out rfl ?_)
      obtain ⟨w8, hw8⟩ : ∃ w8, w7.alloc (.cells (bcells dl) 46) = w8 := ⟨_, rfl⟩
      obtain ⟨g7, hg7⟩ : ∃ g7, w7.heap.size = g7 := ⟨_, rfl⟩
      have HX8 := Lib.hid (range_row (Row.new w7 46 (bcells dl)))
      have C8 : Below w6.heap.size w6 w8 := by rw [← hw8]; exact C7.alloc C7.size _
      rw [hw8, hg7] at HX8
      rw [hw8, hg7]
      clear hw8 hg7
      refine hK.out _ _ trivial (fun hHeld3 => ?_)
      clear hK
      simp only [List.getElem_toArray, List.getElem_cons_succ, List.getElem_cons_zero, Act.put, List.setIfInBounds_toArray, List.set_cons_zero, List.set_cons_succ]
      refine wpAnyH_ready (rs := [8]) (by kernel_rfl) (by decide) ?_
      refine AllReadyH.cons rfl (fun K' hK => ?_) AllReadyH.nil
      refine step_of rfl (wp_appDF (.tmp 31) (.tmp 34) rfl (fun b => More F w b ∧ b < w6.heap.size) (.slice Ad n cd) n (L.map leafL) rfl (HD6.out.same (fun b q => C8.block b q.2)) dl HLL.out g7 0 1 rfl HX8.out hn1 ?_)
      intro A8 c8 w9 h9 hg9
      have S9 := Lib.hid (stepD (k := 1) (n := n + 1) (F := fun b => More F w b ∧ b < w6.heap.size) (vd' := .slice A8 (n + 1) c8) (by decide) HR6.out ⟨.inl HG.out, hg6⟩ ⟨n, HD6.out⟩ HT6.out C8 hg9 (fun F' q1 q2 => h9 F' (fun b q => q1 b (.inl q)) q2))
      clear h9 hg9
      refine hK.out _ _ trivial (fun hHeld4 => ?_)
      clear hK
      simp only [List.getElem_toArray, List.getElem_cons_succ, List.getElem_cons_zero, Act.put, List.setIfInBounds_toArray, List.set_cons_zero, List.set_cons_succ]
      refine takeD (i := 9) (some 36) (.pointer (some ⟨g, 0, none⟩)) rfl rfl (by kernel_rfl) (by kernel_rfl) (by kernel_rfl) (fun _ _ _ h => h) (yields_nil (by rfl) (.tmp 27) rfl _ rfl) hHeld4 ?_
      simp only [Act.put, List.setIfInBounds_toArray, List.set_cons_zero, List.set_cons_succ]
      refine takeD (i := 10) (some 37) (.pointer (some ⟨g, 1, none⟩)) rfl rfl (by kernel_rfl) (by kernel_rfl) (by kernel_rfl) (fun _ _ _ h => h) (yields_fldL (by rfl) 30 (.tmp 36) 1 rfl (by decide) g rfl) hHeld4 ?_
      simp only [Act.put, List.setIfInBounds_toArray, List.set_cons_zero, List.set_cons_succ]
      refine wpAnyH_ready (rs := [11]) (by kernel_rfl) (by decide) ?_
      refine AllReadyH.cons rfl (fun K' hK => ?_) AllReadyH.nil
      refine step_of rfl (wp_storeC 28 (.tmp 37) (.tmp 35) rfl (.inr rfl) g 1 A8 (n + 1) c8 30 _ rfl rfl S9.out.1 (by show 1 < 2; omega) ?_)
      refine hK.out _ _ trivial (fun hHeld5 => ?_)
      clear hK
      refine wpAnyH_done (by kernel_rfl) ?_ _
      refine NoPanic.normal ?_
      exact ⟨rfl, g7, A8, c8, rfl, S9.out.2.1, S9.out.2.2.1, S9.out.2.2.2.1, S9.out.2.2.2.2⟩
    · skip
      go_simp
      refine (HLf.out w6.drew HB6.out HFb.out HTb.out).mono ?_
      rintro e7 w7 ⟨rfl, hb7⟩
      have C7 : Below w6.heap.size w6 w7 := C0.trans (hb7.mono C0.size)
      clear hb7
      refine hK.out _ _ trivial (fun hHeld6 => ?_)
      clear hK
      refine wpAnyH_ready (rs := [4, 7]) (by kernel_rfl) (by decide) ?_
      refine AllReadyH.cons rfl (fun K' hK => ?_) (AllReadyH.cons rfl (fun K' hK => ?_) AllReadyH.nil)
      · skip
        refine step_of rfl (wp_loadC 28 (.tmp 30) rfl (.inr rfl) g 1 (.slice Ad n cd) rfl (HC6.out _ C7) ?_)
        refine hK.out _ _ trivial (fun hHeld7 => ?_)
        clear hK
        simp only [List.getElem_toArray, List.getElem_cons_succ, List.getElem_cons_zero, Act.put, List.setIfInBounds_toArray, List.set_cons_zero, List.set_cons_succ]
        refine wpAnyH_ready (rs := [7]) (by kernel_rfl) (by decide) ?_
        refine AllReadyH.cons rfl (fun K' hK => ?_) AllReadyH.nil
        refine step_of rfl (wp_buildD1 (.tmp 33) rfl dl HLL.out rfl ?_)
        obtain ⟨w8, hw8⟩ : ∃ w8, w7.alloc (.cells (bcells dl) 46) = w8 := ⟨_, rfl⟩
        obtain ⟨g7, hg7⟩ : ∃ g7, w7.heap.size = g7 := ⟨_, rfl⟩
        have HX8 := Lib.hid (range_row (Row.new w7 46 (bcells dl)))
        have C8 : Below w6.heap.size w6 w8 := by rw [← hw8]; exact C7.alloc C7.size _
        rw [hw8, hg7] at HX8
        rw [hw8, hg7]
        clear hw8 hg7
        refine hK.out _ _ trivial (fun hHeld8 => ?_)
        clear hK
        simp only [List.getElem_toArray, List.getElem_cons_succ, List.getElem_cons_zero, Act.put, List.setIfInBounds_toArray, List.set_cons_zero, List.set_cons_succ]
        refine wpAnyH_ready (rs := [8]) (by kernel_rfl) (by decide) ?_
        refine AllReadyH.cons rfl (fun K' hK => ?_) AllReadyH.nil
        refine step_of rfl (wp_appDF (.tmp 31) (.tmp 34) rfl (fun b => More F w b ∧ b < w6.heap.size) (.slice Ad n cd) n (L.map leafL) rfl (HD6.out.same (fun b q => C8.block b q.2)) dl HLL.out g7 0 1 rfl HX8.out hn1 ?_)
        intro A8 c8 w9 h9 hg9
        have S9 := Lib.hid (stepD (k := 1) (n := n + 1) (F := fun b => More F w b ∧ b < w6.heap.size) (vd' := .slice A8 (n + 1) c8) (by decide) HR6.out ⟨.inl HG.out, hg6⟩ ⟨n, HD6.out⟩ HT6.out C8 hg9 (fun F' q1 q2 => h9 F' (fun b q => q1 b (.inl q)) q2))
        clear h9 hg9
        refine hK.out _ _ trivial (fun hHeld9 => ?_)
        clear hK
        simp only [List.getElem_toArray, List.getElem_cons_succ, List.getElem_cons_zero, Act.put, List.setIfInBounds_toArray, List.set_cons_zero, List.set_cons_succ]
        refine takeD (i := 9) (some 36) (.pointer (some ⟨g, 0, none⟩)) rfl rfl (by kernel_rfl) (by kernel_rfl) (by kernel_rfl) (fun _ _ _ h => h) (yields_nil (by rfl) (.tmp 27) rfl _ rfl) hHeld9 ?_
        simp only [Act.put, List.setIfInBounds_toArray, List.set_cons_zero, List.set_cons_succ]
        refine takeD (i := 10) (some 37) (.pointer (some ⟨g, 1, none⟩)) rfl rfl (by kernel_rfl) (by kernel_rfl) (by kernel_rfl) (fun _ _ _ h => h) (yields_fldL (by rfl) 30 (.tmp 36) 1 rfl (by decide) g rfl) hHeld9 ?_
        simp only [Act.put, List.setIfInBounds_toArray, List.set_cons_zero, List.set_cons_succ]
        refine wpAnyH_ready (rs := [11]) (by kernel_rfl) (by decide) ?_
        refine AllReadyH.cons rfl (fun K' hK => ?_) AllReadyH.nil
        refine step_of rfl (wp_storeC 28 (.tmp 37) (.tmp 35) rfl (.inr rfl) g 1 A8 (n + 1) c8 30 _ rfl rfl S9.out.1 (by show 1 < 2; omega) ?_)
        refine hK.out _ _ trivial (fun hHeld10 => ?_)
        clear hK
        refine wpAnyH_done (by kernel_rfl) ?_ _
        refine NoPanic.normal ?_
        exact ⟨rfl, g7, A8, c8, rfl, S9.out.2.1, S9.out.2.2.1, S9.out.2.2.2.1, S9.out.2.2.2.2⟩
      · skip
        refine step_of rfl (wp_buildD1 (.tmp 33) rfl dl HLL.out rfl ?_)
        obtain ⟨w8, hw8⟩ : ∃ w8, w7.alloc (.cells (bcells dl) 46) = w8 := ⟨_, rfl⟩
        obtain ⟨g7, hg7⟩ : ∃ g7, w7.heap.size = g7 := ⟨_, rfl⟩
        have HX8 := Lib.hid (range_row (Row.new w7 46 (bcells dl)))
        have C8 : Below w6.heap.size w6 w8 := by rw [← hw8]; exact C7.alloc C7.size _
        rw [hw8, hg7] at HX8
        rw [hw8, hg7]
        clear hw8 hg7
        refine hK.out _ _ trivial (fun hHeld11 => ?_)
        clear hK
        simp only [List.getElem_toArray, List.getElem_cons_succ, List.getElem_cons_zero, Act.put, List.setIfInBounds_toArray, List.set_cons_zero, List.set_cons_succ]
        refine wpAnyH_ready (rs := [4]) (by kernel_rfl) (by decide) ?_
        refine AllReadyH.cons rfl (fun K' hK => ?_) AllReadyH.nil
        refine step_of rfl (wp_loadC 28 (.tmp 30) rfl (.inr rfl) g 1 (.slice Ad n cd) rfl (HC6.out _ C8) ?_)
        refine hK.out _ _ trivial (fun hHeld12 => ?_)
        clear hK
        simp only [List.getElem_toArray, List.getElem_cons_succ, List.getElem_cons_zero, Act.put, List.setIfInBounds_toArray, List.set_cons_zero, List.set_cons_succ]
        refine wpAnyH_ready (rs := [8]) (by kernel_rfl) (by decide) ?_
        refine AllReadyH.cons rfl (fun K' hK => ?_) AllReadyH.nil
        refine step_of rfl (wp_appDF (.tmp 31) (.tmp 34) rfl (fun b => More F w b ∧ b < w6.heap.size) (.slice Ad n cd) n (L.map leafL) rfl (HD6.out.same (fun b q => C8.block b q.2)) dl HLL.out g7 0 1 rfl HX8.out hn1 ?_)
        intro A8 c8 w9 h9 hg9
        have S9 := Lib.hid (stepD (k := 1) (n := n + 1) (F := fun b => More F w b ∧ b < w6.heap.size) (vd' := .slice A8 (n + 1) c8) (by decide) HR6.out ⟨.inl HG.out, hg6⟩ ⟨n, HD6.out⟩ HT6.out C8 hg9 (fun F' q1 q2 => h9 F' (fun b q => q1 b (.inl q)) q2))
        clear h9 hg9
        refine hK.out _ _ trivial (fun hHeld13 => ?_)
        clear hK
        simp only [List.getElem_toArray, List.getElem_cons_succ, List.getElem_cons_zero, Act.put, List.setIfInBounds_toArray, List.set_cons_zero, List.set_cons_succ]
        refine takeD (i := 9) (some 36) (.pointer (some ⟨g, 0, none⟩)) rfl rfl (by kernel_rfl) (by kernel_rfl) (by kernel_rfl) (fun _ _ _ h => h) (yields_nil (by rfl) (.tmp 27) rfl _ rfl) hHeld13 ?_
        simp only [Act.put, List.setIfInBounds_toArray, List.set_cons_zero, List.set_cons_succ]
        refine takeD (i := 10) (some 37) (.pointer (some ⟨g, 1, none⟩)) rfl rfl (by kernel_rfl) (by kernel_rfl) (by kernel_rfl) (fun _ _ _ h => h) (yields_fldL (by rfl) 30 (.tmp 36) 1 rfl (by decide) g rfl) hHeld13 ?_
        simp only [Act.put, List.setIfInBounds_toArray, List.set_cons_zero, List.set_cons_succ]
        refine wpAnyH_ready (rs := [11]) (by kernel_rfl) (by decide) ?_
        refine AllReadyH.cons rfl (fun K' hK => ?_) AllReadyH.nil
        refine step_of rfl (wp_storeC 28 (.tmp 37) (.tmp 35) rfl (.inr rfl) g 1 A8 (n + 1) c8 30 _ rfl rfl S9.out.1 (by show 1 < 2; omega) ?_)
        refine hK.out _ _ trivial (fun hHeld14 => ?_)
        clear hK
        refine wpAnyH_done (by kernel_rfl) ?_ _
        refine NoPanic.normal ?_
        exact ⟨rfl, g7, A8, c8, rfl, S9.out.2.1, S9.out.2.2.1, S9.out.2.2.2.1, S9.out.2.2.2.2⟩
  rintro a' w9 ⟨g7, A8, c8, rfl, hr9, hd9, ht9, ho9⟩
  have hc9 : w9.cell? ⟨g, 0, none⟩ = some (.slice A5 (n + 1) c5) := hr9.cell 0
  have HR9 := Lib.hid hr9
  have HD9 := Lib.hid hd9
  have HT9 := Lib.hid ht9
  have HO9 := Lib.hid ho9
  clear hr9 hd9 ht9 ho9
  have e1 : wrap64 ((n : Int) + 1 - 1) = (n : Int) := (w64_small _ (by omega) (by omega)).trans (by omega)
  simp only [Act.put, List.setIfInBounds_toArray, List.set_cons_zero, List.set_cons_succ]
  go_wp2_with fail
  go_ret2
  have q := LedM.made (F := fun b => More F w b ∧ b < w6.heap.size) (L := L ++ [l]) ⟨.inl HG.out, hg6⟩ HO9.out.size hg6 HR9.out (by rw [HD0.out]; exact HD9.out) HT9.out
  refine ⟨?_, ⟨_, fun b q => ?_, q⟩, HO6.out.trans HO9.out (fun x q => q.1)⟩
  · congr 3
    all_goals first | rfl | (simp; done) | skip
  · rcases q.1 with q | q
    · exact q.1
    · exact .inr (by omega)
set_option maxRecDepth 100000 in
set_option maxHeartbeats 400000 in
theorem MApp_long (g m c : Nat) (A : Option Addr) (w : World) (hm : 4096 < m) : Calls Tryd.prog 14 #[.pointer (some ⟨g, 0, none⟩), .slice A m c] w fun e w' => e = .returned (.tuple #[.int .i64 0, .int .i64 42]) ∧ w = w' := by
  have i1 : (4096 : Int) < (m : Int) := by omega
  clear hm
  go_enter Tryd.func14, Tryd.ntmps14
  go_wp2
  go_ret2
  exact ⟨rfl, rfl⟩
end Go.Proofs.YtbpbpdaohganaaaDoor
