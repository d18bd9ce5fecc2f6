/-
  A ledger grows: what stays, and what is there, behind an append onto its leaves or its digests and the store into its object; the program's add and Append.
-/
import Derived.Test.YtbpbpdaohganaaaDoorLedD
namespace Go.Proofs.YtbpbpdaohganaaaDoor
open Go.RowKit
/-- the blocks F and all that are made from now on -/
abbrev More (F : Nat → Prop) (w : World) : Nat → Prop := fun b => F b ∨ w.heap.size ≤ b
theorem cells_inj {w : World} {b : Nat} {cs cs' : Array Value} {e e' : TypeId} (h : w.heap[b]? = some (.cells cs e (0, 0))) (k : w.heap[b]? = some (.cells cs' e' (0, 0))) : e = e' := by
  rw [h] at k
  injection k with q
  injection q
theorem stepT {w w4 w5 : World} {g k n nd T : Nat} {F : Nat → Prop} {cs : Array Value} {vd vl vl' : Value} {D L L' : List (List UInt8)} (hT : T ≠ 31 ∧ T ≠ 46 ∧ T ≠ 5) (hr : Row w g T cs) (hg : F g) (hd : Dgst w F vd nd D)
    (ht : ∃ nl, Texts w F vl nl L) (hb : Below w.heap.size w w4) (h4 : w4.grownBy w5 vl.ownBlock) (h5 : ∀ F' : Nat → Prop, (∀ b, More F w b → F' b) → F' w4.heap.size → Texts w5 F' vl' n L') :
    Row w5 g T cs ∧ Row (w5.setCell ⟨g, k, none⟩ vl') g T (cs.setIfInBounds k vl') ∧ Dgst (w5.setCell ⟨g, k, none⟩ vl') (More F w) vd nd D ∧ Texts (w5.setCell ⟨g, k, none⟩ vl') (More F w) vl' n L' ∧ Off F w (w5.setCell ⟨g, k, none⟩ vl') := by
  obtain ⟨nl, vs, t1, t2, _⟩ := ht
  have hgl := hr.lt
  have hblk : ∀ (b : Nat) (cs : Array Value) (e : TypeId), w.heap[b]? = some (.cells cs e (0, 0)) → e ≠ 31 → w5.heap[b]? = some (.cells cs e (0, 0)) := fun b cs e q hne => by
    have hlt := (Array.getElem?_eq_some_iff.1 q).1
    rw [h4.block b (Nat.lt_of_lt_of_le hlt hb.size) (fun e1 => ?_), hb.block b hlt]; exact q
    obtain ⟨_, cs', q'⟩ := ownsRow_block t1 e1.symm
    exact hne (cells_inj q q')
  have hr5 : Row w5 g T cs := hblk g cs T hr hT.1
  refine ⟨hr5, hr5.set k vl', hd.mono (fun b q => Or.inl q) |>.keep (fun b cs' _ q => ?_), (h5 (More F w) (fun _ q => q) (.inr hb.size)).keep (fun b cs' e _ he q => ?_), ?_⟩
  · rw [Below.heap_setCell _ _ _ _ (fun q2 => ?_)]; exact hblk b cs' 46 q (by decide)
    have q2' : b = g := q2
    subst q2'
    exact hT.2.1 (cells_inj hr q)
  · rw [Below.heap_setCell _ _ _ _ (fun q2 => ?_)]; exact q
    have q2' : b = g := q2
    subst q2'
    have := cells_inj hr5 q
    rcases he with rfl | rfl
    · exact hT.1 this
    · exact hT.2.2 this
  · exact ((Off.of_below hb).trans (Off.grown (F := F) h4 t2) (fun x q => .inl q)).trans (Off.setCell w5 g k vl' hg) (fun x q => .inl q)
theorem stepD {w w4 w5 : World} {g k n nl T : Nat} {F : Nat → Prop} {cs : Array Value} {vd vd' vl : Value} {D D' L : List (List UInt8)} (hT : T ≠ 31 ∧ T ≠ 46 ∧ T ≠ 5) (hr : Row w g T cs) (hg : F g) (hd : ∃ nd, Dgst w F vd nd D)
    (ht : Texts w F vl nl L) (hb : Below w.heap.size w w4) (h4 : w4.grownBy w5 vd.ownBlock) (h5 : ∀ F' : Nat → Prop, (∀ b, More F w b → F' b) → F' w4.heap.size → Dgst w5 F' vd' n D') :
    Row w5 g T cs ∧ Row (w5.setCell ⟨g, k, none⟩ vd') g T (cs.setIfInBounds k vd') ∧ Dgst (w5.setCell ⟨g, k, none⟩ vd') (More F w) vd' n D' ∧ Texts (w5.setCell ⟨g, k, none⟩ vd') (More F w) vl nl L ∧ Off F w (w5.setCell ⟨g, k, none⟩ vd') := by
  obtain ⟨nd, t1, t2⟩ := hd
  have hgl := hr.lt
  have hblk : ∀ (b : Nat) (cs : Array Value) (e : TypeId), w.heap[b]? = some (.cells cs e (0, 0)) → e ≠ 46 → w5.heap[b]? = some (.cells cs e (0, 0)) := fun b cs e q hne => by
    have hlt := (Array.getElem?_eq_some_iff.1 q).1
    rw [h4.block b (Nat.lt_of_lt_of_le hlt hb.size) (fun e1 => ?_), hb.block b hlt]; exact q
    obtain ⟨_, cs', q'⟩ := ownsRow_block t1.2 e1.symm
    exact hne (cells_inj q q')
  have hr5 : Row w5 g T cs := hblk g cs T hr hT.2.1
  refine ⟨hr5, hr5.set k vd', (h5 (More F w) (fun _ q => q) (.inr hb.size)).keep (fun b cs' _ q => ?_), ht.mono (fun b q => Or.inl q) |>.keep (fun b cs' e _ he q => ?_), ?_⟩
  · rw [Below.heap_setCell _ _ _ _ (fun q2 => ?_)]; exact q
    have q2' : b = g := q2
    subst q2'
    exact hT.2.1 (cells_inj hr5 q)
  · rw [Below.heap_setCell _ _ _ _ (fun q2 => ?_)]; exact hblk b cs' e q (by rcases he with rfl | rfl <;> decide)
    have q2' : b = g := q2
    subst q2'
    have := cells_inj hr q
    rcases he with rfl | rfl
    · exact hT.1 this
    · exact hT.2.2 this
  · exact ((Off.of_below hb).trans (Off.grown (F := F) h4 t2) (fun x q => .inl q)).trans (Off.setCell w5 g k vd' hg) (fun x q => .inl q)
/-- what lies in F lies below the heap's end -/
theorem Dgst.cap {w : World} {F : Nat → Prop} {v : Value} {n : Nat} {D : List (List UInt8)} (h : Dgst w F v n D) : Dgst w (fun b => F b ∧ b < w.heap.size) v n D := ⟨h.1, fun b hb => ⟨h.2 b hb, (h.1.2.lt b hb).2⟩⟩
theorem Texts.cap {w : World} {F : Nat → Prop} {v : Value} {n : Nat} {L : List (List UInt8)} (h : Texts w F v n L) : Texts w (fun b => F b ∧ b < w.heap.size) v n L := by
  obtain ⟨vs, h1, h2, h3, h4⟩ := h
  exact ⟨vs, h1, fun b hb => ⟨h2 b hb, (h1.lt b hb).2⟩, h3, fun k x l hx hl => ⟨(h4 k x l hx hl).1, fun b hb => ⟨(h4 k x l hx hl).2 b hb, ((h4 k x l hx hl).1.lt b hb).2⟩⟩⟩
theorem yields_nil {ops : Array Oper} {S : World → Prop} {o : Oper} {a : Act} (hw : Region.wanted o (yielded ops a.tmps) = true) (x : Operand) (ho : o.op = .nilCheck x) (p : Addr)
    (hx : a.eval x = .pointer (some p)) : YieldsIf Tryd.prog ops S o (.pointer (some p)) a :=
  .inl ⟨hw, fun w h => by
    unfold execOp
    simp only [ho, hx]
    go_simp⟩
theorem yields_fldL {ops : Array Oper} {S : World → Prop} {o : Oper} {a : Act} (hw : Region.wanted o (yielded ops a.tmps) = true) (T : TypeId) (x : Operand) (k : Nat) (ho : o.op = .fieldAddr T x k) (hT : (T = 74 ∨ T = 30) ∧ (k = 0 ∨ k = 1) ∨ T = 72 ∧ k = 0) (g : Nat)
    (hx : a.eval x = .pointer (some ⟨g, 0, none⟩)) : YieldsIf Tryd.prog ops S o (.pointer (some ⟨g, k, none⟩)) a :=
  .inl ⟨hw, fun w _ => by
    unfold execOp
    simp only [ho, hx]
    rcases hT with ⟨rfl | rfl, rfl | rfl⟩ | ⟨rfl, rfl⟩ <;> go_simp⟩
set_option maxRecDepth 100000 in
set_option maxHeartbeats 2000000 in
theorem add_ok (g n cd nl : Nat) (Ad : Option Addr) (vl : Value) (F : Nat → Prop) (D L : List (List UInt8)) (d : List UInt8) (w : World) (hd : d.length = 32) (hn : n + 1 ≤ 1000000) (hg : F g) (hF : ∀ b, F b → b < w.heap.size) (hr : Row w g 74 #[.slice Ad n cd, vl]) (hD : Dgst w F (.slice Ad n cd) n D) (ht : Texts w F vl nl L) :
    Calls Tryd.prog 32 #[.pointer (some ⟨g, 0, none⟩), .agg (bcells d)] w fun e w' => e = .returned (.tuple #[]) ∧ ∃ Ad' cd', Row w' g 74 #[.slice Ad' (n + 1) cd', vl] ∧ Dgst w' (More F w) (.slice Ad' (n + 1) cd') (n + 1) (D ++ [d]) ∧ Texts w' (More F w) vl nl L ∧ Off F w w' := by
  have HL := Lib.hid hd
  have HR := Lib.hid hr
  have HDg := Lib.hid hD
  have HTx := Lib.hid ht
  have HG := Lib.hid hg
  have HF := Lib.hid hF
  have HV := Lib.hid hD.1.2.lt
  have hgl := hr.lt
  have HX0 := Lib.hid (Row.new w 46 (bcells d))
  have hb0 := (Below.refl w.heap.size w).alloc (Nat.le_refl _) (.cells (bcells d) 46)
  obtain ⟨wz, hwz⟩ : ∃ wz, w.alloc (.cells (bcells d) 46) = wz := ⟨_, rfl⟩
  have hltz : w.heap.size < wz.heap.size := by rw [← hwz]; simp
  rw [hwz] at hb0 HX0
  have HC := Lib.hid (fun wq (hb : Below w.heap.size w wq) => show wq.cell? ⟨g, 0, none⟩ = some (.slice Ad n cd) from (HR.out.below hb hgl).cell 0)
  have KP : Hid (∀ wq, Below wz.heap.size wz wq → Row wq w.heap.size 46 (bcells d)) := Lib.hid (fun wq hb => HX0.out.below hb hltz)
  clear hr hD ht hg hd hF
  go_enter Tryd.func32, Tryd.ntmps32
  go_wp2_with fail
  clear hwz
  have Z0 : Below wz.heap.size wz wz.drew := (Below.refl wz.heap.size wz).drew
  have B0 : Below w.heap.size w wz.drew := hb0.drew
  refine wp_region_noPanic ?_
  refine wp_region_held_drew (S := fun w' => Row w' w.heap.size 46 (bcells d)) (by kernel_rfl) (KP.out _ Z0) (fun hHeld => ?_)
  refine takeD (i := 0) (some 4) (.pointer (some ⟨g, 0, none⟩)) rfl rfl (by kernel_rfl) (by kernel_rfl) (by kernel_rfl) (fun _ _ _ h => h) (Or.inl ⟨by rfl, fun _ _ => rfl⟩) hHeld ?_
  simp only [Act.put, List.setIfInBounds_toArray, List.set_cons_zero, List.set_cons_succ]
  refine takeD (i := 1) (some 5) (.pointer (some ⟨g, 0, none⟩)) rfl rfl (by kernel_rfl) (by kernel_rfl) (by kernel_rfl) (fun _ _ _ h => h) (Or.inl ⟨by rfl, fun _ _ => rfl⟩) hHeld ?_
  simp only [Act.put, List.setIfInBounds_toArray, List.set_cons_zero, List.set_cons_succ]
  refine takeD (i := 2) (some 6) (.pointer (some ⟨g, 0, none⟩)) rfl rfl (by kernel_rfl) (by kernel_rfl) (by kernel_rfl) (fun _ _ _ h => h) (yields_nil (by rfl) (.tmp 5) rfl _ rfl) hHeld ?_
  simp only [Act.put, List.setIfInBounds_toArray, List.set_cons_zero, List.set_cons_succ]
  refine takeD (i := 3) (some 7) (.pointer (some ⟨g, 0, none⟩)) rfl rfl (by kernel_rfl) (by kernel_rfl) (by kernel_rfl) (fun _ _ _ h => h) (yields_fldL (by rfl) 72 (.tmp 6) 0 rfl (by decide) g rfl) hHeld ?_
  simp only [Act.put, List.setIfInBounds_toArray, List.set_cons_zero, List.set_cons_succ]
  refine takeD (i := 5) (some 9) (.agg (bcells d)) rfl rfl (by kernel_rfl) (by kernel_rfl) (by kernel_rfl) (fun _ _ _ h => h) (yields_loadW (by rfl) (.tmp 3) rfl _ 0 d rfl (fun _ h => range_row h) HL.out) hHeld ?_
  simp only [Act.put, List.setIfInBounds_toArray, List.set_cons_zero, List.set_cons_succ]
  refine wpAnyH_ready (rs := [4, 6]) (by kernel_rfl) (by decide) ?_
  refine AllReadyH.cons rfl (fun K' hK => ?_) (AllReadyH.cons rfl (fun K' hK => ?_) AllReadyH.nil)
  · skip
    refine step_of rfl (wp_loadC 28 (.tmp 7) rfl (.inr rfl) g 0 (.slice Ad n cd) rfl (HC.out _ B0) ?_)
    refine hK.out _ _ (KP.out _ Z0) (fun hHeld1 => ?_)
    clear hK
    simp only [List.getElem_toArray, List.getElem_cons_succ, List.getElem_cons_zero, Act.put, List.setIfInBounds_toArray, List.set_cons_zero, List.set_cons_succ]
    refine wpAnyH_ready (rs := [6]) (by kernel_rfl) (by decide) ?_
    refine AllReadyH.cons rfl (fun K' hK => ?_) AllReadyH.nil
    refine step_of rfl (wp_buildD1 (.tmp 9) rfl d HL.out rfl ?_)
    obtain ⟨w4, hw4⟩ : ∃ w4, wz.drew.alloc (.cells (bcells d) 46) = w4 := ⟨_, rfl⟩
    obtain ⟨g4, hg4⟩ : ∃ g4, wz.drew.heap.size = g4 := ⟨_, rfl⟩
    have HX4 := Lib.hid (range_row (Row.new wz.drew 46 (bcells d)))
    have Z4 : Below wz.heap.size wz w4 := by rw [← hw4]; exact Z0.alloc (Nat.le_refl _) _
    have B4 : Below w.heap.size w w4 := by rw [← hw4]; exact B0.alloc B0.size _
    rw [hw4, hg4] at HX4
    rw [hw4, hg4]
    clear hw4 hg4
    refine hK.out _ _ (KP.out _ Z4) (fun hHeld2 => ?_)
    clear hK
    simp only [List.getElem_toArray, List.getElem_cons_succ, List.getElem_cons_zero, Act.put, List.setIfInBounds_toArray, List.set_cons_zero, List.set_cons_succ]
    refine wpAnyH_ready (rs := [7]) (by kernel_rfl) (by decide) ?_
    refine AllReadyH.cons rfl (fun K' hK => ?_) AllReadyH.nil
    refine step_of rfl (wp_appDF (.tmp 8) (.tmp 10) rfl F (.slice Ad n cd) n D rfl (HDg.out.same (fun b q => B4.block b (HF.out b q))) d HL.out g4 0 1 rfl HX4.out hn ?_)
    intro A5 c5 w5 h5 hg5
    have S5 := Lib.hid (stepD (k := 0) (n := n + 1) (vd' := .slice A5 (n + 1) c5) (by decide) HR.out HG.out ⟨n, HDg.out⟩ HTx.out B4 hg5 (fun F' q1 q2 => h5 F' (fun b q => q1 b (.inl q)) q2))
    have KZ5 := Lib.hid (show Row w5 w.heap.size 46 (bcells d) from (hg5.block _ (Nat.lt_of_lt_of_le hltz Z4.size) (fun q => absurd (HV.out _ q.symm).2 (Nat.lt_irrefl _))).trans (KP.out _ Z4))
    clear h5 hg5
    refine hK.out _ _ KZ5.out (fun hHeld3 => ?_)
    clear hK
    simp only [List.getElem_toArray, List.getElem_cons_succ, List.getElem_cons_zero, Act.put, List.setIfInBounds_toArray, List.set_cons_zero, List.set_cons_succ]
    refine takeD (i := 8) (some 12) (.pointer (some ⟨g, 0, none⟩)) rfl rfl (by kernel_rfl) (by kernel_rfl) (by kernel_rfl) (fun _ _ _ h => h) (yields_nil (by rfl) (.tmp 4) rfl _ rfl) hHeld3 ?_
    simp only [Act.put, List.setIfInBounds_toArray, List.set_cons_zero, List.set_cons_succ]
    refine takeD (i := 9) (some 13) (.pointer (some ⟨g, 0, none⟩)) rfl rfl (by kernel_rfl) (by kernel_rfl) (by kernel_rfl) (fun _ _ _ h => h) (yields_fldL (by rfl) 72 (.tmp 12) 0 rfl (by decide) g rfl) hHeld3 ?_
    simp only [Act.put, List.setIfInBounds_toArray, List.set_cons_zero, List.set_cons_succ]
    refine wpAnyH_ready (rs := [10]) (by kernel_rfl) (by decide) ?_
    refine AllReadyH.cons rfl (fun K' hK => ?_) AllReadyH.nil
    refine step_of rfl (wp_storeC 28 (.tmp 13) (.tmp 11) rfl (.inr rfl) g 0 A5 (n + 1) c5 74 _ rfl rfl S5.out.1 (by show 0 < 2; omega) ?_)
    refine hK.out _ _ (KZ5.out.far (by show w.heap.size ≠ g; omega) _) (fun hHeld4 => ?_)
    clear hK
    simp only [List.getElem_toArray, List.getElem_cons_succ, List.getElem_cons_zero, Act.put]
    refine wpAnyH_done (by kernel_rfl) ?_ _
    refine NoPanic.normal ?_
    go_wp2_with fail
    exact bodyPost_end (v := .tuple #[]) (by simp [results, Tryd.results32]) rfl ⟨rfl, A5, c5, S5.out.2.1, S5.out.2.2.1, S5.out.2.2.2.1, S5.out.2.2.2.2⟩
  · skip
    refine step_of rfl (wp_buildD1 (.tmp 9) rfl d HL.out rfl ?_)
    obtain ⟨w4, hw4⟩ : ∃ w4, wz.drew.alloc (.cells (bcells d) 46) = w4 := ⟨_, rfl⟩
    obtain ⟨g4, hg4⟩ : ∃ g4, wz.drew.heap.size = g4 := ⟨_, rfl⟩
    have HX4 := Lib.hid (range_row (Row.new wz.drew 46 (bcells d)))
    have Z4 : Below wz.heap.size wz w4 := by rw [← hw4]; exact Z0.alloc (Nat.le_refl _) _
    have B4 : Below w.heap.size w w4 := by rw [← hw4]; exact B0.alloc B0.size _
    rw [hw4, hg4] at HX4
    rw [hw4, hg4]
    clear hw4 hg4
    refine hK.out _ _ (KP.out _ Z4) (fun hHeld5 => ?_)
    clear hK
    simp only [List.getElem_toArray, List.getElem_cons_succ, List.getElem_cons_zero, Act.put, List.setIfInBounds_toArray, List.set_cons_zero, List.set_cons_succ]
    refine wpAnyH_ready (rs := [4]) (by kernel_rfl) (by decide) ?_
    refine AllReadyH.cons rfl (fun K' hK => ?_) AllReadyH.nil
    refine step_of rfl (wp_loadC 28 (.tmp 7) rfl (.inr rfl) g 0 (.slice Ad n cd) rfl (HC.out _ B4) ?_)
    refine hK.out _ _ (KP.out _ Z4) (fun hHeld6 => ?_)
    clear hK
    simp only [List.getElem_toArray, List.getElem_cons_succ, List.getElem_cons_zero, Act.put, List.setIfInBounds_toArray, List.set_cons_zero, List.set_cons_succ]
    refine wpAnyH_ready (rs := [7]) (by kernel_rfl) (by decide) ?_
    refine AllReadyH.cons rfl (fun K' hK => ?_) AllReadyH.nil
    refine step_of rfl (wp_appDF (.tmp 8) (.tmp 10) rfl F (.slice Ad n cd) n D rfl (HDg.out.same (fun b q => B4.block b (HF.out b q))) d HL.out g4 0 1 rfl HX4.out hn ?_)
    intro A5 c5 w5 h5 hg5
    have S5 := Lib.hid (stepD (k := 0) (n := n + 1) (vd' := .slice A5 (n + 1) c5) (by decide) HR.out HG.out ⟨n, HDg.out⟩ HTx.out B4 hg5 (fun F' q1 q2 => h5 F' (fun b q => q1 b (.inl q)) q2))
    have KZ5 := Lib.hid (show Row w5 w.heap.size 46 (bcells d) from (hg5.block _ (Nat.lt_of_lt_of_le hltz Z4.size) (fun q => absurd (HV.out _ q.symm).2 (Nat.lt_irrefl _))).trans (KP.out _ Z4))
    clear h5 hg5
    refine hK.out _ _ KZ5.out (fun hHeld7 => ?_)
    clear hK
    simp only [List.getElem_toArray, List.getElem_cons_succ, List.getElem_cons_zero, Act.put, List.setIfInBounds_toArray, List.set_cons_zero, List.set_cons_succ]
    refine takeD (i := 8) (some 12) (.pointer (some ⟨g, 0, none⟩)) rfl rfl (by kernel_rfl) (by kernel_rfl) (by kernel_rfl) (fun _ _ _ h => h) (yields_nil (by rfl) (.tmp 4) rfl _ rfl) hHeld7 ?_
    simp only [Act.put, List.setIfInBounds_toArray, List.set_cons_zero, List.set_cons_succ]
    refine takeD (i := 9) (some 13) (.pointer (some ⟨g, 0, none⟩)) rfl rfl (by kernel_rfl) (by kernel_rfl) (by kernel_rfl) (fun _ _ _ h => h) (yields_fldL (by rfl) 72 (.tmp 12) 0 rfl (by decide) g rfl) hHeld7 ?_
    simp only [Act.put, List.setIfInBounds_toArray, List.set_cons_zero, List.set_cons_succ]
    refine wpAnyH_ready (rs := [10]) (by kernel_rfl) (by decide) ?_
    refine AllReadyH.cons rfl (fun K' hK => ?_) AllReadyH.nil
    refine step_of rfl (wp_storeC 28 (.tmp 13) (.tmp 11) rfl (.inr rfl) g 0 A5 (n + 1) c5 74 _ rfl rfl S5.out.1 (by show 0 < 2; omega) ?_)
    refine hK.out _ _ (KZ5.out.far (by show w.heap.size ≠ g; omega) _) (fun hHeld8 => ?_)
    clear hK
    simp only [List.getElem_toArray, List.getElem_cons_succ, List.getElem_cons_zero, Act.put]
    refine wpAnyH_done (by kernel_rfl) ?_ _
    refine NoPanic.normal ?_
    go_wp2_with fail
    exact bodyPost_end (v := .tuple #[]) (by simp [results, Tryd.results32]) rfl ⟨rfl, A5, c5, S5.out.2.1, S5.out.2.2.1, S5.out.2.2.2.1, S5.out.2.2.2.2⟩
end Go.Proofs.YtbpbpdaohganaaaDoor
