/-
  The document's vault, and one that has its texts in common: which blocks its Add and its Save write; a copy of it.
-/
import Derived.Test.YtgiobcpljbpmiaaDoorVltS
namespace Go.Proofs.YtgiobcpljbpmiaaDoor
open Go.RowKit
theorem cells_inj2 {w : World} {b : Nat} {cs cs' : Array Value} {e e' : TypeId} (h : w.heap[b]? = some (.cells cs e (0, 0))) (k : w.heap[b]? = some (.cells cs' e' (0, 0))) : cs = cs' := by
  rw [h] at k
  injection k with q
  injection q
/-- a slice of texts lies in no block of another type -/
theorem Texts.avoid {w : World} {F : Nat → Prop} {v : Value} {n u : Nat} {L : List (List UInt8)} {t : TypeId} {cs : Array Value} (h : Texts w F v n L) (hr : Row w u t cs) (h1 : t ≠ 32) (h2 : t ≠ 5) : Texts w (fun b => F b ∧ b ≠ u) v n L := by
  obtain ⟨vs, q1, q2, q3, q4⟩ := h
  refine ⟨vs, q1, fun b hb => ⟨q2 b hb, ?_⟩, q3, fun k x l hx hl => ⟨(q4 k x l hx hl).1, fun b hb => ⟨(q4 k x l hx hl).2 b hb, ?_⟩⟩⟩
  · rintro rfl
    obtain ⟨_, cs', q⟩ := ownsRow_block q1 hb
    exact h1 (cells_inj hr q)
  · rintro rfl
    obtain ⟨_, cs', q⟩ := ownsRow_block (q4 k x l hx hl).1 hb
    exact h2 (cells_inj hr q)
theorem DM.added2 {w w4 w5 : World} {v n c : Nat} {z : Int} {H W : Nat → Prop} {V : Vs} {A : Option Addr} {rv vl' : Value} {l : List UInt8} (hz : z = (V.gen : Int)) (hW : W v) (hwr : ∀ b, rv.ownBlock = some b → W b) (h1 : H v) (h2 : ∀ b, H b → b < w.heap.size) (hr : Row w v 35 #[.int .i64 z, .slice A n c, rv]) (ho : Own w 0 5 (.slice A n c) n V.text) (hf : ∀ b, (Value.slice A n c).ownBlock = some b → H b) (ht : Texts w H rv V.recs.length V.recs)
    (hb : Below w.heap.size w w4) (h4 : w4.grownBy w5 rv.ownBlock) (h5 : ∀ F' : Nat → Prop, (∀ b, More H w b → F' b) → F' w4.heap.size → Texts w5 F' vl' (V.recs.length + 1) (V.recs ++ [l])) :
    Row w5 v 35 #[.int .i64 z, .slice A n c, rv] ∧ (∃ H' : Nat → Prop, (∀ b, H' b → H b ∨ w.heap.size ≤ b) ∧ DM (w5.setCell ⟨v, 2, none⟩ vl') v H' (V.add l)) ∧ Off W w (w5.setCell ⟨v, 2, none⟩ vl') := by
  subst hz
  have hgl := hr.lt
  obtain ⟨vs, t1, t2, _⟩ := id ht
  have hblk : ∀ (b : Nat) (cs : Array Value) (e : TypeId), w.heap[b]? = some (.cells cs e (0, 0)) → e ≠ 32 → w5.heap[b]? = some (.cells cs e (0, 0)) := fun b cs e q hne => by
    have hlt := (Array.getElem?_eq_some_iff.1 q).1
    rw [h4.block b (Nat.lt_of_lt_of_le hlt hb.size) (fun e1 => ?_), hb.block b hlt]; exact q
    obtain ⟨_, cs', q'⟩ := ownsRow_block t1 e1.symm
    exact hne (cells_inj q q')
  have hr5 := hblk v _ 35 hr (by decide)
  have hs5 : w.heap.size ≤ w5.heap.size := Nat.le_trans hb.size (Off.grown (F := H) h4 t2).size
  have hss : (w5.setCell ⟨v, 2, none⟩ vl').heap.size = w5.heap.size := by simp [World.setCell]
  have hoff : Off W w (w5.setCell ⟨v, 2, none⟩ vl') := ((Off.of_below hb).trans (Off.grown (F := W) h4 hwr) (fun x q => .inl q)).trans (Off.setCell w5 v 2 vl' hW) (fun x q => .inl q)
  refine ⟨hr5, ⟨fun b => More H w b ∧ b < w5.heap.size, fun b q => q.1, ⟨⟨.inl h1, Nat.lt_of_lt_of_le hgl hs5⟩, fun b q => by rw [hss]; exact q.2, A, n, c, vl', Row.set (show Row w5 v 35 _ from hr5) 2 vl', ?_, fun b hb => ⟨.inl (hf b hb), Nat.lt_of_lt_of_le (h2 b (hf b hb)) hs5⟩, ?_⟩⟩, hoff⟩
  · refine ownsRow_keep ho fun b cs _ q => ?_
    rw [Below.heap_setCell _ _ _ _ (fun q2 => ?_)]; exact hblk b cs 5 q (by decide)
    have q2' : b = v := q2
    subst q2'
    exact absurd (cells_inj hr q) (by decide)
  · show Texts _ _ vl' (V.recs ++ [l]).length (V.recs ++ [l])
    rw [List.length_append]
    refine (h5 (More H w) (fun _ q => q) (.inr hb.size)).cap.keep fun b cs e _ he q => ?_
    rw [Below.heap_setCell _ _ _ _ (fun q2 => ?_)]; exact q
    have q2' : b = v := q2
    subst q2'
    have := cells_inj hr5 q
    rcases he with rfl | rfl <;> exact absurd this (by decide)
/-- what the document's call makes of it; it writes the blocks W alone -/
def DR2 (w : World) (m : Nat) (D : Nat → Prop) (V : Vs) (W : Nat → Prop) (e : Ending) (w' : World) : Prop := e = .returned (.int .i64 0) ∧ Off W w w' ∧ ∃ D', Grows w D D' ∧ DM w' m D' V
set_option maxRecDepth 100000 in
set_option maxHeartbeats 4000000 in
theorem MAdd2_any (v n c : Nat) (A : Option Addr) (t : List UInt8) (D W : Nat → Prop) (V : Vs) (w : World) (hW : W v) (hWr : ∀ rv, w.cell? ⟨v, 2, none⟩ = some rv → ∀ b, rv.ownBlock = some b → W b) (h : DM w v D V) (hB : Bs w A n t) (hn : n ≤ 262080) (hrl : V.recs.length + 1 ≤ 1000000000) :
    Calls Tryd.prog 21 #[.pointer (some ⟨v, 0, none⟩), .slice A n c] w (DR2 w v D (V.add t) W) := by
  obtain ⟨G1, G2, A1, n1, c1, rv1, hrv, hov, hfv, htv⟩ := h
  have hnl : ¬ (262080 : Int) < (n : Int) := by omega
  have HB := Lib.hid (fun wq (hb : Below w.heap.size w wq) => hB.below hb)
  have HTL := Lib.hid hB.1
  obtain ⟨B0, m0, d0, rfl, hm0⟩ := Texts.of_row htv
  have HRV := Lib.hid hrv
  have HC := Lib.hid (fun wq (hb : Below w.heap.size w wq) => show wq.cell? ⟨v, 2, none⟩ = some (.slice B0 m0 d0) from (HRV.out.below hb HRV.out.lt).cell 2)
  have HTx := Lib.hid htv
  have HLt := Lib.hid G2
  have HN := Lib.hid hn
  have HRL := Lib.hid hrl
  have hwr := hWr _ (hrv.cell 2)
  have HAd := Lib.hid (fun A5 c5 (w4 w5 : World) hb hg h5 => DM.added2 (V := V) (W := W) (w4 := w4) (w5 := w5) (vl' := .slice A5 (V.recs.length + 1) c5) (l := t) rfl hW hwr G1 G2 hrv hov hfv htv hb hg h5)
  clear hrv hov hfv htv G1 G2 hB hn hrl hWr hwr hW
  go_enter Tryd.func21, Tryd.ntmps21
  go_wp2_with fail
  have C0 : Below w.heap.size w w.drew := (Below.refl w.heap.size w).drew
  refine wp_region_noPanic ?_
  refine wp_region_held_drew (S := fun w' => True) (by kernel_rfl) trivial (fun hHeld => ?_)
  refine takeD (i := 0) (some 8) (.pointer (some ⟨v, 0, none⟩)) rfl rfl (by kernel_rfl) (by kernel_rfl) (by kernel_rfl) (fun _ _ _ h => h) (Or.inl ⟨by rfl, fun _ _ => rfl⟩) hHeld ?_
  simp only [Act.put, List.setIfInBounds_toArray, List.set_cons_zero, List.set_cons_succ]
  refine takeD (i := 1) (some 9) (.pointer (some ⟨v, 0, none⟩)) rfl rfl (by kernel_rfl) (by kernel_rfl) (by kernel_rfl) (fun _ _ _ h => h) (Or.inl ⟨by rfl, fun _ _ => rfl⟩) hHeld ?_
  simp only [Act.put, List.setIfInBounds_toArray, List.set_cons_zero, List.set_cons_succ]
  refine takeD (i := 2) (some 10) (.pointer (some ⟨v, 0, none⟩)) rfl rfl (by kernel_rfl) (by kernel_rfl) (by kernel_rfl) (fun _ _ _ h => h) (yields_nil (by rfl) (.tmp 9) rfl _ rfl) hHeld ?_
  simp only [Act.put, List.setIfInBounds_toArray, List.set_cons_zero, List.set_cons_succ]
  refine takeD (i := 3) (some 11) (.pointer (some ⟨v, 2, none⟩)) rfl rfl (by kernel_rfl) (by kernel_rfl) (by kernel_rfl) (fun _ _ _ h => h) (yields_fldM (by rfl) 35 (.tmp 10) 2 rfl (d := 2) (by decide) (v) 0 _ rfl rfl) hHeld ?_
  simp only [Act.put, List.setIfInBounds_toArray, List.set_cons_zero, List.set_cons_succ]
  refine takeD (i := 6) (some 14) (.slice A n c) rfl rfl (by kernel_rfl) (by kernel_rfl) (by kernel_rfl) (fun _ _ _ h => h) (Or.inl ⟨by rfl, fun _ _ => rfl⟩) hHeld ?_
  simp only [Act.put, List.setIfInBounds_toArray, List.set_cons_zero, List.set_cons_succ]
  refine wpAnyH_ready (rs := [4, 5]) (by kernel_rfl) (by decide) ?_
  refine AllReadyH.cons rfl (fun K' hK => ?_) (AllReadyH.cons rfl (fun K' hK => ?_) AllReadyH.nil)
  · skip
    refine step_of rfl (wp_loadX (.tmp 11) rfl v 2 (.slice B0 m0 d0) rfl (HC.out _ C0) ?_)
    refine hK.out _ _ trivial (fun hHeld1 => ?_)
    clear hK
    simp only [List.getElem_toArray, List.getElem_cons_succ, List.getElem_cons_zero, Act.put, List.setIfInBounds_toArray, List.set_cons_zero, List.set_cons_succ]
    refine wpAnyH_ready (rs := [5]) (by kernel_rfl) (by decide) ?_
    refine AllReadyH.cons rfl (fun K' hK => ?_) AllReadyH.nil
    refine step_of rfl (wp_emptyB rfl ?_)
    intro g5 w5 hg5 ho5 hb5
    have C5 : Below w.heap.size w w5 := C0.trans hb5
    have HO5 := Lib.hid (show Own w5 w.heap.size 5 (.slice (some ⟨g5, 0, none⟩) 0 0) 0 [] from ho5)
    clear hg5 ho5 hb5
    refine hK.out _ _ trivial (fun hHeld2 => ?_)
    clear hK
    simp only [List.getElem_toArray, List.getElem_cons_succ, List.getElem_cons_zero, Act.put, List.setIfInBounds_toArray, List.set_cons_zero, List.set_cons_succ]
    refine wpAnyH_ready (rs := [7]) (by kernel_rfl) (by decide) ?_
    refine AllReadyH.cons rfl (fun K' hK => ?_) AllReadyH.nil
    refine step_of rfl (wp_appB (.tmp 13) (.tmp 14) rfl w.heap.size (.slice (some ⟨g5, 0, none⟩) 0 0) 0 [] rfl HO5.out A n c t rfl (HB.out _ C5) (by have := HN.out; omega) C5.size ?_)
    intro A7 c7 w7 ho7 hb7
    rw [Nat.zero_add, List.nil_append] at ho7
    rw [Nat.zero_add]
    have C7 : Below w.heap.size w w7 := C5.trans hb7
    have HO7 := Lib.hid ho7
    clear ho7 hb7
    refine hK.out _ _ trivial (fun hHeld3 => ?_)
    clear hK
    simp only [List.getElem_toArray, List.getElem_cons_succ, List.getElem_cons_zero, Act.put, List.setIfInBounds_toArray, List.set_cons_zero, List.set_cons_succ]
    refine wpAnyH_ready (rs := [8]) (by kernel_rfl) (by decide) ?_
    refine AllReadyH.cons rfl (fun K' hK => ?_) AllReadyH.nil
    refine step_of rfl (wp_buildT (.tmp 15) rfl A7 n c7 rfl ?_)
    obtain ⟨w8, hw8⟩ : ∃ w8, w7.alloc (.cells #[.slice A7 n c7] 32) = w8 := ⟨_, rfl⟩
    obtain ⟨g8, hg8⟩ : ∃ g8, w7.heap.size = g8 := ⟨_, rfl⟩
    have HX8 := Lib.hid ((Row.new w7 32 #[.slice A7 n c7]).cell 0)
    have C8 : Below w.heap.size w w8 := by rw [← hw8]; exact C7.alloc C7.size _
    have HO8 := Lib.hid (HO7.out.below ((Below.refl w7.heap.size w7).alloc (Nat.le_refl _) (.cells #[.slice A7 n c7] 32)))
    rw [hw8, hg8] at HX8
    rw [hw8] at HO8
    rw [hw8, hg8]
    clear hw8 hg8
    refine hK.out _ _ trivial (fun hHeld4 => ?_)
    clear hK
    simp only [List.getElem_toArray, List.getElem_cons_succ, List.getElem_cons_zero, Act.put, List.setIfInBounds_toArray, List.set_cons_zero, List.set_cons_succ]
    refine wpAnyH_ready (rs := [9]) (by kernel_rfl) (by decide) ?_
    refine AllReadyH.cons rfl (fun K' hK => ?_) AllReadyH.nil
    refine step_of rfl (wp_appTF (.tmp 12) (.tmp 16) rfl (More D w) (.slice B0 m0 d0) V.recs.length V.recs rfl ((HTx.out.same (fun b q => C8.block b (HLt.out b q))).mono (fun b q => .inl q)) (.slice A7 n c7) t (show Own w8 0 5 (.slice A7 n c7) t.length t by rw [HTL.out]; exact HO8.out.mono (Nat.zero_le _)) (fun b q => .inr (HO8.out.lt b q).1) g8 0 1 rfl HX8.out HRL.out ?_)
    intro A9 c9 w9 h9 hg9
    obtain ⟨S9r, S9v, S9o⟩ := HAd.out A9 c9 w8 w9 C8 hg9 h9
    have HS9r := Lib.hid S9r
    have HS9v := Lib.hid S9v
    have HS9o := Lib.hid S9o
    clear h9 hg9 S9r S9v S9o
    refine hK.out _ _ trivial (fun hHeld5 => ?_)
    clear hK
    simp only [List.getElem_toArray, List.getElem_cons_succ, List.getElem_cons_zero, Act.put, List.setIfInBounds_toArray, List.set_cons_zero, List.set_cons_succ]
    refine takeD (i := 10) (some 18) (.pointer (some ⟨v, 0, none⟩)) rfl rfl (by kernel_rfl) (by kernel_rfl) (by kernel_rfl) (fun _ _ _ h => h) (yields_nil (by rfl) (.tmp 8) rfl _ rfl) hHeld5 ?_
    simp only [Act.put, List.setIfInBounds_toArray, List.set_cons_zero, List.set_cons_succ]
    refine takeD (i := 11) (some 19) (.pointer (some ⟨v, 2, none⟩)) rfl rfl (by kernel_rfl) (by kernel_rfl) (by kernel_rfl) (fun _ _ _ h => h) (yields_fldM (by rfl) 35 (.tmp 18) 2 rfl (d := 2) (by decide) (v) 0 _ rfl rfl) hHeld5 ?_
    simp only [Act.put, List.setIfInBounds_toArray, List.set_cons_zero, List.set_cons_succ]
    refine wpAnyH_ready (rs := [12]) (by kernel_rfl) (by decide) ?_
    refine AllReadyH.cons rfl (fun K' hK => ?_) AllReadyH.nil
    refine step_of rfl (wp_storeX (.tmp 19) (.tmp 17) rfl v 2 A9 (V.recs.length + 1) c9 35 _ rfl rfl HS9r.out (by show 2 < 3; omega) ?_)
    refine hK.out _ _ trivial (fun hHeld6 => ?_)
    clear hK
    refine wpAnyH_done (by kernel_rfl) ?_ _
    refine NoPanic.normal ?_
    go_wp2_with fail
    go_ret
    exact ⟨rfl, HS9o.out, HS9v.out⟩
  · skip
    refine step_of rfl (wp_emptyB rfl ?_)
    intro g5 w5 hg5 ho5 hb5
    have C5 : Below w.heap.size w w5 := C0.trans hb5
    have HO5 := Lib.hid (show Own w5 w.heap.size 5 (.slice (some ⟨g5, 0, none⟩) 0 0) 0 [] from ho5)
    clear hg5 ho5 hb5
    refine hK.out _ _ trivial (fun hHeld7 => ?_)
    clear hK
    simp only [List.getElem_toArray, List.getElem_cons_succ, List.getElem_cons_zero, Act.put, List.setIfInBounds_toArray, List.set_cons_zero, List.set_cons_succ]
    refine wpAnyH_ready (rs := [4, 7]) (by kernel_rfl) (by decide) ?_
    refine AllReadyH.cons rfl (fun K' hK => ?_) (AllReadyH.cons rfl (fun K' hK => ?_) AllReadyH.nil)
    · skip
      refine step_of rfl (wp_loadX (.tmp 11) rfl v 2 (.slice B0 m0 d0) rfl (HC.out _ C5) ?_)
      refine hK.out _ _ trivial (fun hHeld8 => ?_)
      clear hK
      simp only [List.getElem_toArray, List.getElem_cons_succ, List.getElem_cons_zero, Act.put, List.setIfInBounds_toArray, List.set_cons_zero, List.set_cons_succ]
      refine wpAnyH_ready (rs := [7]) (by kernel_rfl) (by decide) ?_
      refine AllReadyH.cons rfl (fun K' hK => ?_) AllReadyH.nil
      refine step_of rfl (wp_appB (.tmp 13) (.tmp 14) rfl w.heap.size (.slice (some ⟨g5, 0, none⟩) 0 0) 0 [] rfl HO5.out A n c t rfl (HB.out _ C5) (by have := HN.out; omega) C5.size ?_)
      intro A7 c7 w7 ho7 hb7
      rw [Nat.zero_add, List.nil_append] at ho7
      rw [Nat.zero_add]
      have C7 : Below w.heap.size w w7 := C5.trans hb7
      have HO7 := Lib.hid ho7
      clear ho7 hb7
      refine hK.out _ _ trivial (fun hHeld9 => ?_)
      clear hK
      simp only [List.getElem_toArray, List.getElem_cons_succ, List.getElem_cons_zero, Act.put, List.setIfInBounds_toArray, List.set_cons_zero, List.set_cons_succ]
      refine wpAnyH_ready (rs := [8]) (by kernel_rfl) (by decide) ?_
      refine AllReadyH.cons rfl (fun K' hK => ?_) AllReadyH.nil
      refine step_of rfl (wp_buildT (.tmp 15) rfl A7 n c7 rfl ?_)
      obtain ⟨w8, hw8⟩ : ∃ w8, w7.alloc (.cells #[.slice A7 n c7] 32) = w8 := ⟨_, rfl⟩
      obtain ⟨g8, hg8⟩ : ∃ g8, w7.heap.size = g8 := ⟨_, rfl⟩
      have HX8 := Lib.hid ((Row.new w7 32 #[.slice A7 n c7]).cell 0)
      have C8 : Below w.heap.size w w8 := by rw [← hw8]; exact C7.alloc C7.size _
      have HO8 := Lib.hid (HO7.out.below ((Below.refl w7.heap.size w7).alloc (Nat.le_refl _) (.cells #[.slice A7 n c7] 32)))
      rw [hw8, hg8] at HX8
      rw [hw8] at HO8
      rw [hw8, hg8]
      clear hw8 hg8
      refine hK.out _ _ trivial (fun hHeld10 => ?_)
      clear hK
      simp only [List.getElem_toArray, List.getElem_cons_succ, List.getElem_cons_zero, Act.put, List.setIfInBounds_toArray, List.set_cons_zero, List.set_cons_succ]
      refine wpAnyH_ready (rs := [9]) (by kernel_rfl) (by decide) ?_
      refine AllReadyH.cons rfl (fun K' hK => ?_) AllReadyH.nil
      refine step_of rfl (wp_appTF (.tmp 12) (.tmp 16) rfl (More D w) (.slice B0 m0 d0) V.recs.length V.recs rfl ((HTx.out.same (fun b q => C8.block b (HLt.out b q))).mono (fun b q => .inl q)) (.slice A7 n c7) t (show Own w8 0 5 (.slice A7 n c7) t.length t by rw [HTL.out]; exact HO8.out.mono (Nat.zero_le _)) (fun b q => .inr (HO8.out.lt b q).1) g8 0 1 rfl HX8.out HRL.out ?_)
      intro A9 c9 w9 h9 hg9
      obtain ⟨S9r, S9v, S9o⟩ := HAd.out A9 c9 w8 w9 C8 hg9 h9
      have HS9r := Lib.hid S9r
      have HS9v := Lib.hid S9v
      have HS9o := Lib.hid S9o
      clear h9 hg9 S9r S9v S9o
      refine hK.out _ _ trivial (fun hHeld11 => ?_)
      clear hK
      simp only [List.getElem_toArray, List.getElem_cons_succ, List.getElem_cons_zero, Act.put, List.setIfInBounds_toArray, List.set_cons_zero, List.set_cons_succ]
      refine takeD (i := 10) (some 18) (.pointer (some ⟨v, 0, none⟩)) rfl rfl (by kernel_rfl) (by kernel_rfl) (by kernel_rfl) (fun _ _ _ h => h) (yields_nil (by rfl) (.tmp 8) rfl _ rfl) hHeld11 ?_
      simp only [Act.put, List.setIfInBounds_toArray, List.set_cons_zero, List.set_cons_succ]
      refine takeD (i := 11) (some 19) (.pointer (some ⟨v, 2, none⟩)) rfl rfl (by kernel_rfl) (by kernel_rfl) (by kernel_rfl) (fun _ _ _ h => h) (yields_fldM (by rfl) 35 (.tmp 18) 2 rfl (d := 2) (by decide) (v) 0 _ rfl rfl) hHeld11 ?_
      simp only [Act.put, List.setIfInBounds_toArray, List.set_cons_zero, List.set_cons_succ]
      refine wpAnyH_ready (rs := [12]) (by kernel_rfl) (by decide) ?_
      refine AllReadyH.cons rfl (fun K' hK => ?_) AllReadyH.nil
      refine step_of rfl (wp_storeX (.tmp 19) (.tmp 17) rfl v 2 A9 (V.recs.length + 1) c9 35 _ rfl rfl HS9r.out (by show 2 < 3; omega) ?_)
      refine hK.out _ _ trivial (fun hHeld12 => ?_)
      clear hK
      refine wpAnyH_done (by kernel_rfl) ?_ _
      refine NoPanic.normal ?_
      go_wp2_with fail
      go_ret
      exact ⟨rfl, HS9o.out, HS9v.out⟩
    · skip
      refine step_of rfl (wp_appB (.tmp 13) (.tmp 14) rfl w.heap.size (.slice (some ⟨g5, 0, none⟩) 0 0) 0 [] rfl HO5.out A n c t rfl (HB.out _ C5) (by have := HN.out; omega) C5.size ?_)
      intro A7 c7 w7 ho7 hb7
      rw [Nat.zero_add, List.nil_append] at ho7
      rw [Nat.zero_add]
      have C7 : Below w.heap.size w w7 := C5.trans hb7
      have HO7 := Lib.hid ho7
      clear ho7 hb7
      refine hK.out _ _ trivial (fun hHeld13 => ?_)
      clear hK
      simp only [List.getElem_toArray, List.getElem_cons_succ, List.getElem_cons_zero, Act.put, List.setIfInBounds_toArray, List.set_cons_zero, List.set_cons_succ]
      refine wpAnyH_ready (rs := [4, 8]) (by kernel_rfl) (by decide) ?_
      refine AllReadyH.cons rfl (fun K' hK => ?_) (AllReadyH.cons rfl (fun K' hK => ?_) AllReadyH.nil)
      · skip
        refine step_of rfl (wp_loadX (.tmp 11) rfl v 2 (.slice B0 m0 d0) rfl (HC.out _ C7) ?_)
        refine hK.out _ _ trivial (fun hHeld14 => ?_)
        clear hK
        simp only [List.getElem_toArray, List.getElem_cons_succ, List.getElem_cons_zero, Act.put, List.setIfInBounds_toArray, List.set_cons_zero, List.set_cons_succ]
        refine wpAnyH_ready (rs := [8]) (by kernel_rfl) (by decide) ?_
        refine AllReadyH.cons rfl (fun K' hK => ?_) AllReadyH.nil
        refine step_of rfl (wp_buildT (.tmp 15) rfl A7 n c7 rfl ?_)
        obtain ⟨w8, hw8⟩ : ∃ w8, w7.alloc (.cells #[.slice A7 n c7] 32) = w8 := ⟨_, rfl⟩
        obtain ⟨g8, hg8⟩ : ∃ g8, w7.heap.size = g8 := ⟨_, rfl⟩
        have HX8 := Lib.hid ((Row.new w7 32 #[.slice A7 n c7]).cell 0)
        have C8 : Below w.heap.size w w8 := by rw [← hw8]; exact C7.alloc C7.size _
        have HO8 := Lib.hid (HO7.out.below ((Below.refl w7.heap.size w7).alloc (Nat.le_refl _) (.cells #[.slice A7 n c7] 32)))
        rw [hw8, hg8] at HX8
        rw [hw8] at HO8
        rw [hw8, hg8]
        clear hw8 hg8
        refine hK.out _ _ trivial (fun hHeld15 => ?_)
        clear hK
        simp only [List.getElem_toArray, List.getElem_cons_succ, List.getElem_cons_zero, Act.put, List.setIfInBounds_toArray, List.set_cons_zero, List.set_cons_succ]
        refine wpAnyH_ready (rs := [9]) (by kernel_rfl) (by decide) ?_
        refine AllReadyH.cons rfl (fun K' hK => ?_) AllReadyH.nil
        refine step_of rfl (wp_appTF (.tmp 12) (.tmp 16) rfl (More D w) (.slice B0 m0 d0) V.recs.length V.recs rfl ((HTx.out.same (fun b q => C8.block b (HLt.out b q))).mono (fun b q => .inl q)) (.slice A7 n c7) t (show Own w8 0 5 (.slice A7 n c7) t.length t by rw [HTL.out]; exact HO8.out.mono (Nat.zero_le _)) (fun b q => .inr (HO8.out.lt b q).1) g8 0 1 rfl HX8.out HRL.out ?_)
        intro A9 c9 w9 h9 hg9
        obtain ⟨S9r, S9v, S9o⟩ := HAd.out A9 c9 w8 w9 C8 hg9 h9
        have HS9r := Lib.hid S9r
        have HS9v := Lib.hid S9v
        have HS9o := Lib.hid S9o
        clear h9 hg9 S9r S9v S9o
        refine hK.out _ _ trivial (fun hHeld16 => ?_)
        clear hK
        simp only [List.getElem_toArray, List.getElem_cons_succ, List.getElem_cons_zero, Act.put, List.setIfInBounds_toArray, List.set_cons_zero, List.set_cons_succ]
        refine takeD (i := 10) (some 18) (.pointer (some ⟨v, 0, none⟩)) rfl rfl (by kernel_rfl) (by kernel_rfl) (by kernel_rfl) (fun _ _ _ h => h) (yields_nil (by rfl) (.tmp 8) rfl _ rfl) hHeld16 ?_
        simp only [Act.put, List.setIfInBounds_toArray, List.set_cons_zero, List.set_cons_succ]
        refine takeD (i := 11) (some 19) (.pointer (some ⟨v, 2, none⟩)) rfl rfl (by kernel_rfl) (by kernel_rfl) (by kernel_rfl) (fun _ _ _ h => h) (yields_fldM (by rfl) 35 (.tmp 18) 2 rfl (d := 2) (by decide) (v) 0 _ rfl rfl) hHeld16 ?_
        simp only [Act.put, List.setIfInBounds_toArray, List.set_cons_zero, List.set_cons_succ]
        refine wpAnyH_ready (rs := [12]) (by kernel_rfl) (by decide) ?_
        refine AllReadyH.cons rfl (fun K' hK => ?_) AllReadyH.nil
        refine step_of rfl (wp_storeX (.tmp 19) (.tmp 17) rfl v 2 A9 (V.recs.length + 1) c9 35 _ rfl rfl HS9r.out (by show 2 < 3; omega) ?_)
        refine hK.out _ _ trivial (fun hHeld17 => ?_)
        clear hK
        refine wpAnyH_done (by kernel_rfl) ?_ _
        refine NoPanic.normal ?_
        go_wp2_with fail
        go_ret
        exact ⟨rfl, HS9o.out, HS9v.out⟩
      · skip
        refine step_of rfl (wp_buildT (.tmp 15) rfl A7 n c7 rfl ?_)
        obtain ⟨w8, hw8⟩ : ∃ w8, w7.alloc (.cells #[.slice A7 n c7] 32) = w8 := ⟨_, rfl⟩
        obtain ⟨g8, hg8⟩ : ∃ g8, w7.heap.size = g8 := ⟨_, rfl⟩
        have HX8 := Lib.hid ((Row.new w7 32 #[.slice A7 n c7]).cell 0)
        have C8 : Below w.heap.size w w8 := by rw [← hw8]; exact C7.alloc C7.size _
        have HO8 := Lib.hid (HO7.out.below ((Below.refl w7.heap.size w7).alloc (Nat.le_refl _) (.cells #[.slice A7 n c7] 32)))
        rw [hw8, hg8] at HX8
        rw [hw8] at HO8
        rw [hw8, hg8]
        clear hw8 hg8
        refine hK.out _ _ trivial (fun hHeld18 => ?_)
        clear hK
        simp only [List.getElem_toArray, List.getElem_cons_succ, List.getElem_cons_zero, Act.put, List.setIfInBounds_toArray, List.set_cons_zero, List.set_cons_succ]
        refine wpAnyH_ready (rs := [4]) (by kernel_rfl) (by decide) ?_
        refine AllReadyH.cons rfl (fun K' hK => ?_) AllReadyH.nil
        refine step_of rfl (wp_loadX (.tmp 11) rfl v 2 (.slice B0 m0 d0) rfl (HC.out _ C8) ?_)
        refine hK.out _ _ trivial (fun hHeld19 => ?_)
        clear hK
        simp only [List.getElem_toArray, List.getElem_cons_succ, List.getElem_cons_zero, Act.put, List.setIfInBounds_toArray, List.set_cons_zero, List.set_cons_succ]
        refine wpAnyH_ready (rs := [9]) (by kernel_rfl) (by decide) ?_
        refine AllReadyH.cons rfl (fun K' hK => ?_) AllReadyH.nil
        refine step_of rfl (wp_appTF (.tmp 12) (.tmp 16) rfl (More D w) (.slice B0 m0 d0) V.recs.length V.recs rfl ((HTx.out.same (fun b q => C8.block b (HLt.out b q))).mono (fun b q => .inl q)) (.slice A7 n c7) t (show Own w8 0 5 (.slice A7 n c7) t.length t by rw [HTL.out]; exact HO8.out.mono (Nat.zero_le _)) (fun b q => .inr (HO8.out.lt b q).1) g8 0 1 rfl HX8.out HRL.out ?_)
        intro A9 c9 w9 h9 hg9
        obtain ⟨S9r, S9v, S9o⟩ := HAd.out A9 c9 w8 w9 C8 hg9 h9
        have HS9r := Lib.hid S9r
        have HS9v := Lib.hid S9v
        have HS9o := Lib.hid S9o
        clear h9 hg9 S9r S9v S9o
        refine hK.out _ _ trivial (fun hHeld20 => ?_)
        clear hK
        simp only [List.getElem_toArray, List.getElem_cons_succ, List.getElem_cons_zero, Act.put, List.setIfInBounds_toArray, List.set_cons_zero, List.set_cons_succ]
        refine takeD (i := 10) (some 18) (.pointer (some ⟨v, 0, none⟩)) rfl rfl (by kernel_rfl) (by kernel_rfl) (by kernel_rfl) (fun _ _ _ h => h) (yields_nil (by rfl) (.tmp 8) rfl _ rfl) hHeld20 ?_
        simp only [Act.put, List.setIfInBounds_toArray, List.set_cons_zero, List.set_cons_succ]
        refine takeD (i := 11) (some 19) (.pointer (some ⟨v, 2, none⟩)) rfl rfl (by kernel_rfl) (by kernel_rfl) (by kernel_rfl) (fun _ _ _ h => h) (yields_fldM (by rfl) 35 (.tmp 18) 2 rfl (d := 2) (by decide) (v) 0 _ rfl rfl) hHeld20 ?_
        simp only [Act.put, List.setIfInBounds_toArray, List.set_cons_zero, List.set_cons_succ]
        refine wpAnyH_ready (rs := [12]) (by kernel_rfl) (by decide) ?_
        refine AllReadyH.cons rfl (fun K' hK => ?_) AllReadyH.nil
        refine step_of rfl (wp_storeX (.tmp 19) (.tmp 17) rfl v 2 A9 (V.recs.length + 1) c9 35 _ rfl rfl HS9r.out (by show 2 < 3; omega) ?_)
        refine hK.out _ _ trivial (fun hHeld21 => ?_)
        clear hK
        refine wpAnyH_done (by kernel_rfl) ?_ _
        refine NoPanic.normal ?_
        go_wp2_with fail
        go_ret
        exact ⟨rfl, HS9o.out, HS9v.out⟩
set_option maxRecDepth 100000 in
set_option maxHeartbeats 2000000 in
theorem MSave2_any (v n c : Nat) (A : Option Addr) (t : List UInt8) (D : Nat → Prop) (V : Vs) (w : World) (h : DM w v D V) (hB : Bs w A n t) (hn : n ≤ 262080) (hg : V.gen < 1099511627776) (hA : n = 0 ∨ ∀ b off, A = some ⟨b, off, none⟩ → b ≠ v) :
    Calls Tryd.prog 23 #[.pointer (some ⟨v, 0, none⟩), .slice A n c] w (DR2 w v D (V.save t) (· = v)) := by
  obtain ⟨G1, G2, A1, n1, c1, rv1, hrv, hov, hfv, htv⟩ := h
  have hnl : ¬ (262080 : Int) < (n : Int) := by omega
  have dg : ((V.gen : Int) == 1099511627776) = false := by simp; omega
  have x0 : w.cell? ⟨v, 0, none⟩ = some (.int .i64 (V.gen : Int)) := hrv.cell 0
  have y0 := hrv.frozen 0
  have HRV := Lib.hid hrv
  have hG : (V.gen : Int) + 1 = ((V.gen + 1 : Nat) : Int) := by omega
  have HB := Lib.hid (hB.off0 (F := fun x => x = v) hA (Off.setCell w v 0 (.int .i64 ((V.gen : Int) + 1)) rfl))
  have HR1 := Lib.hid (hrv.set 0 (.int .i64 ((V.gen : Int) + 1)))
  obtain ⟨wz, hwz⟩ : ∃ wz, w.setCell ⟨v, 0, none⟩ (.int .i64 ((V.gen : Int) + 1)) = wz := ⟨_, rfl⟩
  have HOz := Lib.hid (Off.setCell (F := fun x => x = v) w v 0 (.int .i64 ((V.gen : Int) + 1)) rfl)
  have HSZ := Lib.hid (show wz.heap.size = w.heap.size by rw [← hwz]; simp [World.setCell])
  rw [hwz] at HB HR1 HOz
  have hvl := hrv.lt
  have HG1 := Lib.hid G1
  have HG2 := Lib.hid G2
  clear hrv hov hfv htv G2 hB hA hG
  go_enter Tryd.func23, Tryd.ntmps23
  go_wp2_with (at_builtin; refine wpList_copy Tryd.byteTypes rfl (.tmp 21) (.tmp 22) rfl rfl A n c t rfl HB.out (by omega) ?_; intro A1' c1' w1 hB1 hc1 hb1 ho1; have HO1 := Lib.hid ho1; have HRr := Lib.hid (HR1.out.below hb1 (by have := HSZ.out; omega)); have HBb := Lib.hid hb1; have z1 := HRr.out.cell 1; have z2 := HRr.out.cell 2; have u1 := HRr.out.frozen 1; have u2 := HRr.out.frozen 2; clear ho1 hB1)
  go_ret
  have hk : ∀ b, b ≠ v → ((w1.setCell ⟨v, 1, none⟩ (.slice A1' n c1')).setCell ⟨v, 2, none⟩ (.slice none 0 0)).heap[b]? = w1.heap[b]? := fun b hb => by
    rw [Below.heap_setCell _ ⟨v, 2, none⟩ _ b hb, Below.heap_setCell _ ⟨v, 1, none⟩ _ b hb]
  have hs : ((w1.setCell ⟨v, 1, none⟩ (.slice A1' n c1')).setCell ⟨v, 2, none⟩ (.slice none 0 0)).heap.size = w1.heap.size := by simp [World.setCell]
  have hs1 := HBb.out.size
  have hsz := HSZ.out
  refine ⟨rfl, (HOz.out.trans (Off.of_below hb1 : Off (fun x => x = v) wz w1) (fun x q => .inl q)).trans ((Off.setCell (F := fun x => x = v) w1 v 1 _ rfl).trans (Off.setCell (F := fun x => x = v) _ v 2 _ rfl) (fun x q => .inl q)) (fun x q => .inl q), fun b => D b ∨ (Value.slice A1' n c1').ownBlock = some b, fun b q => ?_, .inl HG1.out, fun b q => ?_, A1', n, c1', .slice none 0 0, ?_, ?_, fun b q => .inr q, Texts.nil _ _⟩
  · rcases q with q | q
    · exact .inl q
    · exact .inr (by have := (HO1.out.lt b q).1; omega)
  · rw [hs]
    rcases q with q | q
    · have := HG2.out b q; omega
    · exact (HO1.out.lt b q).2
  · exact (HRr.out.set 1 _).set 2 _
  · refine ownsRow_keep (HO1.out.mono (Nat.zero_le _)) fun b _ hb hb2 => (hk b (fun e => ?_)).trans hb2
    have := (HO1.out.lt b hb).1
    omega
theorem DM.cells {w : World} {u : Nat} {D : Nat → Prop} {V : Vs} (h : DM w u D V) : ∃ A n c B k d, Row w u 35 #[.int .i64 (V.gen : Int), .slice A n c, .slice B k d] ∧ Own w 0 5 (.slice A n c) n V.text ∧ (∀ b, (Value.slice A n c).ownBlock = some b → D b) ∧ k = V.recs.length ∧ Texts w D (.slice B k d) k V.recs := by
  obtain ⟨h1, h2, A, n, c, rv, hr, ho, hf, ht⟩ := h
  obtain ⟨B, k, d, rfl, hk⟩ := Texts.of_row ht
  exact ⟨A, n, c, B, k, d, hr, ho, hf, hk, by rw [hk]; rw [hk] at ht; exact ht⟩
/-- a copy of the row: the texts in common -/
theorem DM.copy {w : World} {u : Nat} {D : Nat → Prop} {V : Vs} {cs : Array Value} (h : DM w u D V) (hr : Row w u 35 cs) : DM (w.alloc (.cells cs 35)) w.heap.size (fun b => (D b ∧ b ≠ u) ∨ b = w.heap.size) V := by
  obtain ⟨h1, h2, A, n, c, rv, hr', ho, hf, ht⟩ := h
  obtain rfl := cells_inj2 hr hr'
  have hb : Below w.heap.size w (w.alloc (.cells #[.int .i64 (V.gen : Int), .slice A n c, rv] 35)) := (Below.refl _ _).alloc (Nat.le_refl _) _
  have hn := Row.new w 35 #[.int .i64 (V.gen : Int), .slice A n c, rv]
  refine ⟨.inr rfl, fun b q => ?_, A, n, c, rv, hn, ho.below hb, fun b q => .inl ⟨hf b q, ?_⟩, ?_⟩
  · rcases q with ⟨q, _⟩ | rfl
    · exact Nat.lt_of_lt_of_le (h2 b q) hb.size
    · exact hn.lt
  · rintro rfl
    obtain ⟨_, cs', q2⟩ := ownsRow_block ho q
    exact absurd (cells_inj hr q2) (by decide)
  · exact ((ht.avoid hr (by decide) (by decide)).same (fun b q => hb.block b (h2 b q.1))).mono (fun b q => .inl q)
theorem run_emptyT (w : World) : (Instr.buildSlice 33 0 #[]).run Tryd.prog w = .ok (.slice (some ⟨w.heap.size, 0, none⟩) 0 0) (w.alloc (.cells #[] 32)) := by
  obtain ⟨i, hi, hz, hsize, hby⟩ := info_parts (show (Tryd.prog.info? 32).map (fun i => (i.zero, i.size, i.bytes)) = some (some (.slice none 0 0), 1, 24) by kernel_rfl)
  simp [Instr.buildSlice, run_underlying Tryd.underlying33, sizeOf, typeInfo, hi, Instr.fill, newRow]
  have e : Array.map (fun _ => (default : Value)) (Array.range 0) = #[] := by apply Array.ext <;> simp
  rw [e]
theorem wp_emptyT {o : Oper} {a : Act} {w : World} {K : Act → World → Prop} {Q : Exit → Act → World → Prop} (ho : o.op = .buildSlice 33 0 #[])
    (h : ∀ g w', g = w.heap.size → w'.ownsRow w.heap.size 32 1 (.slice (some ⟨g, 0, none⟩) 0 0) 0 [] → Below w.heap.size w w' → K (a.put o.dst (.slice (some ⟨g, 0, none⟩) 0 0)) w') : o.wp Tryd.prog a w K Q := by
  unfold Oper.wp execOp
  simp only [ho, List.map_toArray, List.map_nil, Sem.run_bind, run_emptyT, Result.andThen_ok]
  exact h _ _ rfl ⟨rfl, .inr ⟨w.heap.size, 0, #[], rfl, Nat.le_refl _, Row.new w 32 #[], Nat.le_refl _, by simp only [maxLen]; omega, rfl, rfl⟩⟩ ((Below.refl _ _).alloc (Nat.le_refl _) _)
set_option maxRecDepth 100000 in
/-- append([][]byte{}, texts...) -/
theorem run_appLL (ty : TypeId) (w : World) (g : Nat) (h : w.ownsRow g 32 1 (.slice (some ⟨g, 0, none⟩) 0 0) 0 []) (F : Nat → Prop) (A : Option Addr) (k d : Nat) (L : List (List UInt8)) (hT : Texts w F (.slice A k d) k L) (hn : k ≤ 1000000000) (hF : ¬ F g) :
    ∃ A' c' w', (Builtin.append_ #[33, 33] ty #[.slice (some ⟨g, 0, none⟩) 0 0, .slice A k d]).run Tryd.prog w = .ok (.slice A' k c') w' ∧ Texts w' (fun b => F b ∨ g ≤ b) (.slice A' k c') k L ∧ Below g w w' ∧ ∀ b, (Value.slice A' k c').ownBlock = some b → g ≤ b := by
  obtain ⟨vs, h1, h2, h3, h4⟩ := hT
  obtain ⟨i, hi, hz, hsize, hby⟩ := info_parts (show (Tryd.prog.info? 32).map (fun i => (i.zero, i.size, i.bytes)) = some (some (.slice none 0 0), 1, 24) by kernel_rfl)
  have hg : g ≤ w.heap.size := by
    rcases h.2 with ⟨hv, _⟩ | ⟨g', cap, cur, hv, _, hrow, _⟩
    · cases hv
    · injection hv with q; injection q with q; injection q with q; subst q
      exact Nat.le_of_lt (Array.getElem?_eq_some_iff.1 hrow).1
  rcases h1.2 with ⟨hv, hk⟩ | ⟨gs, cap, cur, hv, _, hgs, hkc, _, hcs, ht⟩
  · subst hk
    injection hv with q1 _ q3
    subst q1 q3
    have hrun : (Builtin.append_ #[33, 33] ty #[.slice (some ⟨g, 0, none⟩) 0 0, .slice none 0 0]).run Tryd.prog w = .ok (.slice (some ⟨g, 0, none⟩) 0 0) w := by
      simp [Builtin.append_, run_underlying Tryd.underlying33, sizeOf, typeInfo, hi, Builtin.lenOf, Builtin.firstCells, storeCells]
    obtain rfl : L = [] := List.eq_nil_of_length_eq_zero (by have := h1.1; omega)
    exact ⟨some ⟨g, 0, none⟩, 0, w, hrun, ⟨[], ownsRow_base h (Nat.zero_le _), fun b q => .inr (by simp [Value.ownBlock] at q; omega), rfl, fun k x l hx => by simp at hx⟩, Below.refl _ _, fun b q => by simp [Value.ownBlock] at q; omega⟩
  · injection hv with q1 _ q3
    subst q1 q3
    have hlk : vs.length = k := by have := h1.1; omega
    obtain ⟨v', w', hrun, g1, g2, _, g5⟩ := run_append_own_at (P := Tryd.prog) w g 33 ty 32 i (.slice none 0 0) 1 24 Tryd.underlying33 hi hz hsize hby rfl (by omega) _ 0 _ h ⟨gs, 0, none⟩ k d vs (by omega)
      (fun j u hu => by
        have hj : j < vs.length := (List.getElem?_eq_some_iff.1 hu).1
        rw [Addr.add_mid, Nat.zero_add, cell_of_row w gs j cur 32 (0, 0) hgs, ← hu, ← ht, List.getElem?_take, if_pos (by omega)]
        simp)
      (fun u hu => by
        obtain ⟨j, hj⟩ := List.mem_iff_getElem?.1 hu
        have hjl : j < L.length := by have := (List.getElem?_eq_some_iff.1 hj).1; omega
        obtain ⟨A', c', rfl, _⟩ := (h4 j u L[j] hj (List.getElem?_eq_getElem hjl)).1.form
        rfl) (by simp only [maxLen]; omega) (by omega) hg
    rw [Nat.zero_add, List.nil_append] at g1
    have hB : Below g w w' := (Below.refl g w).grown g2 hg fun b q => by simp [Value.ownBlock] at q; omega
    have hown : ∀ b, v'.ownBlock = some b → g ≤ b := fun b q => by
      rcases g5 with e | e
      · rw [e] at q; simp [Value.ownBlock] at q; omega
      · rw [e] at q; injection q with q; omega
    have hT' : Texts w' (fun b => F b ∨ g ≤ b) v' k L := by
      refine ⟨vs, ownsRow_base g1 (Nat.zero_le _), fun b q => .inr (hown b q), h3, fun j x l hx hl => ?_⟩
      obtain ⟨q1, q2⟩ := h4 j x l hx hl
      refine ⟨ownsRow_keep q1 fun b cs hb hr => ?_, fun b q => .inl (q2 b q)⟩
      rw [g2.block b (Array.getElem?_eq_some_iff.1 hr).1 ?_]; exact hr
      intro e
      have e : b = g := by simpa [Value.ownBlock] using e
      subst e
      exact hF (q2 _ hb)
    obtain ⟨A', c', rfl, _⟩ := hT'.form
    exact ⟨A', c', w', hrun, hT', hB, hown⟩
theorem wp_appLL {o : Oper} {a : Act} {w : World} {K : Act → World → Prop} {Q : Exit → Act → World → Prop} (s x : Operand) (ho : o.op = .call { callee := .builtin .append, args := #[s, x], argTypes := #[33, 33] })
    (g : Nat) (hs : a.eval s = .slice (some ⟨g, 0, none⟩) 0 0) (h : w.ownsRow g 32 1 (.slice (some ⟨g, 0, none⟩) 0 0) 0 []) (F : Nat → Prop) (A : Option Addr) (k d : Nat) (L : List (List UInt8)) (hx : a.eval x = .slice A k d) (hT : Texts w F (.slice A k d) k L) (hn : k ≤ 1000000000) (hF : ¬ F g)
    (hK : ∀ A' c' w', Texts w' (fun b => F b ∨ g ≤ b) (.slice A' k c') k L → Below g w w' → (∀ b, (Value.slice A' k c').ownBlock = some b → g ≤ b) → K (a.put o.dst (.slice A' k c')) w') : o.wp Tryd.prog a w K Q := by
  obtain ⟨A', c', w', hrun, h2, h3, h4⟩ := run_appLL o.type w g h F A k d L hT hn hF
  unfold Oper.wp execOp
  simp only [ho, resolve, invoke, builtin, Sem.run_bind, Sem.run_pure, Result.andThen_ok, List.map_toArray, List.map_cons, List.map_nil, hs, hx, hrun]
  exact hK A' c' w' h2 h3 h4
/-- under := the document's vault with a slice of records of its own -/
theorem DM.under {w w1 w2 : World} {u : Nat} {D : Nat → Prop} {V : Vs} {A A' : Option Addr} {n c k c' : Nat} {old : Array Value} (hD : ∀ b, D b → b < w.heap.size) (ho : Own w 0 5 (.slice A n c) n V.text) (hf : ∀ b, (Value.slice A n c).ownBlock = some b → D b) (hu : ¬ D u) (hru : Row w u 35 old)
    (hb : Below w.heap.size w w1) (hk : k = V.recs.length) (hT : Texts w1 (fun b => D b ∨ w.heap.size ≤ b) (.slice A' k c') k V.recs) (hr : Row w2 u 35 #[.int .i64 (V.gen : Int), .slice A n c, .slice A' k c']) (h2 : Only u w1 w2) : DM w2 u (fun b => b = u ∨ ((D b ∨ w.heap.size ≤ b) ∧ b < w2.heap.size ∧ b ≠ u)) V := by
  have hul := hru.lt
  have hs := h2.size
  refine ⟨.inl rfl, fun b q => ?_, A, n, c, _, hr, ?_, fun b q => .inr ⟨.inl (hf b q), ?_, ?_⟩, ?_⟩
  · rcases q with rfl | q
    · exact hr.lt
    · exact q.2.1
  · refine ownsRow_keep (ho.below hb) fun b cs q q2 => ?_
    rw [h2.block b (Array.getElem?_eq_some_iff.1 q2).1 (fun e => hu (by rw [← e]; exact hf b q))]; exact q2
  · have := hD b (hf b q); have := hb.size; omega
  · rintro rfl; exact hu (hf b q)
  · subst hk
    have hx := (hT.cap.avoid (hru.below hb hul) (by decide) (by decide))
    refine (hx.same (fun b q => ?_)).mono (fun b q => .inr ⟨q.1.1, Nat.lt_of_lt_of_le q.1.2 hs, q.2⟩)
    exact h2.block b q.1.2 q.2
end Go.Proofs.YtgiobcpljbpmiaaDoor
