/-
  The document's vault in memory: its Add, its Save; both vaults side by side: do they have the same?
-/
import Derived.Test.YtgiobcpljbpmiaaDoorVltL
namespace Go.Proofs.YtgiobcpljbpmiaaDoor
open Go.RowKit
abbrev fldOK2 (T n d : Nat) : Prop := (T = 35 ∧ ((n = 0 ∧ d = 0) ∨ (n = 1 ∧ d = 1) ∨ (n = 2 ∧ d = 2))) ∨ (T = 39 ∧ ((n = 0 ∧ d = 0) ∨ (n = 1 ∧ d = 1) ∨ (n = 2 ∧ d = 2)))
set_option maxRecDepth 100000 in
theorem yields_fldM {ops : Array Oper} {S : World → Prop} {o : Oper} {a : Act} (hw : Region.wanted o (yielded ops a.tmps) = true) (T : TypeId) (x : Operand) (n : Nat) (ho : o.op = .fieldAddr T x n) {d : Nat} (hT : fldOK2 T n d) (g k r : Nat)
    (hx : a.eval x = .pointer (some ⟨g, k, none⟩)) (hr : k + d = r) : YieldsIf Tryd.prog ops S o (.pointer (some ⟨g, r, none⟩)) a :=
  .inl ⟨hw, fun w _ => by
    subst hr
    unfold execOp
    simp only [ho, hx]
    rcases hT with ⟨rfl, ⟨rfl, rfl⟩ | ⟨rfl, rfl⟩ | ⟨rfl, rfl⟩⟩ | ⟨rfl, ⟨rfl, rfl⟩ | ⟨rfl, rfl⟩ | ⟨rfl, rfl⟩⟩ <;> go_simp⟩
theorem Bs.off0 {F : Nat → Prop} {w w' : World} {A : Option Addr} {n : Nat} {l : List UInt8} (h : Bs w A n l) (hF : n = 0 ∨ ∀ b off, A = some ⟨b, off, none⟩ → ¬ F b) (ho : Off F w w') : Bs w' A n l := by
  rcases hF with hF | hF
  · subst hF
    obtain rfl : l = [] := List.eq_nil_of_length_eq_zero h.1
    exact Bs.nil _ _
  · exact h.off hF ho
/-- the document's vault in the blocks D -/
def DM (w : World) (m : Nat) (D : Nat → Prop) (V : Vs) : Prop :=
  D m ∧ (∀ b, D b → b < w.heap.size) ∧ ∃ A n c rv, Row w m 35 #[.int .i64 (V.gen : Int), .slice A n c, rv] ∧ Own w 0 5 (.slice A n c) n V.text ∧ (∀ b, (Value.slice A n c).ownBlock = some b → D b) ∧ Texts w D rv V.recs.length V.recs
theorem DM.same {w w' : World} {m : Nat} {D : Nat → Prop} {V : Vs} (h : DM w m D V) (hk : ∀ b, D b → w'.heap[b]? = w.heap[b]?) (hs : w.heap.size ≤ w'.heap.size) : DM w' m D V := by
  obtain ⟨h1, h2, A, n, c, rv, hr, ho, hf, ht⟩ := h
  exact ⟨h1, fun b q => Nat.lt_of_lt_of_le (h2 b q) hs, A, n, c, rv, (hk m h1).trans hr, ownsRow_keep ho fun b _ hb hb2 => (hk b (hf b hb)).trans hb2, hf, ht.same hk⟩
theorem DM.off {w w' : World} {m : Nat} {D G : Nat → Prop} {V : Vs} (h : DM w m D V) (ho : Off G w w') (hG : ∀ b, D b → ¬ G b) : DM w' m D V := h.same (fun b q => ho.block b (h.2.1 b q) (hG b q)) ho.size
theorem DM.below {w w' : World} {m : Nat} {D : Nat → Prop} {V : Vs} (h : DM w m D V) (hb : Below w.heap.size w w') : DM w' m D V := h.same (fun b q => hb.block b (h.2.1 b q)) hb.size
theorem DM.added {w w4 w5 : World} {v n c : Nat} {z : Int} {H : Nat → Prop} {V : Vs} {A : Option Addr} {rv vl' : Value} {l : List UInt8} (hz : z = (V.gen : Int)) (h1 : H v) (h2 : ∀ b, H b → b < w.heap.size) (hr : Row w v 35 #[.int .i64 z, .slice A n c, rv]) (ho : Own w 0 5 (.slice A n c) n V.text) (hf : ∀ b, (Value.slice A n c).ownBlock = some b → H b) (ht : Texts w H rv V.recs.length V.recs)
    (hb : Below w.heap.size w w4) (h4 : w4.grownBy w5 rv.ownBlock) (h5 : ∀ F' : Nat → Prop, (∀ b, More H w b → F' b) → F' w4.heap.size → Texts w5 F' vl' (V.recs.length + 1) (V.recs ++ [l])) :
    Row w5 v 35 #[.int .i64 z, .slice A n c, rv] ∧ (∃ H' : Nat → Prop, (∀ b, H' b → H b ∨ w.heap.size ≤ b) ∧ DM (w5.setCell ⟨v, 2, none⟩ vl') v H' (V.add l)) ∧ Off H w (w5.setCell ⟨v, 2, none⟩ vl') := by
  subst hz
  have hgl := hr.lt
  obtain ⟨vs, t1, t2, _⟩ := id ht
  have hblk : ∀ (b : Nat) (cs : Array Value) (e : TypeId), w.heap[b]? = some (.cells cs e (0, 0)) → e ≠ 32 → w5.heap[b]? = some (.cells cs e (0, 0)) := fun b cs e q hne => by
    have hlt := (Array.getElem?_eq_some_iff.1 q).1
    rw [h4.block b (Nat.lt_of_lt_of_le hlt hb.size) (fun e1 => ?_), hb.block b hlt]; exact q
    obtain ⟨_, cs', q'⟩ := ownsRow_block t1 e1.symm
    exact hne (cells_inj q q')
  have hr5 := hblk v _ 35 hr (by decide)
  have hs5 : w.heap.size ≤ w5.heap.size := Nat.le_trans hb.size (Off.grown (F := H) h4 t2).size
  have hss : (w5.setCell ⟨v, 2, none⟩ vl').heap.size = w5.heap.size := by simp [World.setCell]
  have hoff : Off H w (w5.setCell ⟨v, 2, none⟩ vl') := ((Off.of_below hb).trans (Off.grown (F := H) h4 t2) (fun x q => .inl q)).trans (Off.setCell w5 v 2 vl' h1) (fun x q => .inl q)
  refine ⟨hr5, ⟨fun b => More H w b ∧ b < w5.heap.size, fun b q => q.1, ⟨⟨.inl h1, Nat.lt_of_lt_of_le hgl hs5⟩, fun b q => by rw [hss]; exact q.2, A, n, c, vl', Row.set (show Row w5 v 35 _ from hr5) 2 vl', ?_, fun b hb => ⟨.inl (hf b hb), Nat.lt_of_lt_of_le (h2 b (hf b hb)) hs5⟩, ?_⟩⟩, hoff⟩
  · refine ownsRow_keep ho fun b cs _ q => ?_
    rw [Below.heap_setCell _ _ _ _ (fun q2 => ?_)]; exact hblk b cs 5 q (by decide)
    have q2' : b = v := q2
    subst q2'
    exact absurd (cells_inj hr q) (by decide)
  · show Texts _ _ vl' (V.recs ++ [l]).length (V.recs ++ [l])
    rw [List.length_append]
    refine (h5 (More H w) (fun _ q => q) (.inr hb.size)).cap.keep fun b cs e _ he q => ?_
    rw [Below.heap_setCell _ _ _ _ (fun q2 => ?_)]; exact q
    have q2' : b = v := q2
    subst q2'
    have := cells_inj hr5 q
    rcases he with rfl | rfl <;> exact absurd this (by decide)
/-- what the document's call makes of it -/
def DR (w : World) (m : Nat) (D : Nat → Prop) (V : Vs) (e : Ending) (w' : World) : Prop := e = .returned (.int .i64 0) ∧ Off D w w' ∧ ∃ D', Grows w D D' ∧ DM w' m D' V
set_option maxRecDepth 100000 in
set_option maxHeartbeats 4000000 in
theorem MAdd_any (v n c : Nat) (A : Option Addr) (t : List UInt8) (D : Nat → Prop) (V : Vs) (w : World) (h : DM w v D V) (hB : Bs w A n t) (hn : n ≤ 262080) (hrl : V.recs.length + 1 ≤ 1000000000) :
    Calls Tryd.prog 21 #[.pointer (some ⟨v, 0, none⟩), .slice A n c] w (DR w v D (V.add t)) := by
  obtain ⟨G1, G2, A1, n1, c1, rv1, hrv, hov, hfv, htv⟩ := h
  have hnl : ¬ (262080 : Int) < (n : Int) := by omega
  have HB := Lib.hid (fun wq (hb : Below w.heap.size w wq) => hB.below hb)
  have HTL := Lib.hid hB.1
  obtain ⟨B0, m0, d0, rfl, hm0⟩ := Texts.of_row htv
  have HRV := Lib.hid hrv
  have HC := Lib.hid (fun wq (hb : Below w.heap.size w wq) => show wq.cell? ⟨v, 2, none⟩ = some (.slice B0 m0 d0) from (HRV.out.below hb HRV.out.lt).cell 2)
  have HTx := Lib.hid htv
  have HLt := Lib.hid G2
  have HN := Lib.hid hn
  have HRL := Lib.hid hrl
  have HAd := Lib.hid (fun A5 c5 (w4 w5 : World) hb hg h5 => DM.added (V := V) (w4 := w4) (w5 := w5) (vl' := .slice A5 (V.recs.length + 1) c5) (l := t) rfl G1 G2 hrv hov hfv htv hb hg h5)
  clear hrv hov hfv htv G1 G2 hB hn hrl
  go_enter Tryd.func21, Tryd.ntmps21
  go_wp2_with fail
  have C0 : Below w.heap.size w w.drew := (Below.refl w.heap.size w).drew
  refine wp_region_noPanic ?_
  refine wp_region_held_drew (S := fun w' => True) (by kernel_rfl) trivial (fun hHeld => ?_)
  refine takeD (i := 0) (some 8) (.pointer (some ⟨v, 0, none⟩)) rfl rfl (by kernel_rfl) (by kernel_rfl) (by kernel_rfl) (fun _ _ _ h => h) (Or.inl ⟨by rfl, fun _ _ => rfl⟩) hHeld ?_
  simp only [Act.put, List.setIfInBounds_toArray, List.set_cons_zero, List.set_cons_succ]
  refine takeD (i := 1) (some 9) (.pointer (some ⟨v, 0, none⟩)) rfl rfl (by kernel_rfl) (by kernel_rfl) (by kernel_rfl) (fun _ _ _ h => h) (Or.inl ⟨by rfl, fun _ _ => rfl⟩) hHeld ?_
  simp only [Act.put, List.setIfInBounds_toArray, List.set_cons_zero, List.set_cons_succ]
  refine takeD (i := 2) (some 10) (.pointer (some ⟨v, 0, none⟩)) rfl rfl (by kernel_rfl) (by kernel_rfl) (by kernel_rfl) (fun _ _ _ h => h) (yields_nil (by rfl) (.tmp 9) rfl _ rfl) hHeld ?_
  simp only [Act.put, List.setIfInBounds_toArray, List.set_cons_zero, List.set_cons_succ]
  refine takeD (i := 3) (some 11) (.pointer (some ⟨v, 2, none⟩)) rfl rfl (by kernel_rfl) (by kernel_rfl) (by kernel_rfl) (fun _ _ _ h => h) (yields_fldM (by rfl) 35 (.tmp 10) 2 rfl (d := 2) (by decide) (v) 0 _ rfl rfl) hHeld ?_
  simp only [Act.put, List.setIfInBounds_toArray, List.set_cons_zero, List.set_cons_succ]
  refine takeD (i := 6) (some 14) (.slice A n c) rfl rfl (by kernel_rfl) (by kernel_rfl) (by kernel_rfl) (fun _ _ _ h => h) (Or.inl ⟨by rfl, fun _ _ => rfl⟩) hHeld ?_
  simp only [Act.put, List.setIfInBounds_toArray, List.set_cons_zero, List.set_cons_succ]
  refine wpAnyH_ready (rs := [4, 5]) (by kernel_rfl) (by decide) ?_
  refine AllReadyH.cons rfl (fun K' hK => ?_) (AllReadyH.cons rfl (fun K' hK => ?_) AllReadyH.nil)
  · skip
    refine step_of rfl (wp_loadX (.tmp 11) rfl v 2 (.slice B0 m0 d0) rfl (HC.out _ C0) ?_)
    refine hK.out _ _ trivial (fun hHeld1 => ?_)
    clear hK
    simp only [List.getElem_toArray, List.getElem_cons_succ, List.getElem_cons_zero, Act.put, List.setIfInBounds_toArray, List.set_cons_zero, List.set_cons_succ]
    refine wpAnyH_ready (rs := [5]) (by kernel_rfl) (by decide) ?_
    refine AllReadyH.cons rfl (fun K' hK => ?_) AllReadyH.nil
    refine step_of rfl (wp_emptyB rfl ?_)
    intro g5 w5 hg5 ho5 hb5
    have C5 : Below w.heap.size w w5 := C0.trans hb5
    have HO5 := Lib.hid (show Own w5 w.heap.size 5 (.slice (some ⟨g5, 0, none⟩) 0 0) 0 [] from ho5)
    clear hg5 ho5 hb5
    refine hK.out _ _ trivial (fun hHeld2 => ?_)
    clear hK
    simp only [List.getElem_toArray, List.getElem_cons_succ, List.getElem_cons_zero, Act.put, List.setIfInBounds_toArray, List.set_cons_zero, List.set_cons_succ]
    refine wpAnyH_ready (rs := [7]) (by kernel_rfl) (by decide) ?_
    refine AllReadyH.cons rfl (fun K' hK => ?_) AllReadyH.nil
    refine step_of rfl (wp_appB (.tmp 13) (.tmp 14) rfl w.heap.size (.slice (some ⟨g5, 0, none⟩) 0 0) 0 [] rfl HO5.out A n c t rfl (HB.out _ C5) (by have := HN.out; omega) C5.size ?_)
    intro A7 c7 w7 ho7 hb7
    rw [Nat.zero_add, List.nil_append] at ho7
    rw [Nat.zero_add]
    have C7 : Below w.heap.size w w7 := C5.trans hb7
    have HO7 := Lib.hid ho7
    clear ho7 hb7
    refine hK.out _ _ trivial (fun hHeld3 => ?_)
    clear hK
    simp only [List.getElem_toArray, List.getElem_cons_succ, List.getElem_cons_zero, Act.put, List.setIfInBounds_toArray, List.set_cons_zero, List.set_cons_succ]
    refine wpAnyH_ready (rs := [8]) (by kernel_rfl) (by decide) ?_
    refine AllReadyH.cons rfl (fun K' hK => ?_) AllReadyH.nil
    refine step_of rfl (wp_buildT (.tmp 15) rfl A7 n c7 rfl ?_)
    obtain ⟨w8, hw8⟩ : ∃ w8, w7.alloc (.cells #[.slice A7 n c7] 32) = w8 := ⟨_, rfl⟩
    obtain ⟨g8, hg8⟩ : ∃ g8, w7.heap.size = g8 := ⟨_, rfl⟩
    have HX8 := Lib.hid ((Row.new w7 32 #[.slice A7 n c7]).cell 0)
    have C8 : Below w.heap.size w w8 := by rw [← hw8]; exact C7.alloc C7.size _
    have HO8 := Lib.hid (HO7.out.below ((Below.refl w7.heap.size w7).alloc (Nat.le_refl _) (.cells #[.slice A7 n c7] 32)))
    rw [hw8, hg8] at HX8
    rw [hw8] at HO8
    rw [hw8, hg8]
    clear hw8 hg8
    refine hK.out _ _ trivial (fun hHeld4 => ?_)
    clear hK
    simp only [List.getElem_toArray, List.getElem_cons_succ, List.getElem_cons_zero, Act.put, List.setIfInBounds_toArray, List.set_cons_zero, List.set_cons_succ]
    refine wpAnyH_ready (rs := [9]) (by kernel_rfl) (by decide) ?_
    refine AllReadyH.cons rfl (fun K' hK => ?_) AllReadyH.nil
    refine step_of rfl (wp_appTF (.tmp 12) (.tmp 16) rfl (More D w) (.slice B0 m0 d0) V.recs.length V.recs rfl ((HTx.out.same (fun b q => C8.block b (HLt.out b q))).mono (fun b q => .inl q)) (.slice A7 n c7) t (show Own w8 0 5 (.slice A7 n c7) t.length t by rw [HTL.out]; exact HO8.out.mono (Nat.zero_le _)) (fun b q => .inr (HO8.out.lt b q).1) g8 0 1 rfl HX8.out HRL.out ?_)
    intro A9 c9 w9 h9 hg9
    obtain ⟨S9r, S9v, S9o⟩ := HAd.out A9 c9 w8 w9 C8 hg9 h9
    have HS9r := Lib.hid S9r
    have HS9v := Lib.hid S9v
    have HS9o := Lib.hid S9o
    clear h9 hg9 S9r S9v S9o
    refine hK.out _ _ trivial (fun hHeld5 => ?_)
    clear hK
    simp only [List.getElem_toArray, List.getElem_cons_succ, List.getElem_cons_zero, Act.put, List.setIfInBounds_toArray, List.set_cons_zero, List.set_cons_succ]
    refine takeD (i := 10) (some 18) (.pointer (some ⟨v, 0, none⟩)) rfl rfl (by kernel_rfl) (by kernel_rfl) (by kernel_rfl) (fun _ _ _ h => h) (yields_nil (by rfl) (.tmp 8) rfl _ rfl) hHeld5 ?_
    simp only [Act.put, List.setIfInBounds_toArray, List.set_cons_zero, List.set_cons_succ]
    refine takeD (i := 11) (some 19) (.pointer (some ⟨v, 2, none⟩)) rfl rfl (by kernel_rfl) (by kernel_rfl) (by kernel_rfl) (fun _ _ _ h => h) (yields_fldM (by rfl) 35 (.tmp 18) 2 rfl (d := 2) (by decide) (v) 0 _ rfl rfl) hHeld5 ?_
    simp only [Act.put, List.setIfInBounds_toArray, List.set_cons_zero, List.set_cons_succ]
    refine wpAnyH_ready (rs := [12]) (by kernel_rfl) (by decide) ?_
    refine AllReadyH.cons rfl (fun K' hK => ?_) AllReadyH.nil
    refine step_of rfl (wp_storeX (.tmp 19) (.tmp 17) rfl v 2 A9 (V.recs.length + 1) c9 35 _ rfl rfl HS9r.out (by show 2 < 3; omega) ?_)
    refine hK.out _ _ trivial (fun hHeld6 => ?_)
    clear hK
    refine wpAnyH_done (by kernel_rfl) ?_ _
    refine NoPanic.normal ?_
    go_wp2_with fail
    go_ret
    exact ⟨rfl, HS9o.out, HS9v.out⟩
  · skip
    refine step_of rfl (wp_emptyB rfl ?_)
    intro g5 w5 hg5 ho5 hb5
    have C5 : Below w.heap.size w w5 := C0.trans hb5
    have HO5 := Lib.hid (show Own w5 w.heap.size 5 (.slice (some ⟨g5, 0, none⟩) 0 0) 0 [] from ho5)
    clear hg5 ho5 hb5
    refine hK.out _ _ trivial (fun hHeld7 => ?_)
    clear hK
    simp only [List.getElem_toArray, List.getElem_cons_succ, List.getElem_cons_zero, Act.put, List.setIfInBounds_toArray, List.set_cons_zero, List.set_cons_succ]
    refine wpAnyH_ready (rs := [4, 7]) (by kernel_rfl) (by decide) ?_
    refine AllReadyH.cons rfl (fun K' hK => ?_) (AllReadyH.cons rfl (fun K' hK => ?_) AllReadyH.nil)
    · skip
      refine step_of rfl (wp_loadX (.tmp 11) rfl v 2 (.slice B0 m0 d0) rfl (HC.out _ C5) ?_)
      refine hK.out _ _ trivial (fun hHeld8 => ?_)
      clear hK
      simp only [List.getElem_toArray, List.getElem_cons_succ, List.getElem_cons_zero, Act.put, List.setIfInBounds_toArray, List.set_cons_zero, List.set_cons_succ]
      refine wpAnyH_ready (rs := [7]) (by kernel_rfl) (by decide) ?_
      refine AllReadyH.cons rfl (fun K' hK => ?_) AllReadyH.nil
      refine step_of rfl (wp_appB (.tmp 13) (.tmp 14) rfl w.heap.size (.slice (some ⟨g5, 0, none⟩) 0 0) 0 [] rfl HO5.out A n c t rfl (HB.out _ C5) (by have := HN.out; omega) C5.size ?_)
      intro A7 c7 w7 ho7 hb7
      rw [Nat.zero_add, List.nil_append] at ho7
      rw [Nat.zero_add]
      have C7 : Below w.heap.size w w7 := C5.trans hb7
      have HO7 := Lib.hid ho7
      clear ho7 hb7
      refine hK.out _ _ trivial (fun hHeld9 => ?_)
      clear hK
      simp only [List.getElem_toArray, List.getElem_cons_succ, List.getElem_cons_zero, Act.put, List.setIfInBounds_toArray, List.set_cons_zero, List.set_cons_succ]
      refine wpAnyH_ready (rs := [8]) (by kernel_rfl) (by decide) ?_
      refine AllReadyH.cons rfl (fun K' hK => ?_) AllReadyH.nil
      refine step_of rfl (wp_buildT (.tmp 15) rfl A7 n c7 rfl ?_)
      obtain ⟨w8, hw8⟩ : ∃ w8, w7.alloc (.cells #[.slice A7 n c7] 32) = w8 := ⟨_, rfl⟩
      obtain ⟨g8, hg8⟩ : ∃ g8, w7.heap.size = g8 := ⟨_, rfl⟩
      have HX8 := Lib.hid ((Row.new w7 32 #[.slice A7 n c7]).cell 0)
      have C8 : Below w.heap.size w w8 := by rw [← hw8]; exact C7.alloc C7.size _
      have HO8 := Lib.hid (HO7.out.below ((Below.refl w7.heap.size w7).alloc (Nat.le_refl _) (.cells #[.slice A7 n c7] 32)))
      rw [hw8, hg8] at HX8
      rw [hw8] at HO8
      rw [hw8, hg8]
      clear hw8 hg8
      refine hK.out _ _ trivial (fun hHeld10 => ?_)
      clear hK
      simp only [List.getElem_toArray, List.getElem_cons_succ, List.getElem_cons_zero, Act.put, List.setIfInBounds_toArray, List.set_cons_zero, List.set_cons_succ]
      refine wpAnyH_ready (rs := [9]) (by kernel_rfl) (by decide) ?_
      refine AllReadyH.cons rfl (fun K' hK => ?_) AllReadyH.nil
      refine step_of rfl (wp_appTF (.tmp 12) (.tmp 16) rfl (More D w) (.slice B0 m0 d0) V.recs.length V.recs rfl ((HTx.out.same (fun b q => C8.block b (HLt.out b q))).mono (fun b q => .inl q)) (.slice A7 n c7) t (show Own w8 0 5 (.slice A7 n c7) t.length t by rw [HTL.out]; exact HO8.out.mono (Nat.zero_le _)) (fun b q => .inr (HO8.out.lt b q).1) g8 0 1 rfl HX8.out HRL.out ?_)
      intro A9 c9 w9 h9 hg9
      obtain ⟨S9r, S9v, S9o⟩ := HAd.out A9 c9 w8 w9 C8 hg9 h9
      have HS9r := Lib.hid S9r
      have HS9v := Lib.hid S9v
      have HS9o := Lib.hid S9o
      clear h9 hg9 S9r S9v S9o
      refine hK.out _ _ trivial (fun hHeld11 => ?_)
      clear hK
      simp only [List.getElem_toArray, List.getElem_cons_succ, List.getElem_cons_zero, Act.put, List.setIfInBounds_toArray, List.set_cons_zero, List.set_cons_succ]
      refine takeD (i := 10) (some 18) (.pointer (some ⟨v, 0, none⟩)) rfl rfl (by kernel_rfl) (by kernel_rfl) (by kernel_rfl) (fun _ _ _ h => h) (yields_nil (by rfl) (.tmp 8) rfl _ rfl) hHeld11 ?_
      simp only [Act.put, List.setIfInBounds_toArray, List.set_cons_zero, List.set_cons_succ]
      refine takeD (i := 11) (some 19) (.pointer (some ⟨v, 2, none⟩)) rfl rfl (by kernel_rfl) (by kernel_rfl) (by kernel_rfl) (fun _ _ _ h => h) (yields_fldM (by rfl) 35 (.tmp 18) 2 rfl (d := 2) (by decide) (v) 0 _ rfl rfl) hHeld11 ?_
      simp only [Act.put, List.setIfInBounds_toArray, List.set_cons_zero, List.set_cons_succ]
      refine wpAnyH_ready (rs := [12]) (by kernel_rfl) (by decide) ?_
      refine AllReadyH.cons rfl (fun K' hK => ?_) AllReadyH.nil
      refine step_of rfl (wp_storeX (.tmp 19) (.tmp 17) rfl v 2 A9 (V.recs.length + 1) c9 35 _ rfl rfl HS9r.out (by show 2 < 3; omega) ?_)
      refine hK.out _ _ trivial (fun hHeld12 => ?_)
      clear hK
      refine wpAnyH_done (by kernel_rfl) ?_ _
      refine NoPanic.normal ?_
      go_wp2_with fail
      go_ret
      exact ⟨rfl, HS9o.out, HS9v.out⟩
    · skip
      refine step_of rfl (wp_appB (.tmp 13) (.tmp 14) rfl w.heap.size (.slice (some ⟨g5, 0, none⟩) 0 0) 0 [] rfl HO5.out A n c t rfl (HB.out _ C5) (by have := HN.out; omega) C5.size ?_)
      intro A7 c7 w7 ho7 hb7
      rw [Nat.zero_add, List.nil_append] at ho7
      rw [Nat.zero_add]
      have C7 : Below w.heap.size w w7 := C5.trans hb7
      have HO7 := Lib.hid ho7
      clear ho7 hb7
      refine hK.out _ _ trivial (fun hHeld13 => ?_)
      clear hK
      simp only [List.getElem_toArray, List.getElem_cons_succ, List.getElem_cons_zero, Act.put, List.setIfInBounds_toArray, List.set_cons_zero, List.set_cons_succ]
      refine wpAnyH_ready (rs := [4, 8]) (by kernel_rfl) (by decide) ?_
      refine AllReadyH.cons rfl (fun K' hK => ?_) (AllReadyH.cons rfl (fun K' hK => ?_) AllReadyH.nil)
      · skip
        refine step_of rfl (wp_loadX (.tmp 11) rfl v 2 (.slice B0 m0 d0) rfl (HC.out _ C7) ?_)
        refine hK.out _ _ trivial (fun hHeld14 => ?_)
        clear hK
        simp only [List.getElem_toArray, List.getElem_cons_succ, List.getElem_cons_zero, Act.put, List.setIfInBounds_toArray, List.set_cons_zero, List.set_cons_succ]
        refine wpAnyH_ready (rs := [8]) (by kernel_rfl) (by decide) ?_
        refine AllReadyH.cons rfl (fun K' hK => ?_) AllReadyH.nil
        refine step_of rfl (wp_buildT (.tmp 15) rfl A7 n c7 rfl ?_)
        obtain ⟨w8, hw8⟩ : ∃ w8, w7.alloc (.cells #[.slice A7 n c7] 32) = w8 := ⟨_, rfl⟩
        obtain ⟨g8, hg8⟩ : ∃ g8, w7.heap.size = g8 := ⟨_, rfl⟩
        have HX8 := Lib.hid ((Row.new w7 32 #[.slice A7 n c7]).cell 0)
        have C8 : Below w.heap.size w w8 := by rw [← hw8]; exact C7.alloc C7.size _
        have HO8 := Lib.hid (HO7.out.below ((Below.refl w7.heap.size w7).alloc (Nat.le_refl _) (.cells #[.slice A7 n c7] 32)))
        rw [hw8, hg8] at HX8
        rw [hw8] at HO8
        rw [hw8, hg8]
        clear hw8 hg8
        refine hK.out _ _ trivial (fun hHeld15 => ?_)
        clear hK
        simp only [List.getElem_toArray, List.getElem_cons_succ, List.getElem_cons_zero, Act.put, List.setIfInBounds_toArray, List.set_cons_zero, List.set_cons_succ]
        refine wpAnyH_ready (rs := [9]) (by kernel_rfl) (by decide) ?_
        refine AllReadyH.cons rfl (fun K' hK => ?_) AllReadyH.nil
        refine step_of rfl (wp_appTF (.tmp 12) (.tmp 16) rfl (More D w) (.slice B0 m0 d0) V.recs.length V.recs rfl ((HTx.out.same (fun b q => C8.block b (HLt.out b q))).mono (fun b q => .inl q)) (.slice A7 n c7) t (show Own w8 0 5 (.slice A7 n c7) t.length t by rw [HTL.out]; exact HO8.out.mono (Nat.zero_le _)) (fun b q => .inr (HO8.out.lt b q).1) g8 0 1 rfl HX8.out HRL.out ?_)
        intro A9 c9 w9 h9 hg9
        obtain ⟨S9r, S9v, S9o⟩ := HAd.out A9 c9 w8 w9 C8 hg9 h9
        have HS9r := Lib.hid S9r
        have HS9v := Lib.hid S9v
        have HS9o := Lib.hid S9o
        clear h9 hg9 S9r S9v S9o
        refine hK.out _ _ trivial (fun hHeld16 => ?_)
        clear hK
        simp only [List.getElem_toArray, List.getElem_cons_succ, List.getElem_cons_zero, Act.put, List.setIfInBounds_toArray, List.set_cons_zero, List.set_cons_succ]
        refine takeD (i := 10) (some 18) (.pointer (some ⟨v, 0, none⟩)) rfl rfl (by kernel_rfl) (by kernel_rfl) (by kernel_rfl) (fun _ _ _ h => h) (yields_nil (by rfl) (.tmp 8) rfl _ rfl) hHeld16 ?_
        simp only [Act.put, List.setIfInBounds_toArray, List.set_cons_zero, List.set_cons_succ]
        refine takeD (i := 11) (some 19) (.pointer (some ⟨v, 2, none⟩)) rfl rfl (by kernel_rfl) (by kernel_rfl) (by kernel_rfl) (fun _ _ _ h => h) (yields_fldM (by rfl) 35 (.tmp 18) 2 rfl (d := 2) (by decide) (v) 0 _ rfl rfl) hHeld16 ?_
        simp only [Act.put, List.setIfInBounds_toArray, List.set_cons_zero, List.set_cons_succ]
        refine wpAnyH_ready (rs := [12]) (by kernel_rfl) (by decide) ?_
        refine AllReadyH.cons rfl (fun K' hK => ?_) AllReadyH.nil
        refine step_of rfl (wp_storeX (.tmp 19) (.tmp 17) rfl v 2 A9 (V.recs.length + 1) c9 35 _ rfl rfl HS9r.out (by show 2 < 3; omega) ?_)
        refine hK.out _ _ trivial (fun hHeld17 => ?_)
        clear hK
        refine wpAnyH_done (by kernel_rfl) ?_ _
        refine NoPanic.normal ?_
        go_wp2_with fail
        go_ret
        exact ⟨rfl, HS9o.out, HS9v.out⟩
      · skip
        refine step_of rfl (wp_buildT (.tmp 15) rfl A7 n c7 rfl ?_)
        obtain ⟨w8, hw8⟩ : ∃ w8, w7.alloc (.cells #[.slice A7 n c7] 32) = w8 := ⟨_, rfl⟩
        obtain ⟨g8, hg8⟩ : ∃ g8, w7.heap.size = g8 := ⟨_, rfl⟩
        have HX8 := Lib.hid ((Row.new w7 32 #[.slice A7 n c7]).cell 0)
        have C8 : Below w.heap.size w w8 := by rw [← hw8]; exact C7.alloc C7.size _
        have HO8 := Lib.hid (HO7.out.below ((Below.refl w7.heap.size w7).alloc (Nat.le_refl _) (.cells #[.slice A7 n c7] 32)))
        rw [hw8, hg8] at HX8
        rw [hw8] at HO8
        rw [hw8, hg8]
        clear hw8 hg8
        refine hK.out _ _ trivial (fun hHeld18 => ?_)
        clear hK
        simp only [List.getElem_toArray, List.getElem_cons_succ, List.getElem_cons_zero, Act.put, List.setIfInBounds_toArray, List.set_cons_zero, List.set_cons_succ]
        refine wpAnyH_ready (rs := [4]) (by kernel_rfl) (by decide) ?_
        refine AllReadyH.cons rfl (fun K' hK => ?_) AllReadyH.nil
        refine step_of rfl (wp_loadX (.tmp 11) rfl v 2 (.slice B0 m0 d0) rfl (HC.out _ C8) ?_)
        refine hK.out _ _ trivial (fun hHeld19 => ?_)
        clear hK
        simp only [List.getElem_toArray, List.getElem_cons_succ, List.getElem_cons_zero, Act.put, List.setIfInBounds_toArray, List.set_cons_zero, List.set_cons_succ]
        refine wpAnyH_ready (rs := [9]) (by kernel_rfl) (by decide) ?_
        refine AllReadyH.cons rfl (fun K' hK => ?_) AllReadyH.nil
        refine step_of rfl (wp_appTF (.tmp 12) (.tmp 16) rfl (More D w) (.slice B0 m0 d0) V.recs.length V.recs rfl ((HTx.out.same (fun b q => C8.block b (HLt.out b q))).mono (fun b q => .inl q)) (.slice A7 n c7) t (show Own w8 0 5 (.slice A7 n c7) t.length t by rw [HTL.out]; exact HO8.out.mono (Nat.zero_le _)) (fun b q => .inr (HO8.out.lt b q).1) g8 0 1 rfl HX8.out HRL.out ?_)
        intro A9 c9 w9 h9 hg9
        obtain ⟨S9r, S9v, S9o⟩ := HAd.out A9 c9 w8 w9 C8 hg9 h9
        have HS9r := Lib.hid S9r
        have HS9v := Lib.hid S9v
        have HS9o := Lib.hid S9o
        clear h9 hg9 S9r S9v S9o
        refine hK.out _ _ trivial (fun hHeld20 => ?_)
        clear hK
        simp only [List.getElem_toArray, List.getElem_cons_succ, List.getElem_cons_zero, Act.put, List.setIfInBounds_toArray, List.set_cons_zero, List.set_cons_succ]
        refine takeD (i := 10) (some 18) (.pointer (some ⟨v, 0, none⟩)) rfl rfl (by kernel_rfl) (by kernel_rfl) (by kernel_rfl) (fun _ _ _ h => h) (yields_nil (by rfl) (.tmp 8) rfl _ rfl) hHeld20 ?_
        simp only [Act.put, List.setIfInBounds_toArray, List.set_cons_zero, List.set_cons_succ]
        refine takeD (i := 11) (some 19) (.pointer (some ⟨v, 2, none⟩)) rfl rfl (by kernel_rfl) (by kernel_rfl) (by kernel_rfl) (fun _ _ _ h => h) (yields_fldM (by rfl) 35 (.tmp 18) 2 rfl (d := 2) (by decide) (v) 0 _ rfl rfl) hHeld20 ?_
        simp only [Act.put, List.setIfInBounds_toArray, List.set_cons_zero, List.set_cons_succ]
        refine wpAnyH_ready (rs := [12]) (by kernel_rfl) (by decide) ?_
        refine AllReadyH.cons rfl (fun K' hK => ?_) AllReadyH.nil
        refine step_of rfl (wp_storeX (.tmp 19) (.tmp 17) rfl v 2 A9 (V.recs.length + 1) c9 35 _ rfl rfl HS9r.out (by show 2 < 3; omega) ?_)
        refine hK.out _ _ trivial (fun hHeld21 => ?_)
        clear hK
        refine wpAnyH_done (by kernel_rfl) ?_ _
        refine NoPanic.normal ?_
        go_wp2_with fail
        go_ret
        exact ⟨rfl, HS9o.out, HS9v.out⟩
set_option maxRecDepth 100000 in
set_option maxHeartbeats 2000000 in
theorem MSave_any (v n c : Nat) (A : Option Addr) (t : List UInt8) (D : Nat → Prop) (V : Vs) (w : World) (h : DM w v D V) (hB : Bs w A n t) (hn : n ≤ 262080) (hg : V.gen < 1099511627776) (hA : n = 0 ∨ ∀ b off, A = some ⟨b, off, none⟩ → b ≠ v) :
    Calls Tryd.prog 23 #[.pointer (some ⟨v, 0, none⟩), .slice A n c] w (DR w v D (V.save t)) := by
  obtain ⟨G1, G2, A1, n1, c1, rv1, hrv, hov, hfv, htv⟩ := h
  have hnl : ¬ (262080 : Int) < (n : Int) := by omega
  have dg : ((V.gen : Int) == 1099511627776) = false := by simp; omega
  have x0 : w.cell? ⟨v, 0, none⟩ = some (.int .i64 (V.gen : Int)) := hrv.cell 0
  have y0 := hrv.frozen 0
  have HRV := Lib.hid hrv
  have hG : (V.gen : Int) + 1 = ((V.gen + 1 : Nat) : Int) := by omega
  have HB := Lib.hid (hB.off0 (F := fun x => x = v) hA (Off.setCell w v 0 (.int .i64 ((V.gen : Int) + 1)) rfl))
  have HR1 := Lib.hid (hrv.set 0 (.int .i64 ((V.gen : Int) + 1)))
  obtain ⟨wz, hwz⟩ : ∃ wz, w.setCell ⟨v, 0, none⟩ (.int .i64 ((V.gen : Int) + 1)) = wz := ⟨_, rfl⟩
  have HOz := Lib.hid (Off.setCell (F := fun x => x = v) w v 0 (.int .i64 ((V.gen : Int) + 1)) rfl)
  have HSZ := Lib.hid (show wz.heap.size = w.heap.size by rw [← hwz]; simp [World.setCell])
  rw [hwz] at HB HR1 HOz
  have hvl := hrv.lt
  have HG1 := Lib.hid G1
  have HG2 := Lib.hid G2
  clear hrv hov hfv htv G2 hB hA hG
  go_enter Tryd.func23, Tryd.ntmps23
  go_wp2_with (at_builtin; refine wpList_copy Tryd.byteTypes rfl (.tmp 21) (.tmp 22) rfl rfl A n c t rfl HB.out (by omega) ?_; intro A1' c1' w1 hB1 hc1 hb1 ho1; have HO1 := Lib.hid ho1; have HRr := Lib.hid (HR1.out.below hb1 (by have := HSZ.out; omega)); have HBb := Lib.hid hb1; have z1 := HRr.out.cell 1; have z2 := HRr.out.cell 2; have u1 := HRr.out.frozen 1; have u2 := HRr.out.frozen 2; clear ho1 hB1)
  go_ret
  have hk : ∀ b, b ≠ v → ((w1.setCell ⟨v, 1, none⟩ (.slice A1' n c1')).setCell ⟨v, 2, none⟩ (.slice none 0 0)).heap[b]? = w1.heap[b]? := fun b hb => by
    rw [Below.heap_setCell _ ⟨v, 2, none⟩ _ b hb, Below.heap_setCell _ ⟨v, 1, none⟩ _ b hb]
  have hs : ((w1.setCell ⟨v, 1, none⟩ (.slice A1' n c1')).setCell ⟨v, 2, none⟩ (.slice none 0 0)).heap.size = w1.heap.size := by simp [World.setCell]
  have hs1 := HBb.out.size
  have hsz := HSZ.out
  refine ⟨rfl, ((HOz.out.trans (Off.of_below hb1 : Off (fun x => x = v) wz w1) (fun x q => .inl q)).trans ((Off.setCell (F := fun x => x = v) w1 v 1 _ rfl).trans (Off.setCell (F := fun x => x = v) _ v 2 _ rfl) (fun x q => .inl q)) (fun x q => .inl q)).mono (fun x q => by subst q; exact HG1.out), fun b => D b ∨ (Value.slice A1' n c1').ownBlock = some b, fun b q => ?_, .inl HG1.out, fun b q => ?_, A1', n, c1', .slice none 0 0, ?_, ?_, fun b q => .inr q, Texts.nil _ _⟩
  · rcases q with q | q
    · exact .inl q
    · exact .inr (by have := (HO1.out.lt b q).1; omega)
  · rw [hs]
    rcases q with q | q
    · have := HG2.out b q; omega
    · exact (HO1.out.lt b q).2
  · exact (HRr.out.set 1 _).set 2 _
  · refine ownsRow_keep (HO1.out.mono (Nat.zero_le _)) fun b _ hb hb2 => (hk b (fun e => ?_)).trans hb2
    have := (HO1.out.lt b hb).1
    omega
set_option maxRecDepth 100000 in
theorem own_any (A : Option Addr) (n c : Nat) (l : List UInt8) (w : World) (hB : Bs w A n l) (hn : n ≤ 140737488355328) : Calls Tryd.prog 20 #[.slice A n c] w (S4NewSlice w l) := by
  have HB := Lib.hid hB
  clear hB
  go_enter Tryd.func20, Tryd.ntmps20
  go_wp2_with (at_builtin; refine wpList_copy Tryd.byteTypes rfl (.tmp 3) (.tmp 4) rfl rfl A n c l rfl HB.out (by omega) ?_; intro A1 c1 w1 hB1 hc1 hb1 ho1)
  go_ret
  exact ho1.newSlice hb1
theorem Vlt.rows {w : World} {v g : Nat} {H : Nat → Prop} {V : Vs} (h : Vlt w v g H V) : ∃ A n c B m d, Row w v 70 #[.pointer (some ⟨g, 0, none⟩), .int .i64 (V.gen : Int), .slice A n c, .slice B m d, .bool false] ∧ Own w 0 5 (.slice A n c) n V.text ∧ m = V.recs.length ∧ Texts w H (.slice B m d) m V.recs := by
  obtain ⟨h1, h2, A, n, c, rv, hr, ho, hf, ht⟩ := h
  obtain ⟨B, m, d, rfl, hm⟩ := Texts.of_row ht
  exact ⟨A, n, c, B, m, d, hr, ho, hm, by rw [hm]; rw [hm] at ht; exact ht⟩
theorem Texts.bss {w : World} {F : Nat → Prop} {A : Option Addr} {n c : Nat} {L : List (List UInt8)} (h : Texts w F (.slice A n c) n L) : Bss w A n L := by
  refine ⟨h.length, fun k l hl => ?_⟩
  have hk : k < n := by rw [← h.length]; exact (List.getElem?_eq_some_iff.1 hl).1
  obtain ⟨b, A', c', l', e, q1, _, q2, q3, q4, q5⟩ := h.get hk
  rw [hl] at q2
  injection q2 with q2
  subst q2
  exact ⟨b, 0, A', c', e, q1, by rw [Nat.zero_add]; exact q3, q4, q5⟩
/-- what a vault has, small enough -/
def Small (V : Vs) : Prop := V.text.length ≤ 1000000 ∧ V.recs.length ≤ 1000000000 ∧ ∀ t ∈ V.recs, t.length ≤ 1000000
set_option maxRecDepth 100000 in
set_option maxHeartbeats 4000000 in
theorem same_yes (v g m : Nat) (H D : Nat → Prop) (V : Vs) (w : World) (h : Vlt w v g H V) (hm : DM w m D V) (hs : Small V) :
    Calls Tryd.prog 14 #[.pointer (some ⟨v, 0, none⟩), .pointer (some ⟨m, 0, none⟩)] w fun e w' => e = .returned (.bool true) ∧ Below w.heap.size w w' := by
  obtain ⟨A, n, c, B, k, d, hr, ho, hk, ht⟩ := h.rows
  obtain ⟨M1, M2, A2, n2, c2, rv2, hr2, ho2, hf2, ht2⟩ := hm
  obtain ⟨B2, k2, d2, rfl, hk2⟩ := Texts.of_row ht2
  obtain rfl : n2 = n := ho2.length.symm.trans ho.length
  obtain rfl : k2 = k := by rw [hk2, hk]
  obtain ⟨s1, s2, s3⟩ := hs
  have HG := Lib.hid (fun wq (hb : Below w.heap.size w wq) => Gen_row v (V.gen : Int) _ wq (hr.below hb hr.lt) rfl)
  have HX := Lib.hid (fun wq (hb : Below w.heap.size w wq) => Text_row v n2 c A V.text _ wq (hr.below hb hr.lt) rfl (ho.bs.below hb) (by rw [← ho.length]; omega))
  have HRc := Lib.hid (fun wq (hb : Below w.heap.size w wq) => Records_row v k2 d B V.recs H _ wq (hr.below hb hr.lt) rfl (ht.same (fun b q => hb.block b (h.2.1 b q))) (by rw [hk2]; exact s2) (fun t q => by have := s3 t q; omega))
  have HB2 := Lib.hid (fun wq (hb : Below w.heap.size w wq) => ho2.bs.below hb)
  have HL2 := Lib.hid (fun wq (hb : Below w.heap.size w wq) => (show Bss w B2 k2 V.recs from by rw [hk2] at ht2 ⊢; exact ht2.bss).below hb)
  have KP : Hid (∀ wq, Below w.heap.size w wq → Row wq m 35 #[.int .i64 (V.gen : Int), .slice A2 n2 c2, .slice B2 k2 d2]) := Lib.hid (fun wq hb => hr2.below hb hr2.lt)
  have HTl := Lib.hid ho.length
  have HS1 := Lib.hid s1
  have HS2 := Lib.hid (show k2 ≤ 1000000000000 by rw [hk2]; omega)
  have HS3 := Lib.hid s3
  unfold S4NewSlice at HX
  rw [ho.length] at HX
  clear hr ho hk ht M1 M2 hr2 ho2 hf2 ht2 hk2 s1 s2 s3
  go_enter Tryd.func14, Tryd.ntmps14
  go_wp2_with fail
  have Z0 : Below w.heap.size w w.drew := (Below.refl w.heap.size w).drew
  refine wp_region_noPanic ?_
  refine wp_region_held_drew (S := fun w' => Row w' m 35 #[.int .i64 (V.gen : Int), .slice A2 n2 c2, .slice B2 k2 d2]) (by kernel_rfl) (KP.out _ Z0) (fun hHeld => ?_)
  refine takeD (i := 0) (some 5) (.pointer (some ⟨v, 0, none⟩)) rfl rfl (by kernel_rfl) (by kernel_rfl) (by kernel_rfl) (fun _ _ _ h => h) (Or.inl ⟨by rfl, fun _ _ => rfl⟩) hHeld ?_
  simp only [Act.put, List.setIfInBounds_toArray, List.set_cons_zero, List.set_cons_succ]
  refine takeD (i := 2) (some 7) (.pointer (some ⟨m, 0, none⟩)) rfl rfl (by kernel_rfl) (by kernel_rfl) (by kernel_rfl) (fun _ _ _ h => h) (Or.inl ⟨by rfl, fun _ _ => rfl⟩) hHeld ?_
  simp only [Act.put, List.setIfInBounds_toArray, List.set_cons_zero, List.set_cons_succ]
  refine takeD (i := 3) (some 8) (.pointer (some ⟨m, 0, none⟩)) rfl rfl (by kernel_rfl) (by kernel_rfl) (by kernel_rfl) (fun _ _ _ h => h) (yields_nil (by rfl) (.tmp 7) rfl _ rfl) hHeld ?_
  simp only [Act.put, List.setIfInBounds_toArray, List.set_cons_zero, List.set_cons_succ]
  refine takeD (i := 4) (some 9) (.pointer (some ⟨m, 0, none⟩)) rfl rfl (by kernel_rfl) (by kernel_rfl) (by kernel_rfl) (fun _ _ _ h => h) (yields_fldM (by rfl) 35 (.tmp 8) 0 rfl (d := 0) (by decide) (m) 0 _ rfl rfl) hHeld ?_
  simp only [Act.put, List.setIfInBounds_toArray, List.set_cons_zero, List.set_cons_succ]
  refine takeD (i := 5) (some 10) (.int .i64 (V.gen : Int)) rfl rfl (by kernel_rfl) (by kernel_rfl) (by kernel_rfl) (fun _ _ _ h => h) (yieldsC (by rfl) 3 (.tmp 9) rfl (by decide) (m) (0) _ rfl (fun _ h => h.cell 0)) hHeld ?_
  simp only [Act.put, List.setIfInBounds_toArray, List.set_cons_zero, List.set_cons_succ]
  refine wpAnyH_ready (rs := [1]) (by kernel_rfl) (by decide) ?_
  refine AllReadyH.cons rfl (fun K' hK => ?_) AllReadyH.nil
  go_simp
  refine (HG.out w.drew Z0).mono ?_
  rintro e1 w1 ⟨rfl, rfl⟩
  refine hK.out _ _ (KP.out _ Z0) (fun hHeld1 => ?_)
  clear hK
  refine takeD (i := 6) (some 11) (.bool true) rfl rfl (by kernel_rfl) (by kernel_rfl) (by kernel_rfl) (fun _ _ _ h => h) (yields_eqN (by rfl) _ _ rfl (V.gen : Int) (V.gen : Int) true rfl rfl (by simp)) hHeld1 ?_
  simp only [Act.put, List.setIfInBounds_toArray, List.set_cons_zero, List.set_cons_succ]
  refine takeD (i := 7) (some 12) (.bool true) rfl rfl (by kernel_rfl) (by kernel_rfl) (by kernel_rfl) (fun _ _ _ h => h) (Or.inl ⟨by rfl, fun _ _ => rfl⟩) hHeld1 ?_
  simp only [Act.put, List.setIfInBounds_toArray, List.set_cons_zero, List.set_cons_succ]
  refine takeD (i := 8) (some 13) (.pointer (some ⟨v, 0, none⟩)) rfl rfl (by kernel_rfl) (by kernel_rfl) (by kernel_rfl) (fun _ _ _ h => h) (Or.inl ⟨by rfl, fun _ _ => rfl⟩) hHeld1 ?_
  simp only [Act.put, List.setIfInBounds_toArray, List.set_cons_zero, List.set_cons_succ]
  refine takeD (i := 10) (some 15) (.pointer (some ⟨m, 0, none⟩)) rfl rfl (by kernel_rfl) (by kernel_rfl) (by kernel_rfl) (fun _ _ _ h => h) (Or.inl ⟨by rfl, fun _ _ => rfl⟩) hHeld1 ?_
  simp only [Act.put, List.setIfInBounds_toArray, List.set_cons_zero, List.set_cons_succ]
  refine takeD (i := 11) (some 16) (.pointer (some ⟨m, 0, none⟩)) rfl rfl (by kernel_rfl) (by kernel_rfl) (by kernel_rfl) (fun _ _ _ h => h) (yields_nil (by rfl) (.tmp 15) rfl _ rfl) hHeld1 ?_
  simp only [Act.put, List.setIfInBounds_toArray, List.set_cons_zero, List.set_cons_succ]
  refine takeD (i := 12) (some 17) (.pointer (some ⟨m, 1, none⟩)) rfl rfl (by kernel_rfl) (by kernel_rfl) (by kernel_rfl) (fun _ _ _ h => h) (yields_fldM (by rfl) 35 (.tmp 16) 1 rfl (d := 1) (by decide) (m) 0 _ rfl rfl) hHeld1 ?_
  simp only [Act.put, List.setIfInBounds_toArray, List.set_cons_zero, List.set_cons_succ]
  refine takeD (i := 13) (some 18) (.slice A2 n2 c2) rfl rfl (by kernel_rfl) (by kernel_rfl) (by kernel_rfl) (fun _ _ _ h => h) (yieldsC (by rfl) 32 (.tmp 17) rfl (by decide) (m) (1) _ rfl (fun _ h => h.cell 1)) hHeld1 ?_
  simp only [Act.put, List.setIfInBounds_toArray, List.set_cons_zero, List.set_cons_succ]
  refine wpAnyH_ready (rs := [9]) (by kernel_rfl) (by decide) ?_
  refine AllReadyH.cons rfl (fun K' hK => ?_) AllReadyH.nil
  go_simp
  refine (HX.out w.drew Z0).mono ?_
  rintro e3 w3 ⟨A3, c3, rfl, hc3, hb3, ho3⟩
  have B3 : Below w.heap.size w w3 := Z0.trans hb3
  have HO3 := Lib.hid ho3
  clear ho3 hc3 hb3
  refine hK.out _ _ (KP.out _ B3) (fun hHeld2 => ?_)
  clear hK
  refine wpAnyH_ready (rs := [14]) (by kernel_rfl) (by decide) ?_
  refine AllReadyH.cons rfl (fun K' hK => ?_) AllReadyH.nil
  go_simp
  refine (Same_yes A3 A2 n2 c3 c2 V.text w3 HO3.out.bs (HB2.out _ B3) (by have := HTl.out; have := HS1.out; omega)).mono ?_
  rintro e4 w4 ⟨rfl, k4, rfl⟩
  have B4 : Below w.heap.size w (w3.drewN k4) := below_drewN B3 k4
  refine hK.out _ _ (KP.out _ B4) (fun hHeld3 => ?_)
  clear hK
  refine takeD (i := 15) (some 20) (.bool true) rfl rfl (by kernel_rfl) (by kernel_rfl) (by kernel_rfl) (fun _ _ _ h => h) (Or.inl ⟨by rfl, fun _ _ => rfl⟩) hHeld3 ?_
  simp only [Act.put, List.setIfInBounds_toArray, List.set_cons_zero, List.set_cons_succ]
  refine takeD (i := 16) (some 21) (.bool true) rfl rfl (by kernel_rfl) (by kernel_rfl) (by kernel_rfl) (fun _ _ _ h => h) (Or.inl ⟨by rfl, fun _ _ => rfl⟩) hHeld3 ?_
  simp only [Act.put, List.setIfInBounds_toArray, List.set_cons_zero, List.set_cons_succ]
  refine takeD (i := 17) (some 22) (.pointer (some ⟨v, 0, none⟩)) rfl rfl (by kernel_rfl) (by kernel_rfl) (by kernel_rfl) (fun _ _ _ h => h) (Or.inl ⟨by rfl, fun _ _ => rfl⟩) hHeld3 ?_
  simp only [Act.put, List.setIfInBounds_toArray, List.set_cons_zero, List.set_cons_succ]
  refine takeD (i := 19) (some 24) (.pointer (some ⟨m, 0, none⟩)) rfl rfl (by kernel_rfl) (by kernel_rfl) (by kernel_rfl) (fun _ _ _ h => h) (Or.inl ⟨by rfl, fun _ _ => rfl⟩) hHeld3 ?_
  simp only [Act.put, List.setIfInBounds_toArray, List.set_cons_zero, List.set_cons_succ]
  refine takeD (i := 20) (some 25) (.pointer (some ⟨m, 0, none⟩)) rfl rfl (by kernel_rfl) (by kernel_rfl) (by kernel_rfl) (fun _ _ _ h => h) (yields_nil (by rfl) (.tmp 24) rfl _ rfl) hHeld3 ?_
  simp only [Act.put, List.setIfInBounds_toArray, List.set_cons_zero, List.set_cons_succ]
  refine takeD (i := 21) (some 26) (.pointer (some ⟨m, 2, none⟩)) rfl rfl (by kernel_rfl) (by kernel_rfl) (by kernel_rfl) (fun _ _ _ h => h) (yields_fldM (by rfl) 35 (.tmp 25) 2 rfl (d := 2) (by decide) (m) 0 _ rfl rfl) hHeld3 ?_
  simp only [Act.put, List.setIfInBounds_toArray, List.set_cons_zero, List.set_cons_succ]
  refine takeD (i := 22) (some 27) (.slice B2 k2 d2) rfl rfl (by kernel_rfl) (by kernel_rfl) (by kernel_rfl) (fun _ _ _ h => h) (yieldsC (by rfl) 33 (.tmp 26) rfl (by decide) (m) (2) _ rfl (fun _ h => h.cell 2)) hHeld3 ?_
  simp only [Act.put, List.setIfInBounds_toArray, List.set_cons_zero, List.set_cons_succ]
  refine wpAnyH_ready (rs := [18]) (by kernel_rfl) (by decide) ?_
  refine AllReadyH.cons rfl (fun K' hK => ?_) AllReadyH.nil
  go_simp
  refine (HRc.out _ B4).mono ?_
  rintro e5 w5 ⟨A5, c5, rfl, hc5, ho5, hb5⟩
  have B5 : Below w.heap.size w w5 := B4.trans (hb5.mono B4.size)
  have HO5 := Lib.hid ho5
  clear ho5 hc5 hb5
  refine hK.out _ _ (KP.out _ B5) (fun hHeld4 => ?_)
  clear hK
  refine wpAnyH_ready (rs := [23]) (by kernel_rfl) (by decide) ?_
  refine AllReadyH.cons rfl (fun K' hK => ?_) AllReadyH.nil
  go_simp
  refine (LSame_yes A5 B2 k2 c5 d2 V.recs w5 HO5.out.bss (HL2.out _ B5) HS2.out HS3.out).mono ?_
  rintro e6 w6 ⟨rfl, k6, rfl⟩
  have B6 : Below w.heap.size w (w5.drewN k6) := below_drewN B5 k6
  refine hK.out _ _ (KP.out _ B6) (fun hHeld5 => ?_)
  clear hK
  refine takeD (i := 24) (some 29) (.bool true) rfl rfl (by kernel_rfl) (by kernel_rfl) (by kernel_rfl) (fun _ _ _ h => h) (Or.inl ⟨by rfl, fun _ _ => rfl⟩) hHeld5 ?_
  simp only [Act.put, List.setIfInBounds_toArray, List.set_cons_zero, List.set_cons_succ]
  refine takeD (i := 25) (some 4) (.bool true) rfl rfl (by kernel_rfl) (by kernel_rfl) (by kernel_rfl) (fun _ _ _ h => h) (Or.inl ⟨by rfl, fun _ _ => rfl⟩) hHeld5 ?_
  simp only [Act.put, List.setIfInBounds_toArray, List.set_cons_zero, List.set_cons_succ]
  (try simp only [Act.put, List.setIfInBounds_toArray])
  refine wpAnyH_done (by kernel_rfl) ?_ _
  refine NoPanic.normal ?_
  go_wp2_with fail
  go_ret
  exact ⟨rfl, B6⟩
end Go.Proofs.YtgiobcpljbpmiaaDoor
