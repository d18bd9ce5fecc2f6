/-
  A vault in memory; a slot's snapshot is taken, where it is the greater one.
-/
import Derived.Test.YtgiobcpljbpmiaaDoorVltD
namespace Go.Proofs.YtgiobcpljbpmiaaDoor
open Go.RowKit
/-- a vault's object on the tape's object g; H: the blocks that are its own -/
def Vlt (w : World) (v g : Nat) (H : Nat → Prop) (V : Vs) : Prop :=
  H v ∧ (∀ b, H b → b < w.heap.size) ∧ ∃ A n c rv, Row w v 70 #[.pointer (some ⟨g, 0, none⟩), .int .i64 (V.gen : Int), .slice A n c, rv, .bool false] ∧ Own w 0 5 (.slice A n c) n V.text ∧ (∀ b, (Value.slice A n c).ownBlock = some b → H b) ∧ Texts w H rv V.recs.length V.recs
theorem Vlt.same {w w' : World} {v g : Nat} {H : Nat → Prop} {V : Vs} (h : Vlt w v g H V) (hk : ∀ b, H b → w'.heap[b]? = w.heap[b]?) (hs : w.heap.size ≤ w'.heap.size) : Vlt w' v g H V := by
  obtain ⟨h1, h2, A, n, c, rv, hr, ho, hf, ht⟩ := h
  exact ⟨h1, fun b q => Nat.lt_of_lt_of_le (h2 b q) hs, A, n, c, rv, (hk v h1).trans hr, ownsRow_keep ho fun b cs hb hb2 => (hk b (hf b hb)).trans hb2, hf, ht.same hk⟩
theorem Vlt.below {w w' : World} {v g : Nat} {H : Nat → Prop} {V : Vs} (h : Vlt w v g H V) (hb : Below w.heap.size w w') : Vlt w' v g H V := h.same (fun b q => hb.block b (h.2.1 b q)) hb.size
theorem Vlt.off {w w' : World} {v g : Nat} {H G : Nat → Prop} {V : Vs} (h : Vlt w v g H V) (ho : Off G w w') (hG : ∀ b, H b → ¬ G b) : Vlt w' v g H V := h.same (fun b q => ho.block b (h.2.1 b q) (hG b q)) ho.size
theorem Vlt.lt {w : World} {v g : Nat} {H : Nat → Prop} {V : Vs} (h : Vlt w v g H V) : v < w.heap.size := h.2.1 v h.1
def Vs.pick (V : Vs) (a : Nat × List UInt8) : Vs := if V.gen < a.1 then ⟨a.1, a.2, V.recs⟩ else V
theorem Scans.exists (b : List UInt8) : ∃ L n, Scans b L n :=
  let C : Code (List UInt8) := { enc := frB, rd := rdFr, ok := fun t => t.length ≤ 262144, pos := fun a => by rw [frB_length]; omega, back := fun a r h => rdFr_back a r h, is := fun b a s h => rdFr_is b a s h, cut := fun a r k h hk => rdFr_cut a r h k hk }
  Code.All.exists (C := C) b
theorem Scans.head {b t : List UInt8} {L : List (List UInt8)} {n : Nat} (h : Scans b (t :: L) n) : rdFr b = (true, t, (frB t).length) := by
  have hb : b = frB t ++ (frsB L ++ b.drop n) := by
    rw [← List.append_assoc, ← frsB_cons, h.1.1, List.take_append_drop]
  rw [hb]
  exact rdFr_back t _ (h.1.2.2 t (by simp))
theorem slotP_none {b : List UInt8} {n odd : Nat} (h : Scans b [] n) : slotP b odd = (0, []) := by
  refine slotP_no b odd (rdV_no b ?_)
  have h0 : n = 0 := by have := h.1.size; simp [frsB] at this; omega
  have h2 := h.2
  rw [h0, List.drop_zero] at h2
  exact h2
theorem slotP_bad {b t : List UInt8} {L : List (List UInt8)} {n odd : Nat} (h : Scans b (t :: L) n) (hp : (partP t).1 = false) : slotP b odd = (0, []) := slotP_no b odd (rdV_other b t _ h.head hp)
theorem slotP_is {b t u : List UInt8} {L : List (List UInt8)} {n odd q : Nat} (h : Scans b (t :: L) n) (hp : partP t = (true, q, u)) : slotP b odd = if 1 ≤ q ∧ q % 2 = odd then (q, u) else (0, []) := by
  unfold slotP
  rw [rdV_yes b t _ q u h.head hp]
  simp only [true_and]
theorem Vs.pick_zero (V : Vs) : V.pick (0, []) = V := by unfold Vs.pick; rw [if_neg (by simp)]
def Recalled (w : World) (v g : Nat) (H : Nat → Prop) (V' : Vs) (w' : World) : Prop := Off (· = v) w w' ∧ ∃ H' : Nat → Prop, (∀ b, H' b → H b ∨ w.heap.size ≤ b) ∧ Vlt w' v g H' V'
theorem Recalled.same {w w' : World} {v g : Nat} {H : Nat → Prop} {V : Vs} (h : Vlt w v g H V) (hb : Below w.heap.size w w') : Recalled w v g H V w' := ⟨Off.of_below hb, H, fun _ q => .inl q, h.below hb⟩
/-- the number and the text are written into the vault -/
theorem Vlt.take {w w' : World} {v g q n c : Nat} {H : Nat → Prop} {V : Vs} {A : Option Addr} {t : List UInt8} (h : Vlt w v g H V) (ho : Own w 0 5 (.slice A n c) n t) (hn : ∀ b, (Value.slice A n c).ownBlock = some b → b ≠ v ∧ b < w.heap.size)
    (hr : w' = (w.setCell ⟨v, 1, none⟩ (.int .i64 (q : Int))).setCell ⟨v, 2, none⟩ (.slice A n c)) : Vlt w' v g (fun b => H b ∨ (Value.slice A n c).ownBlock = some b) ⟨q, t, V.recs⟩ := by
  subst hr
  obtain ⟨h1, h2, A', n', c', rv, hr, ho', hf, ht⟩ := h
  have hk : ∀ b, b ≠ v → ((w.setCell ⟨v, 1, none⟩ (.int .i64 (q : Int))).setCell ⟨v, 2, none⟩ (.slice A n c)).heap[b]? = w.heap[b]? := fun b hb => by
    rw [Below.heap_setCell _ ⟨v, 2, none⟩ _ b hb, Below.heap_setCell _ ⟨v, 1, none⟩ _ b hb]
  refine ⟨.inl h1, fun b qb => ?_, A, n, c, rv, (hr.set 1 _).set 2 _, ownsRow_keep ho fun b cs hb hb2 => (hk b (hn b hb).1).trans hb2, fun b hb => .inr hb, ?_⟩
  · have hs : ((w.setCell ⟨v, 1, none⟩ (.int .i64 (q : Int))).setCell ⟨v, 2, none⟩ (.slice A n c)).heap.size = w.heap.size := by simp [World.setCell]
    rw [hs]
    rcases qb with qb | qb
    · exact h2 b qb
    · exact (hn b qb).2
  · refine (ht.keep fun b cs e hb he hb2 => ?_).mono (fun b q => .inl q)
    by_cases hbv : b = v
    · subst hbv
      have := cells_inj hb2 hr
      rcases he with rfl | rfl <;> exact absurd this (by decide)
    · exact (hk b hbv).trans hb2
set_option maxRecDepth 100000 in
set_option maxHeartbeats 4000000 in
theorem recall1_any {S : Tp} (b1 b2 v g K odd : Nat) (z : Int) (hz : (z = 1 ∧ odd = 1) ∨ (z = 2 ∧ odd = 0)) (H : Nat → Prop) (V : Vs) (F : Nat → Nat → Prop) (w : World) (h1 : Row w b1 27 #[.pointer (some ⟨v, 0, none⟩)]) (h2 : Row w b2 3 #[.int .i64 z]) (hV : Vlt w v g H V) (h : Tap w g F S) (hok : S.ok K) (hK : K ≤ 100000000) (hTb : Tab 2 w) :
    Calls Tryd.prog 49 #[.pointer (some ⟨b1, 0, none⟩), .pointer (some ⟨b2, 0, none⟩)] w fun e w' => e = .returned (.int .i64 (S.readE z)) ∧ Recalled w v g H (V.pick (slotP (S.readL z) odd)) w' := by
  obtain ⟨H1, H2, A, n, c, rv, hr, ho, hf, ht⟩ := id hV
  have c1 : w.cell? ⟨b1, 0, none⟩ = some (.pointer (some ⟨v, 0, none⟩)) := h1.cell 0
  have c2 : w.cell? ⟨b2, 0, none⟩ = some (.int .i64 z) := h2.cell 0
  have HB1 := Lib.hid h1
  have HB2 := Lib.hid h2
  have HVR := Lib.hid hr
  have HV := Lib.hid hV
  have HFr := Lib.hid (frames_any (S := S) v g K z _ F w hr rfl h hok hK hTb)
  obtain ⟨L, s, hS⟩ := Scans.exists (S.readL z)
  have HS := Lib.hid hS
  generalize S.readL z = l at *
  generalize S.readE z = E at *
  cases L with
  | nil =>
    rw [slotP_none hS, Vs.pick_zero]
    clear hz h1 h2 hV h hok hK hTb H1 H2 hr ho hf ht hS HB1 HB2
    go_enter Tryd.func49, Tryd.ntmps49
    go_wp2_with (go_at_call 50; refine HFr.out.mono ?_; rintro e1 w1 ⟨L', k, s', A1, c1', rfl, hs1, ho1, hb1⟩; obtain ⟨rfl, rfl⟩ := (by exact Scans.one hs1 HS.out); obtain rfl : k = 0 := ho1.length.symm; have HBb := Lib.hid hb1; clear hs1 ho1 hb1)
    go_ret
    exact ⟨rfl, Recalled.same HV.out HBb.out⟩
  | cons t L =>
    obtain ⟨ok, q, u, hp⟩ : ∃ ok q u, partP t = (ok, q, u) := ⟨_, _, _, rfl⟩
    have HP := Lib.hid hp
    have HRd := Lib.hid (fun A n c w hB hn => read_any A n c t w hB hn)
    have htl := hS.1.2.2 t (by simp)
    cases ok with
    | false =>
      rw [slotP_bad hS (by rw [hp]), Vs.pick_zero]
      clear hz h1 h2 hV h hok hK hTb H1 H2 hr ho hf ht hS hp
      go_enter Tryd.func49, Tryd.ntmps49
      go_wp2_with (first
        | (go_at_call 50; refine HFr.out.mono ?_; rintro e1 w1 ⟨L', k, s', A1, c1', rfl, hs1, ho1, hb1⟩; obtain ⟨rfl, rfl⟩ := (by exact Scans.one hs1 HS.out); have hk1 : 0 < k := (by have := ho1.length; simp at this; omega); have hk0 : ((k : Int) == 0) = false := (by have := ho1.length; simp at this; simp; omega); obtain ⟨bb, off, A2, c2', t2, rfl, hlt2, hg2, hcell2, hcc2, hBs2⟩ := (by exact ho1.bss.get (k := 0) (by have := ho1.length; simp at this; omega)); have ht2 : t2 = t := (by simpa using hg2.symm); rw [ht2] at hcell2 hBs2; rw [Nat.add_zero] at hcell2; have HBs2 := Lib.hid hBs2; have HBb := Lib.hid hb1; have hsz1 := hb1.size; have HNN := Lib.hid htl; clear hs1 ho1 hb1 hg2 hBs2 hcc2)
        | (go_at_call 51; refine (HRd.out A2 t.length c2' w1 HBs2.out (by have := HNN.out; omega)).mono ?_; rintro e3 w3 ⟨ok3, q3, u3, A3, c3, rfl, hp3, hp4, hc3, ho3, hb3⟩; obtain rfl : false = ok3 := (by rw [← hp3, HP.out]); clear hp3 hp4; have hsz3 := hb3.size; have HO3 := Lib.hid ho3; have HBc := Lib.hid ((hb3.mono hsz1).alloc (by omega) (.cells #[.int .i64 0, .slice none 0 0] 68)); clear ho3 hc3)
        | ((with_reducible refine wpList_store_row Tryd.agg68 rfl (.tmp 6) (.tmp 24) rfl w3.heap.size #[.int .i64 (q3 : Int), .slice A3 u3.length c3] rfl rfl 68 #[.int .i64 0, .slice none 0 0] (Row.new w3 68 _) (size2 _ _ _ _) (size2 _ _ _ _) (one2 _ _ _ _) ?_); intro w5 hr5 ho5; have HR5 := Lib.hid hr5; have HO5 := Lib.hid ho5; have hsz5 := ho5.size; clear hr5))
      have hw35 : w3.heap.size + 1 ≤ w5.heap.size := by have := HO5.out.size; simpa using this
      have hvw := HV.out.lt
      have BC : Below w.heap.size w w5 := HBb.out.trans (HBc.out.trans (HO5.out.below (by omega) (by simp; omega)))
      have k1 : w5.cell? ⟨b1, 0, none⟩ = some (.pointer (some ⟨v, 0, none⟩)) := (HB1.out.below BC HB1.out.lt).cell 0
      have k2 : w5.cell? ⟨b2, 0, none⟩ = some (.int .i64 z) := (HB2.out.below BC HB2.out.lt).cell 0
      have k3 : w5.cell? ⟨v, 1, none⟩ = some (.int .i64 (V.gen : Int)) := (HVR.out.below BC hvw).cell 1
      have k4 : w5.cell? ⟨w3.heap.size, 0, none⟩ = some _ := HR5.out.cell 0
      have k5 : w5.cell? ⟨w3.heap.size, 1, none⟩ = some _ := HR5.out.cell 1
      have k6 : w5.cell? ⟨v, 2, none⟩ = some (.slice A n c) := (HVR.out.below BC hvw).cell 2
      have f1 := (HVR.out.below BC hvw).frozen 1
      have f2 := (HVR.out.below BC hvw).frozen 2
      go_quiet (fail)
      go_wp2_with fail
      go_ret
      exact ⟨rfl, Recalled.same HV.out (below_drewN BC _)⟩
    | true =>
      rw [slotP_is hS hp]
      by_cases hsl : slotNo q = z
      · have hodd : q % 2 = odd := by
          rcases slotNo_or q with ⟨e, q1⟩ | ⟨e, q1⟩ <;> omega
        by_cases hgt : V.gen < q
        · have hpk : V.pick (if 1 ≤ q ∧ q % 2 = odd then (q, u) else (0, [])) = ⟨q, u, V.recs⟩ := by
            rw [if_pos ⟨by omega, hodd⟩]; unfold Vs.pick; rw [if_pos hgt]
          rw [hpk]
          clear hz h1 h2 hV h hok hK hTb H1 H2 hr ho hf ht hS hp hodd hpk
          have d1 : ((slotNo q : Int) == z) = true := by rw [hsl]; simp
          have d2 : decide ((V.gen : Int) < (q : Int)) = true := by simp; omega
          clear hsl
          go_enter Tryd.func49, Tryd.ntmps49
          go_wp2_with (first
            | (go_at_call 50; refine HFr.out.mono ?_; rintro e1 w1 ⟨L', k, s', A1, c1', rfl, hs1, ho1, hb1⟩; obtain ⟨rfl, rfl⟩ := (by exact Scans.one hs1 HS.out); have hk1 : 0 < k := (by have := ho1.length; simp at this; omega); have hk0 : ((k : Int) == 0) = false := (by have := ho1.length; simp at this; simp; omega); obtain ⟨bb, off, A2, c2', t2, rfl, hlt2, hg2, hcell2, hcc2, hBs2⟩ := (by exact ho1.bss.get (k := 0) (by have := ho1.length; simp at this; omega)); have ht2 : t2 = t := (by simpa using hg2.symm); rw [ht2] at hcell2 hBs2; rw [Nat.add_zero] at hcell2; have HBs2 := Lib.hid hBs2; have HBb := Lib.hid hb1; have hsz1 := hb1.size; have HNN := Lib.hid htl; clear hs1 ho1 hb1 hg2 hBs2 hcc2)
            | (go_at_call 51; refine (HRd.out A2 t.length c2' w1 HBs2.out (by have := HNN.out; omega)).mono ?_; rintro e3 w3 ⟨ok3, q3, u3, A3, c3, rfl, hp3, hp4, hc3, ho3, hb3⟩; obtain rfl : true = ok3 := (by rw [← hp3, HP.out]); have hp5 := hp4 rfl; rw [HP.out] at hp5; obtain ⟨rfl, rfl⟩ : q = q3 ∧ u = u3 := (by simpa using hp5); clear hp3 hp4 hp5; have hsz3 := hb3.size; have HO3 := Lib.hid ho3; have HBc := Lib.hid ((hb3.mono hsz1).alloc (by omega) (.cells #[.int .i64 0, .slice none 0 0] 68)); clear ho3 hc3)
            | ((with_reducible refine wpList_store_row Tryd.agg68 rfl (.tmp 6) (.tmp 24) rfl w3.heap.size #[.int .i64 (q : Int), .slice A3 u.length c3] rfl rfl 68 #[.int .i64 0, .slice none 0 0] (Row.new w3 68 _) (size2 _ _ _ _) (size2 _ _ _ _) (one2 _ _ _ _) ?_); intro w5 hr5 ho5; have HR5 := Lib.hid hr5; have HO5 := Lib.hid ho5; have hsz5 := ho5.size; clear hr5))
          have hw35 : w3.heap.size + 1 ≤ w5.heap.size := by have := HO5.out.size; simpa using this
          have hvw := HV.out.lt
          have BC : Below w.heap.size w w5 := HBb.out.trans (HBc.out.trans (HO5.out.below (by omega) (by simp; omega)))
          have k1 : w5.cell? ⟨b1, 0, none⟩ = some (.pointer (some ⟨v, 0, none⟩)) := (HB1.out.below BC HB1.out.lt).cell 0
          have k2 : w5.cell? ⟨b2, 0, none⟩ = some (.int .i64 z) := (HB2.out.below BC HB2.out.lt).cell 0
          have k3 : w5.cell? ⟨v, 1, none⟩ = some (.int .i64 (V.gen : Int)) := (HVR.out.below BC hvw).cell 1
          have k4 : w5.cell? ⟨w3.heap.size, 0, none⟩ = some _ := HR5.out.cell 0
          have k5 : w5.cell? ⟨w3.heap.size, 1, none⟩ = some _ := HR5.out.cell 1
          have k6 : w5.cell? ⟨v, 2, none⟩ = some (.slice A n c) := (HVR.out.below BC hvw).cell 2
          have f1 := (HVR.out.below BC hvw).frozen 1
          have f2 := (HVR.out.below BC hvw).frozen 2
          go_quiet ((go_at_call 40; exact quiet_same (slotOf_any q _)))
          go_wp2_with fail
          go_ret
          have B35 : Below w3.heap.size w3 w5 := ((Below.refl w3.heap.size w3).alloc (Nat.le_refl _) _).trans (HO5.out.below (Nat.le_refl _) (by simp))
          have HO35 := (HO3.out.below B35)
          have VV := (HV.out.below BC).below (below_drewN (Below.refl _ w5) nq)
          have T := VV.take (t := u) (q := q) (show Own (w5.drewN nq) 0 5 (.slice A3 u.length c3) u.length u from HO35.mono (Nat.zero_le _)) (fun b hb => by have := HO3.out.lt b hb; exact ⟨by omega, by show b < w5.heap.size; omega⟩) rfl
          refine ⟨rfl, (Off.of_below (below_drewN BC nq)).trans ((Off.setCell (F := fun x => x = v) _ v 1 _ rfl).trans (Off.setCell (F := fun x => x = v) _ v 2 _ rfl) (fun x h => .inl h)) (fun x h => .inl h), _, fun b hb => ?_, T⟩
          rcases hb with hb | hb
          · exact .inl hb
          · exact .inr (by have := HO3.out.lt b hb; omega)
        · have hpk : V.pick (if 1 ≤ q ∧ q % 2 = odd then (q, u) else (0, [])) = V := by
            by_cases hc : 1 ≤ q ∧ q % 2 = odd
            · rw [if_pos hc]; unfold Vs.pick; rw [if_neg hgt]
            · rw [if_neg hc, Vs.pick_zero]
          rw [hpk]
          clear hz h1 h2 hV h hok hK hTb H1 H2 hr ho hf ht hS hp hodd hpk
          have d1 : ((slotNo q : Int) == z) = true := by rw [hsl]; simp
          have d2 : decide ((V.gen : Int) < (q : Int)) = false := by simp; omega
          clear hsl
          go_enter Tryd.func49, Tryd.ntmps49
          go_wp2_with (first
            | (go_at_call 50; refine HFr.out.mono ?_; rintro e1 w1 ⟨L', k, s', A1, c1', rfl, hs1, ho1, hb1⟩; obtain ⟨rfl, rfl⟩ := (by exact Scans.one hs1 HS.out); have hk1 : 0 < k := (by have := ho1.length; simp at this; omega); have hk0 : ((k : Int) == 0) = false := (by have := ho1.length; simp at this; simp; omega); obtain ⟨bb, off, A2, c2', t2, rfl, hlt2, hg2, hcell2, hcc2, hBs2⟩ := (by exact ho1.bss.get (k := 0) (by have := ho1.length; simp at this; omega)); have ht2 : t2 = t := (by simpa using hg2.symm); rw [ht2] at hcell2 hBs2; rw [Nat.add_zero] at hcell2; have HBs2 := Lib.hid hBs2; have HBb := Lib.hid hb1; have hsz1 := hb1.size; have HNN := Lib.hid htl; clear hs1 ho1 hb1 hg2 hBs2 hcc2)
            | (go_at_call 51; refine (HRd.out A2 t.length c2' w1 HBs2.out (by have := HNN.out; omega)).mono ?_; rintro e3 w3 ⟨ok3, q3, u3, A3, c3, rfl, hp3, hp4, hc3, ho3, hb3⟩; obtain rfl : true = ok3 := (by rw [← hp3, HP.out]); have hp5 := hp4 rfl; rw [HP.out] at hp5; obtain ⟨rfl, rfl⟩ : q = q3 ∧ u = u3 := (by simpa using hp5); clear hp3 hp4 hp5; have hsz3 := hb3.size; have HO3 := Lib.hid ho3; have HBc := Lib.hid ((hb3.mono hsz1).alloc (by omega) (.cells #[.int .i64 0, .slice none 0 0] 68)); clear ho3 hc3)
            | ((with_reducible refine wpList_store_row Tryd.agg68 rfl (.tmp 6) (.tmp 24) rfl w3.heap.size #[.int .i64 (q : Int), .slice A3 u.length c3] rfl rfl 68 #[.int .i64 0, .slice none 0 0] (Row.new w3 68 _) (size2 _ _ _ _) (size2 _ _ _ _) (one2 _ _ _ _) ?_); intro w5 hr5 ho5; have HR5 := Lib.hid hr5; have HO5 := Lib.hid ho5; have hsz5 := ho5.size; clear hr5))
          have hw35 : w3.heap.size + 1 ≤ w5.heap.size := by have := HO5.out.size; simpa using this
          have hvw := HV.out.lt
          have BC : Below w.heap.size w w5 := HBb.out.trans (HBc.out.trans (HO5.out.below (by omega) (by simp; omega)))
          have k1 : w5.cell? ⟨b1, 0, none⟩ = some (.pointer (some ⟨v, 0, none⟩)) := (HB1.out.below BC HB1.out.lt).cell 0
          have k2 : w5.cell? ⟨b2, 0, none⟩ = some (.int .i64 z) := (HB2.out.below BC HB2.out.lt).cell 0
          have k3 : w5.cell? ⟨v, 1, none⟩ = some (.int .i64 (V.gen : Int)) := (HVR.out.below BC hvw).cell 1
          have k4 : w5.cell? ⟨w3.heap.size, 0, none⟩ = some _ := HR5.out.cell 0
          have k5 : w5.cell? ⟨w3.heap.size, 1, none⟩ = some _ := HR5.out.cell 1
          have k6 : w5.cell? ⟨v, 2, none⟩ = some (.slice A n c) := (HVR.out.below BC hvw).cell 2
          have f1 := (HVR.out.below BC hvw).frozen 1
          have f2 := (HVR.out.below BC hvw).frozen 2
          go_quiet ((go_at_call 40; exact quiet_same (slotOf_any q _)))
          go_wp2_with fail
          go_ret
          exact ⟨rfl, Recalled.same HV.out (below_drewN BC _)⟩
      · have hodd : ¬ q % 2 = odd := by
          rcases slotNo_or q with ⟨e, q1⟩ | ⟨e, q1⟩ <;> omega
        rw [if_neg (fun h => hodd h.2), Vs.pick_zero]
        clear hz h1 h2 hV h hok hK hTb H1 H2 hr ho hf ht hS hp hodd
        have d1 : ((slotNo q : Int) == z) = false := by simpa using hsl
        clear hsl
        go_enter Tryd.func49, Tryd.ntmps49
        go_wp2_with (first
          | (go_at_call 50; refine HFr.out.mono ?_; rintro e1 w1 ⟨L', k, s', A1, c1', rfl, hs1, ho1, hb1⟩; obtain ⟨rfl, rfl⟩ := (by exact Scans.one hs1 HS.out); have hk1 : 0 < k := (by have := ho1.length; simp at this; omega); have hk0 : ((k : Int) == 0) = false := (by have := ho1.length; simp at this; simp; omega); obtain ⟨bb, off, A2, c2', t2, rfl, hlt2, hg2, hcell2, hcc2, hBs2⟩ := (by exact ho1.bss.get (k := 0) (by have := ho1.length; simp at this; omega)); have ht2 : t2 = t := (by simpa using hg2.symm); rw [ht2] at hcell2 hBs2; rw [Nat.add_zero] at hcell2; have HBs2 := Lib.hid hBs2; have HBb := Lib.hid hb1; have hsz1 := hb1.size; have HNN := Lib.hid htl; clear hs1 ho1 hb1 hg2 hBs2 hcc2)
          | (go_at_call 51; refine (HRd.out A2 t.length c2' w1 HBs2.out (by have := HNN.out; omega)).mono ?_; rintro e3 w3 ⟨ok3, q3, u3, A3, c3, rfl, hp3, hp4, hc3, ho3, hb3⟩; obtain rfl : true = ok3 := (by rw [← hp3, HP.out]); have hp5 := hp4 rfl; rw [HP.out] at hp5; obtain ⟨rfl, rfl⟩ : q = q3 ∧ u = u3 := (by simpa using hp5); clear hp3 hp4 hp5; have hsz3 := hb3.size; have HO3 := Lib.hid ho3; have HBc := Lib.hid ((hb3.mono hsz1).alloc (by omega) (.cells #[.int .i64 0, .slice none 0 0] 68)); clear ho3 hc3)
          | ((with_reducible refine wpList_store_row Tryd.agg68 rfl (.tmp 6) (.tmp 24) rfl w3.heap.size #[.int .i64 (q : Int), .slice A3 u.length c3] rfl rfl 68 #[.int .i64 0, .slice none 0 0] (Row.new w3 68 _) (size2 _ _ _ _) (size2 _ _ _ _) (one2 _ _ _ _) ?_); intro w5 hr5 ho5; have HR5 := Lib.hid hr5; have HO5 := Lib.hid ho5; have hsz5 := ho5.size; clear hr5))
        have hw35 : w3.heap.size + 1 ≤ w5.heap.size := by have := HO5.out.size; simpa using this
        have hvw := HV.out.lt
        have BC : Below w.heap.size w w5 := HBb.out.trans (HBc.out.trans (HO5.out.below (by omega) (by simp; omega)))
        have k1 : w5.cell? ⟨b1, 0, none⟩ = some (.pointer (some ⟨v, 0, none⟩)) := (HB1.out.below BC HB1.out.lt).cell 0
        have k2 : w5.cell? ⟨b2, 0, none⟩ = some (.int .i64 z) := (HB2.out.below BC HB2.out.lt).cell 0
        have k3 : w5.cell? ⟨v, 1, none⟩ = some (.int .i64 (V.gen : Int)) := (HVR.out.below BC hvw).cell 1
        have k4 : w5.cell? ⟨w3.heap.size, 0, none⟩ = some _ := HR5.out.cell 0
        have k5 : w5.cell? ⟨w3.heap.size, 1, none⟩ = some _ := HR5.out.cell 1
        have k6 : w5.cell? ⟨v, 2, none⟩ = some (.slice A n c) := (HVR.out.below BC hvw).cell 2
        have f1 := (HVR.out.below BC hvw).frozen 1
        have f2 := (HVR.out.below BC hvw).frozen 2
        go_quiet ((go_at_call 40; exact quiet_same (slotOf_any q _)))
        go_wp2_with fail
        go_ret
        exact ⟨rfl, Recalled.same HV.out (below_drewN BC _)⟩
end Go.Proofs.YtgiobcpljbpmiaaDoor
