/-
  The document's Part, slot, pick: a record of a number and a text, a slot's snapshot.
-/
import Derived.Test.YtgiobcpljbpmiaaDoorVltD
namespace Go.Proofs.YtgiobcpljbpmiaaDoor
open Go.RowKit
/-- what Part answers -/
def RPartE (w : World) (l : List UInt8) (e : Ending) (w' : World) : Prop :=
  ∃ (ok : Bool) (g : Nat) (t : List UInt8) (A : Option Addr) (c : Nat), e = .returned (.tuple #[.int .i64 (g : Int), .slice A t.length c, .bool ok]) ∧ (ok = true → partP l = (true, g, t)) ∧ (ok = false → (partP l).1 = false) ∧ t.length ≤ c ∧ g ≤ 1099511627776 ∧ Own w' w.heap.size 5 (.slice A t.length c) t.length t ∧ Below w.heap.size w w'
theorem rpartE_is {w w' : World} {l t : List UInt8} {m g c : Nat} {A : Option Addr} (ok : Bool) (hm : t.length = m) (h : ok = true → partP l = (true, g, t)) (h2 : ok = false → (partP l).1 = false) (hg : g ≤ 1099511627776) (hc : m ≤ c) (ho : Own w' w.heap.size 5 (.slice A m c) m t) (hb : Below w.heap.size w w') : RPartE w l (.returned (.tuple #[.int .i64 (g : Int), .slice A m c, .bool ok])) w' := by
  subst hm
  exact ⟨ok, g, t, A, c, rfl, h, h2, hc, hg, ho, hb⟩
set_option maxRecDepth 100000 in
set_option maxHeartbeats 2000000 in
theorem RPart_any (A : Option Addr) (n c : Nat) (l : List UInt8) (w : World) (hB : Bs w A n l) (hnc : n ≤ c) (hn : n ≤ 900000) : Calls Tryd.prog 48 #[.slice A n c] w (RPartE w l) := by
  obtain ⟨b, hr⟩ := rdr_of A n c l w hB hnc
  have hl := hB.1
  obtain ⟨E1, g, S1, q1⟩ := triple (sNum 0 l 1099511627776)
  obtain ⟨E2, t, S2, q2⟩ := triple (sText E1 (l.drop S1) 262144)
  obtain ⟨E3, q3⟩ : ∃ E3, sEnd E2 ((l.drop S1).drop S2) = E3 := ⟨_, rfl⟩
  have hp := partP_read l E1 g S1 E2 t S2 q1 q2
  rw [q3] at hp
  have hg : g ≤ 1099511627776 := by have := sNum_le l 1099511627776 (by omega); rw [q1] at this; simp only at this; omega
  have HN := Lib.hid (RefRNum_any w.heap.size b 0 l 1099511627776 _ hr (by omega))
  have hd1 : (l.drop S1).length ≤ 1000000000 := by rw [List.length_drop]; omega
  have HT := Lib.hid (fun wq (h : Rdr wq 101 w.heap.size b E1 (l.drop S1)) => RefText_r w.heap.size b E1 (l.drop S1) 262144 wq h hd1 (by omega) (by omega))
  have HE := Lib.hid (fun wq (h : Rdr wq 101 w.heap.size b E2 ((l.drop S1).drop S2)) => RefEnd_any w.heap.size b E2 ((l.drop S1).drop S2) wq h)
  rw [q1] at HN
  rw [q2] at HT
  rw [q3] at HE
  unfold RNum at HN
  unfold RText at HT
  unfold REnd at HE
  simp only at HN HT HE
  have hb0 : Below w.heap.size w (w.alloc (.cells #[.slice A n c, .int .i64 0] 101)) := (Below.refl _ _).alloc (Nat.le_refl _) _
  have HB0 := Lib.hid hb0
  obtain ⟨m, hm⟩ : ∃ m, t.length = m := ⟨_, rfl⟩
  have HM := Lib.hid hm
  rw [hm] at HT
  have HP := Lib.hid hp
  have hwr : wrap64 (g : Int) = (g : Int) := by unfold wrap64; omega
  have fin : ∀ (w1 w2 w3 : World) (A1 : Option Addr) (c1 : Nat), m ≤ c1 → Only w.heap.size (w.alloc (.cells #[.slice A n c, .int .i64 0] 101)) w1 → Own w2 w1.heap.size 5 (.slice A1 m c1) m t → Only w.heap.size w1 w2 → Only w.heap.size w2 w3 → RPartE w l (.returned (.tuple #[.int .i64 (g : Int), .slice A1 m c1, .bool (E3 == 0)])) w3 := fun w1 w2 w3 A1 c1 hc o1 ho o2 o3 => by
    have b1 : Below w.heap.size w w1 := hb0.trans (o1.below (Nat.le_refl _) hb0.size)
    have b2 : Below w.heap.size w w2 := b1.trans (o2.below (Nat.le_refl _) b1.size)
    have b3 : Below w.heap.size w w3 := b2.trans (o3.below (Nat.le_refl _) b2.size)
    have hlt : w.heap.size < w1.heap.size := Nat.lt_of_lt_of_le (by simp) o1.size
    refine rpartE_is _ hm (fun h => hp.1 (by simpa using h)) (fun h => hp.2 (by simpa using h)) hg hc ((own_only ho o3 hlt).mono (Nat.le_of_lt hlt)) b3
  have HFin := Lib.hid fin
  clear hr hB hl q1 q2 q3 hp hd1 hb0 hm fin
  go_enter Tryd.func48, Tryd.ntmps48
  go_wp2_with fail
  refine HN.out.mono ?_
  rintro e1 w1 ⟨rfl, hr1, ho1⟩
  have HR1 := Lib.hid hr1
  have HO1 := Lib.hid ho1
  clear hr1 ho1
  go_wp2_with fail
  refine (HT.out w1 HR1.out).mono ?_
  rintro e2 w2 ⟨A2, c2, rfl, hc2, ho2, hr2, hn2⟩
  have HR2 := Lib.hid hr2
  have HO2 := Lib.hid ho2
  have HN2 := Lib.hid hn2
  clear hr2 ho2 hn2
  go_wp2_with fail
  refine (HE.out w2 HR2.out).mono ?_
  rintro e3 w3 ⟨rfl, hr3, hn3⟩
  have HN3 := Lib.hid hn3
  clear hr3 hn3
  go_wp2_with fail
  go_ret3
  exact HFin.out w1 w2 w3 A2 c2 hc2 HO1.out HO2.out HN2.out HN3.out
theorem ok_yes {ok P : Bool} (h : ok = false → P = false) (hp : P = true) : ok = true := by
  cases ok with
  | true => rfl
  | false => rw [h rfl] at hp; cases hp
theorem ok_no {α : Type} {ok : Bool} {p : Bool × α} {y : α} (h : ok = true → p = (true, y)) (hp : ¬ p.1 = true) : ok = false := by
  cases ok with
  | false => rfl
  | true => exact absurd (by rw [h rfl]) hp
/-- what slot answers -/
def SlotE (w : World) (s : Nat × List UInt8) (e : Ending) (w' : World) : Prop :=
  ∃ (A : Option Addr) (c : Nat), e = .returned (.tuple #[.int .i64 (s.1 : Int), .slice A s.2.length c]) ∧ Own w' w.heap.size 5 (.slice A s.2.length c) s.2.length s.2 ∧ Below w.heap.size w w'
theorem slotE_no {w w' : World} {s : Nat × List UInt8} (h : s = (0, [])) (hb : Below w.heap.size w w') : SlotE w s (.returned (.tuple #[.int .i64 0, .slice none 0 0])) w' := by
  subst h
  exact ⟨none, 0, rfl, Own.nil _ _ _, hb⟩
theorem slotP_eq (b t u : List UInt8) (s g odd : Nat) (h : rdFr b = (true, t, s)) (hp : partP t = (true, g, u)) : slotP b odd = if 1 ≤ g ∧ g % 2 = odd then (g, u) else (0, []) := by
  unfold slotP
  rw [rdV_yes b t s g u h hp]
  simp only [true_and]
set_option maxRecDepth 100000 in
set_option maxHeartbeats 2000000 in
theorem slot_any (A : Option Addr) (n c : Nat) (l : List UInt8) (odd : Nat) (w : World) (hB : Bs w A n l) (hnc : n ≤ c) (hn : n ≤ 900000) (hF : First w) (hT : Tab 1 w) : Calls Tryd.prog 45 #[.slice A n c, .int .i64 (odd : Int)] w (SlotE w (slotP l odd)) := by
  have HC := Lib.hid (First_any A n c l w hB hnc hn hF hT)
  clear hB hF hT
  by_cases hok : (rdFr l).1 = true
  · obtain ⟨t0, s0, hr⟩ : ∃ t0 s0, rdFr l = (true, t0, s0) := ⟨_, _, by rw [← hok]⟩
    have ht0 := (rdFr_is _ _ _ hr).2.2
    by_cases hpk : (partP t0).1 = true
    · obtain ⟨g, u, hp⟩ : ∃ g u, partP t0 = (true, g, u) := ⟨_, _, by rw [← hpk]⟩
      have hg := (partP_is _ _ _ hp).2.1
      have HQ := Lib.hid (slotP_eq l t0 u s0 g odd hr hp)
      have HR := Lib.hid hr
      have HP := Lib.hid hp
      clear hr hp hok hpk
      by_cases hg1 : g < 1
      · have dg : ((g : Int) < 1) := by omega
        have HS := Lib.hid (HQ.out.trans (if_neg (by omega)))
        go_enter Tryd.func45, Tryd.ntmps45
        go_wp2_with (first
          | (go_at_call 47; refine HC.out.mono ?_; rintro e1 w1 ⟨ok, t, s1, A3, c3, rfl, hok1, hok2, hc3, ho3, hb3⟩; obtain rfl : ok = true := hok1.trans (by rw [HR.out]); obtain ⟨rfl, rfl⟩ : t0 = t ∧ s0 = s1 := (by have h := (HR.out.symm.trans (hok2 rfl)); injection h with _ h; injection h with h1 h2; exact ⟨h1, h2⟩); clear hok1 hok2; have HB3 := Lib.hid hb3; have HO3 := Lib.hid ho3; clear hb3 ho3)
          | (go_at_call 48; refine (RPart_any A3 t0.length c3 t0 w1 HO3.out.bs hc3 (by omega)).mono ?_; rintro e2 w2 ⟨ok, g2, u2, A4, c4, rfl, hk1, hk2, hc4, hg4, ho4, hb4⟩; obtain rfl : ok = true := ok_yes hk2 (by rw [HP.out]); obtain ⟨rfl, rfl⟩ : g = g2 ∧ u = u2 := (by have h := (HP.out.symm.trans (hk1 rfl)); injection h with _ h; injection h with h1 h2; exact ⟨h1, h2⟩); clear hk1 hk2; have HB4 := Lib.hid hb4; have HO4 := Lib.hid ho4; clear hb4 ho4))
        go_ret2
        exact slotE_no HS.out (HB3.out.trans (HB4.out.mono HB3.out.size))
      · have dg : ¬ ((g : Int) < 1) := by omega
        by_cases hpar : g % 2 = odd
        · have dn : ((g : Int) % 2 != (odd : Int)) = false := by simp; omega
          have dm : (decide ((g : Int) < 1) || ((g : Int) % 2 != (odd : Int))) = false := by rw [dn]; simp; omega
          have HS := Lib.hid (HQ.out.trans (if_pos ⟨by omega, hpar⟩))
          clear hpar
          go_enter Tryd.func45, Tryd.ntmps45
          go_wp2_with (first
            | (go_at_call 47; refine HC.out.mono ?_; rintro e1 w1 ⟨ok, t, s1, A3, c3, rfl, hok1, hok2, hc3, ho3, hb3⟩; obtain rfl : ok = true := hok1.trans (by rw [HR.out]); obtain ⟨rfl, rfl⟩ : t0 = t ∧ s0 = s1 := (by have h := (HR.out.symm.trans (hok2 rfl)); injection h with _ h; injection h with h1 h2; exact ⟨h1, h2⟩); clear hok1 hok2; have HB3 := Lib.hid hb3; have HO3 := Lib.hid ho3; clear hb3 ho3)
            | (go_at_call 48; refine (RPart_any A3 t0.length c3 t0 w1 HO3.out.bs hc3 (by omega)).mono ?_; rintro e2 w2 ⟨ok, g2, u2, A4, c4, rfl, hk1, hk2, hc4, hg4, ho4, hb4⟩; obtain rfl : ok = true := ok_yes hk2 (by rw [HP.out]); obtain ⟨rfl, rfl⟩ : g = g2 ∧ u = u2 := (by have h := (HP.out.symm.trans (hk1 rfl)); injection h with _ h; injection h with h1 h2; exact ⟨h1, h2⟩); clear hk1 hk2; have HB4 := Lib.hid hb4; have HO4 := Lib.hid ho4; clear hb4 ho4))
          go_ret2
          rw [HS.out]
          exact ⟨A4, c4, rfl, HO4.out.mono HB3.out.size, HB3.out.trans (HB4.out.mono HB3.out.size)⟩
        · have dn : ((g : Int) % 2 != (odd : Int)) = true := by simp; omega
          have dm : (decide ((g : Int) < 1) || ((g : Int) % 2 != (odd : Int))) = true := by rw [dn]; simp
          have HS := Lib.hid (HQ.out.trans (if_neg (fun h => hpar h.2)))
          clear hpar
          go_enter Tryd.func45, Tryd.ntmps45
          go_wp2_with (first
            | (go_at_call 47; refine HC.out.mono ?_; rintro e1 w1 ⟨ok, t, s1, A3, c3, rfl, hok1, hok2, hc3, ho3, hb3⟩; obtain rfl : ok = true := hok1.trans (by rw [HR.out]); obtain ⟨rfl, rfl⟩ : t0 = t ∧ s0 = s1 := (by have h := (HR.out.symm.trans (hok2 rfl)); injection h with _ h; injection h with h1 h2; exact ⟨h1, h2⟩); clear hok1 hok2; have HB3 := Lib.hid hb3; have HO3 := Lib.hid ho3; clear hb3 ho3)
            | (go_at_call 48; refine (RPart_any A3 t0.length c3 t0 w1 HO3.out.bs hc3 (by omega)).mono ?_; rintro e2 w2 ⟨ok, g2, u2, A4, c4, rfl, hk1, hk2, hc4, hg4, ho4, hb4⟩; obtain rfl : ok = true := ok_yes hk2 (by rw [HP.out]); obtain ⟨rfl, rfl⟩ : g = g2 ∧ u = u2 := (by have h := (HP.out.symm.trans (hk1 rfl)); injection h with _ h; injection h with h1 h2; exact ⟨h1, h2⟩); clear hk1 hk2; have HB4 := Lib.hid hb4; have HO4 := Lib.hid ho4; clear hb4 ho4))
          go_ret2
          exact slotE_no HS.out (HB3.out.trans (HB4.out.mono HB3.out.size))
    · have HS := Lib.hid (slotP_no l odd (rdV_other l t0 s0 hr (by simpa using hpk)))
      have HR := Lib.hid hr
      have HPk := Lib.hid hpk
      clear hr hok hpk
      go_enter Tryd.func45, Tryd.ntmps45
      go_wp2_with (first
        | (go_at_call 47; refine HC.out.mono ?_; rintro e1 w1 ⟨ok, t, s1, A3, c3, rfl, hok1, hok2, hc3, ho3, hb3⟩; obtain rfl : ok = true := hok1.trans (by rw [HR.out]); obtain ⟨rfl, rfl⟩ : t0 = t ∧ s0 = s1 := (by have h := (HR.out.symm.trans (hok2 rfl)); injection h with _ h; injection h with h1 h2; exact ⟨h1, h2⟩); clear hok1 hok2; have HB3 := Lib.hid hb3; have HO3 := Lib.hid ho3; clear hb3 ho3)
        | (go_at_call 48; refine (RPart_any A3 t0.length c3 t0 w1 HO3.out.bs hc3 (by omega)).mono ?_; rintro e2 w2 ⟨ok, g2, u2, A4, c4, rfl, hk1, hk2, hc4, hg4, ho4, hb4⟩; obtain rfl : ok = false := ok_no hk1 HPk.out; clear hk1 hk2; have HB4 := Lib.hid hb4; have HO4 := Lib.hid ho4; clear hb4 ho4))
      go_ret2
      exact slotE_no HS.out (HB3.out.trans (HB4.out.mono HB3.out.size))
  · have HS := Lib.hid (slotP_no l odd (rdV_no l (by simpa using hok)))
    have HK := Lib.hid (show (rdFr l).1 = false by simpa using hok)
    clear hok
    go_enter Tryd.func45, Tryd.ntmps45
    go_wp2_with (go_at_call 47; refine HC.out.mono ?_; rintro e1 w1 ⟨ok, t, s1, A3, c3, rfl, hok1, hok2, hc3, ho3, hb3⟩; obtain rfl : ok = false := hok1.trans HK.out; clear hok1 hok2)
    go_ret2
    exact slotE_no HS.out hb3
set_option maxRecDepth 100000 in
theorem pick_own (s1 s2 : Nat × List UInt8) (G : Nat) (T : List UInt8) (hp : pickP s1 s2 = (G, T)) (c d : Nat) (A B : Option Addr) (base : Nat) (w : World) (hA : Own w base 5 (.slice A s1.2.length c) s1.2.length s1.2) (hB : Own w base 5 (.slice B s2.2.length d) s2.2.length s2.2) :
    Calls Tryd.prog 46 #[.int .i64 (s1.1 : Int), .slice A s1.2.length c, .int .i64 (s2.1 : Int), .slice B s2.2.length d] w fun e w' => ∃ A5 c5, e = .returned (.tuple #[.int .i64 (G : Int), .slice A5 T.length c5]) ∧ Own w base 5 (.slice A5 T.length c5) T.length T ∧ w = w' := by
  obtain ⟨g, t⟩ := s1
  obtain ⟨h, u⟩ := s2
  simp only at hA hB
  unfold pickP at hp
  simp only at hp
  have HA := Lib.hid hA
  have HB := Lib.hid hB
  clear hA hB
  by_cases hc : g < h
  · rw [if_pos hc] at hp
    obtain ⟨rfl, rfl⟩ := Prod.mk.inj hp
    have e : ((g : Int) < (h : Int)) := by omega
    clear hc hp
    go_enter Tryd.func46, Tryd.ntmps46
    go_wp2
    go_ret2
    exact ⟨B, d, rfl, HB.out, rfl⟩
  · rw [if_neg hc] at hp
    obtain ⟨rfl, rfl⟩ := Prod.mk.inj hp
    have e : ¬ ((g : Int) < (h : Int)) := by omega
    clear hc hp
    go_enter Tryd.func46, Tryd.ntmps46
    go_wp2
    go_ret2
    exact ⟨A, c, rfl, HA.out, rfl⟩
end Go.Proofs.YtgiobcpljbpmiaaDoor
