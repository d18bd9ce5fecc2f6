/-
  What (*sha.Hash).Write does: a hash of the message m becomes one of m and the bytes behind it; nothing else changes.
-/
import Derived.Test.YtiidcnjhjojhoaaDoorHash
import Derived.Test.YtiidcnjhjojhoaaDoorPad
import Derived.Test.YtiidcnjhjojhoaaDoorJoin
import Derived.Deep.RegionLaw
import Derived.Deep.RegionWith
namespace Go.Proofs.YtiidcnjhjojhoaaDoor
open Go.RowKit
theorem Tryd.under61 : Tryd.prog.underlying 59 = some (.array 64 5) := by kernel_rfl
theorem Tryd.agg63 : AggType Tryd.prog 61 73 := ⟨_, Tryd.underlying61, rfl, by kernel_rfl⟩
theorem Tab.only {b g : Nat} {w w' : World} (h : Tab b w) (ho : Only g w w') (hb : b ≠ g) : Tab b w' :=
  ⟨Nat.lt_of_lt_of_le h.1 ho.size, fun t ht => (World.cell?_of_block (w := w) (a := ⟨b, t, none⟩) (ho.block b h.1 hb)).trans (h.2 t ht)⟩
theorem bs_part {w : World} {g : Nat} {s : S8} {P : List UInt8} {n : Nat} (h : Row w g 61 (hcells s P n)) (hP : P.length = 64) : Bs w (some ⟨g, 8, none⟩) 64 P := by
  refine ⟨hP, fun k x hx => ⟨g, 8, rfl, h.lt, ?_⟩⟩
  rw [h.cell, hcells_byte _ _ _ _ ((List.getElem?_eq_some_iff.1 hx).1), hx]; rfl
theorem row_words {w : World} {g : Nat} {s : S8} {P : List UInt8} {n : Nat} (h : Row w g 61 (hcells s P n)) (r : S8) :
    Row ((((((((w.setCell ⟨g, 0, none⟩ (.int .u32 r.a)).setCell ⟨g, 1, none⟩ (.int .u32 r.b)).setCell ⟨g, 2, none⟩ (.int .u32 r.c)).setCell ⟨g, 3, none⟩ (.int .u32 r.d)).setCell ⟨g, 4, none⟩ (.int .u32 r.e)).setCell ⟨g, 5, none⟩ (.int .u32 r.f)).setCell ⟨g, 6, none⟩ (.int .u32 r.g)).setCell ⟨g, 7, none⟩ (.int .u32 r.h)) g 61 (hcells r P n) := by
  have h8 := (((((((h.set 0 (.int .u32 r.a)).set 1 (.int .u32 r.b)).set 2 (.int .u32 r.c)).set 3 (.int .u32 r.d)).set 4 (.int .u32 r.e)).set 5 (.int .u32 r.f)).set 6 (.int .u32 r.g)).set 7 (.int .u32 r.h)
  rwa [hcells_set_words] at h8
theorem only_words (w : World) (g : Nat) (r : S8) :
    Only g w ((((((((w.setCell ⟨g, 0, none⟩ (.int .u32 r.a)).setCell ⟨g, 1, none⟩ (.int .u32 r.b)).setCell ⟨g, 2, none⟩ (.int .u32 r.c)).setCell ⟨g, 3, none⟩ (.int .u32 r.d)).setCell ⟨g, 4, none⟩ (.int .u32 r.e)).setCell ⟨g, 5, none⟩ (.int .u32 r.f)).setCell ⟨g, 6, none⟩ (.int .u32 r.g)).setCell ⟨g, 7, none⟩ (.int .u32 r.h)) :=
  (((((((Only.setCell g 0 _ _).trans (Only.setCell g 1 _ _)).trans (Only.setCell g 2 _ _)).trans (Only.setCell g 3 _ _)).trans (Only.setCell g 4 _ _)).trans (Only.setCell g 5 _ _)).trans (Only.setCell g 6 _ _)).trans (Only.setCell g 7 _ _)
theorem write_fin {g : Nat} {m l m1 l1 : List UInt8} {n c j n1 c1 k : Nat} {A1 A2 : Option Addr} {w wr w9 : World} (hj : j ≤ n) (hm1 : m ++ l.take j = m1) (hl1 : l.drop j = l1) (hn1 : n - j = n1) (hc1 : c - j = c1) (hk : k ≤ n1) (ho : Only g w wr)
    (hb : Bs wr A1 n1 l1) (ha : Apart A1 n1 g) (hA2 : ∀ w l, Bs w A1 n1 l → Bs w A2 (n1 - k) (l.drop k)) (hA3 : ∀ g, Apart A1 n1 g → Apart A2 (n1 - k) g) (h9 : HashAt w9 g (m1 ++ l1.take k)) (ho9 : Only g wr w9) :
    ∃ (j' : Nat) (A1' : Option Addr), j' ≤ n ∧ Value.slice A2 (n1 - k) (c1 - k) = .slice A1' (n - j') (c - j') ∧ HashAt w9 g (m ++ l.take j') ∧ Only g w w9 ∧ Bs w9 A1' (n - j') (l.drop j') ∧ Apart A1' (n - j') g := by
  have e1 : n - (j + k) = n1 - k := by omega
  have e2 : c - (j + k) = c1 - k := by omega
  refine ⟨j + k, A2, by omega, by rw [e1, e2], ?_, ho.trans ho9, ?_, by rw [e1]; exact hA3 g ha⟩
  · rw [List.take_add, ← List.append_assoc, hm1, hl1]; exact h9
  · rw [e1, ← List.drop_drop, hl1]; exact (hA2 wr l1 hb).only (hA3 g ha) ho9
theorem hcells_72 (s : S8) (P : List UInt8) (n : Nat) (hP : P.length = 64) : (hcells s P n)[72]? = some (.int .i64 (n : Int)) := by
  have := hcells_count s P n
  rwa [hP] at this
set_option maxRecDepth 100000 in
set_option maxHeartbeats 1000000 in
theorem Write_any (g : Nat) (m : List UInt8) (A : Option Addr) (n c : Nat) (l : List UInt8) (w : World) (hH : HashAt w g m) (hB : Bs w A n l) (hA : Apart A n g) (hnc : n ≤ c) (hT : Tab 1 w) (hg2 : 1 < g) (hlen : m.length + n ≤ 2305843009213693952) :
    Calls Tryd.prog 27 #[.pointer (some ⟨g, 0, none⟩), .slice A n c] w fun e w' => e = .returned (.tuple #[]) ∧ HashAt w' g (m ++ l) ∧ Only g w w' := by
  have HH := Lib.hid hH
  have HB := Lib.hid hB
  have HA := Lib.hid hA
  have HT := Lib.hid hT
  have HL := Lib.hid hB.1
  clear hH hB hA hT
  go_enter Tryd.func27, Tryd.ntmps27
  go_wp2_with fail
  go_loopw [1] (fun s wr => ∃ (j : Nat) (A1 : Option Addr), j ≤ n ∧ s = .slice A1 (n - j) (c - j) ∧ HashAt wr g (m ++ l.take j) ∧ Only g w wr ∧ Bs wr A1 (n - j) (l.drop j) ∧ Apart A1 (n - j) g) (fun s _ => lenOf s)
  case atStart => exact ⟨0, A, Nat.zero_le _, rfl, by simpa using HH.out, Only.refl _ _, by simpa using HB.out, HA.out⟩
  case round =>
    obtain ⟨j, A1, hj, rfl, hh, ho, hb, ha⟩ := hrel
    have hml : (m ++ l.take j).length = m.length + j := by rw [List.length_append, List.length_take, HL.out]; omega
    have hsplit : m ++ l = (m ++ l.take j) ++ l.drop j := by rw [List.append_assoc, List.take_append_drop]
    obtain ⟨m1, hm1⟩ : ∃ m1, m ++ l.take j = m1 := ⟨_, rfl⟩
    obtain ⟨l1, hl1⟩ : ∃ l1, l.drop j = l1 := ⟨_, rfl⟩
    obtain ⟨n1, hn1⟩ : ∃ n1, n - j = n1 := ⟨_, rfl⟩
    obtain ⟨c1, hc1⟩ : ∃ c1, c - j = c1 := ⟨_, rfl⟩
    rw [hm1] at hh hml
    rw [hl1, hn1] at hb
    rw [hn1] at ha
    rw [hn1, hc1]
    have hle1 : m1.length + n1 ≤ 2305843009213693952 := by omega
    have hnc1 : n1 ≤ c1 := by omega
    by_cases hlt : 0 < n1
    · obtain ⟨P, hP, hrow, hpt⟩ := hh
      obtain ⟨r, hr⟩ : ∃ r, m1.length % 64 = r := ⟨_, rfl⟩
      obtain ⟨L, hL⟩ : ∃ L, m1.length = L := ⟨_, rfl⟩
      obtain ⟨k, hk⟩ : ∃ k, Nat.min n1 (64 - r) = k := ⟨_, rfl⟩
      have hr64 : r < 64 := by omega
      have hk1 : k ≤ n1 := by rw [← hk]; exact Nat.min_le_left _ _
      have hk2 : k ≤ 64 - r := by rw [← hk]; exact Nat.min_le_right _ _
      have hk0 : 0 < k := by rw [← hk]; exact Nat.lt_min.2 ⟨hlt, by omega⟩
      have hcell : wr.cell? ⟨g, 72, none⟩ = some (.int .i64 (L : Int)) := by
        rw [← hL]; exact (hrow.cell 72).trans (hcells_72 _ P _ hP)
      have hrm : (L : Int).tmod 64 = (r : Int) := by rw [Int.tmod_eq_emod_of_nonneg (by omega)]; omega
      have hcut := run_cut (P := Tryd.prog) Tryd.under61 Tryd.size5 g 8 r (r : Int) rfl hr64
      have HR := Lib.hid hrow
      have HBb := Lib.hid hb
      have HKK := Lib.hid hk
      have hfit : 8 + r + k ≤ 73 := by omega
      have hLb : L + k ≤ 2305843009213693952 := by omega
      have HSZ := Lib.hid (show (hcells (compN m1 (m1.length / 64)) P m1.length).size = 73 by rw [hcells_size, hP])
      have HP := Lib.hid hP
      have HPT := Lib.hid hpt
      have HM := Lib.hid hm1
      have HLL := Lib.hid hl1
      have HN := Lib.hid hn1
      have HC := Lib.hid hc1
      have HRr := Lib.hid hr
      have HLn := Lib.hid hL
      have HSP := Lib.hid hsplit
      have HML := Lib.hid hml
      clear hrow hb hk hP hpt hm1 hl1 hn1 hc1 hr hL hsplit hml
      go_wp2_with fail
      go_region_law (refine step_copyK Tryd.byteTypes rfl (.tmp 18) (.tmp 19) rfl g (8 + r) (64 - r) (64 - r) A1 n1 c1 rfl rfl l1 61 _ HR.out HBb.out k HKK.out (by rw [HSZ.out]; exact hfit) ?_; intro w2 hr2 ho2; have HR2 := Lib.hid hr2; clear hr2)
      have HR3 := Lib.hid (show Row w2 g 61 (hcells (compN m1 (m1.length / 64)) (splice P r (l1.take k)) m1.length) by
        have h3 := HR2.out
        rwa [hcells_spl _ _ _ _ _ (by rw [List.length_take, HP.out]; omega)] at h3)
      have HPS := part_step m1 l1 P k HP.out HPT.out (by rw [HBb.out.1, HRr.out]; exact HKK.out.symm)
      rw [HRr.out] at HPS
      have HP2 := Lib.hid HPS.1
      clear HPS HR2
      have hcell2 : w2.cell? ⟨g, 72, none⟩ = some (.int .i64 (L : Int)) := by
        rw [← HLn.out]; exact (HR3.out.cell 72).trans (hcells_72 _ _ _ HP2.out)
      have hfz2 := HR3.out.frozen 72
      clear hcell hcut hrm
      by_cases h0 : (L + k) % 64 = 0
      · have h0' : ((L : Int) + (k : Int)) % 64 = 0 := by omega
        go_wp2_with (with_reducible refine wpList_tail Tryd.byteTypes rfl (.tmp 21) (.tmp 22) rfl A1 n1 c1 k rfl rfl hk1 hnc1 ?_; intro A2 hA2 hA3; have HA2 := Lib.hid hA2; have HA3 := Lib.hid hA3; clear hA2 hA3)
        obtain ⟨w3, hw3⟩ : ∃ w3, w3 = w2.setCell ⟨g, 72, none⟩ (.int .i64 ((L : Int) + (k : Int))) := ⟨_, rfl⟩
        rw [← hw3]
        obtain ⟨P2, hP2⟩ : ∃ P2, splice P r (l1.take k) = P2 := ⟨_, rfl⟩
        obtain ⟨a1, b1, c1', d1, e1, f1, g1, h1, hs⟩ : ∃ a1 b1 c1' d1 e1 f1 g1 h1, compN m1 (m1.length / 64) = ⟨a1, b1, c1', d1, e1, f1, g1, h1⟩ := ⟨_, _, _, _, _, _, _, _, rfl⟩
        have HOK := Lib.hid (compN_ok m1 (m1.length / 64))
        rw [hs] at HOK
        have hr4 : Row w3 g 61 (hcells ⟨a1, b1, c1', d1, e1, f1, g1, h1⟩ P2 (L + k)) := by
          rw [hw3, ← hs, ← hP2]
          have h4 := HR3.out.set 72 (.int .i64 ((L : Int) + (k : Int)))
          have h5 := hcells_set_count (compN m1 (m1.length / 64)) (splice P r (l1.take k)) m1.length (L + k) ((L : Int) + (k : Int)) (by omega)
          rw [HP2.out] at h5
          rwa [h5] at h4
        have HP2' := Lib.hid (show P2.length = 64 by rw [← hP2]; exact HP2.out)
        have ho3 : Only g w w3 := by rw [hw3]; exact ho.trans ((Only.refl g wr).drew.trans (ho2.trans (Only.setCell g 72 w2 _)))
        have HT3 := Lib.hid (HT.out.only ho3 (by omega))
        have HR4 := Lib.hid hr4
        have HW3 := Lib.hid hw3
        have HPP := Lib.hid hP2
        have HS := Lib.hid hs
        clear hr4 hw3 hP2 hs hcell2 hfz2
        have hcall := run_cut_all (P := Tryd.prog) Tryd.under61 Tryd.size5 g 8
        have x0 : w3.cell? ⟨g, 0, none⟩ = some (.int .u32 a1) := (HR4.out.cell 0).trans (hcells_word ⟨a1, b1, c1', d1, e1, f1, g1, h1⟩ P2 (L + k) 0 (by omega))
        have x1 : w3.cell? ⟨g, 1, none⟩ = some (.int .u32 b1) := (HR4.out.cell 1).trans (hcells_word ⟨a1, b1, c1', d1, e1, f1, g1, h1⟩ P2 (L + k) 1 (by omega))
        have x2 : w3.cell? ⟨g, 2, none⟩ = some (.int .u32 c1') := (HR4.out.cell 2).trans (hcells_word ⟨a1, b1, c1', d1, e1, f1, g1, h1⟩ P2 (L + k) 2 (by omega))
        have x3 : w3.cell? ⟨g, 3, none⟩ = some (.int .u32 d1) := (HR4.out.cell 3).trans (hcells_word ⟨a1, b1, c1', d1, e1, f1, g1, h1⟩ P2 (L + k) 3 (by omega))
        have x4 : w3.cell? ⟨g, 4, none⟩ = some (.int .u32 e1) := (HR4.out.cell 4).trans (hcells_word ⟨a1, b1, c1', d1, e1, f1, g1, h1⟩ P2 (L + k) 4 (by omega))
        have x5 : w3.cell? ⟨g, 5, none⟩ = some (.int .u32 f1) := (HR4.out.cell 5).trans (hcells_word ⟨a1, b1, c1', d1, e1, f1, g1, h1⟩ P2 (L + k) 5 (by omega))
        have x6 : w3.cell? ⟨g, 6, none⟩ = some (.int .u32 g1) := (HR4.out.cell 6).trans (hcells_word ⟨a1, b1, c1', d1, e1, f1, g1, h1⟩ P2 (L + k) 6 (by omega))
        have x7 : w3.cell? ⟨g, 7, none⟩ = some (.int .u32 h1) := (HR4.out.cell 7).trans (hcells_word ⟨a1, b1, c1', d1, e1, f1, g1, h1⟩ P2 (L + k) 7 (by omega))
        go_region_with (first
          | (go_at_call 34; (refine (spread_any _ _ P2 _ (by exact bs_part HR4.out HP2'.out) (by omega)).mono ?_; rintro e4 w4 ⟨rfl, hb4⟩; have HR5 := Lib.hid (Row.below (w := w3.drew) HR4.out hb4 HR4.out.lt); have y0 : w4.cell? ⟨g, 0, none⟩ = some (.int .u32 a1) := (HR5.out.cell 0).trans (hcells_word ⟨a1, b1, c1', d1, e1, f1, g1, h1⟩ P2 (L + k) 0 (by omega)); have y1 : w4.cell? ⟨g, 1, none⟩ = some (.int .u32 b1) := (HR5.out.cell 1).trans (hcells_word ⟨a1, b1, c1', d1, e1, f1, g1, h1⟩ P2 (L + k) 1 (by omega)); have y2 : w4.cell? ⟨g, 2, none⟩ = some (.int .u32 c1') := (HR5.out.cell 2).trans (hcells_word ⟨a1, b1, c1', d1, e1, f1, g1, h1⟩ P2 (L + k) 2 (by omega)); have y3 : w4.cell? ⟨g, 3, none⟩ = some (.int .u32 d1) := (HR5.out.cell 3).trans (hcells_word ⟨a1, b1, c1', d1, e1, f1, g1, h1⟩ P2 (L + k) 3 (by omega)); have y4 : w4.cell? ⟨g, 4, none⟩ = some (.int .u32 e1) := (HR5.out.cell 4).trans (hcells_word ⟨a1, b1, c1', d1, e1, f1, g1, h1⟩ P2 (L + k) 4 (by omega)); have y5 : w4.cell? ⟨g, 5, none⟩ = some (.int .u32 f1) := (HR5.out.cell 5).trans (hcells_word ⟨a1, b1, c1', d1, e1, f1, g1, h1⟩ P2 (L + k) 5 (by omega)); have y6 : w4.cell? ⟨g, 6, none⟩ = some (.int .u32 g1) := (HR5.out.cell 6).trans (hcells_word ⟨a1, b1, c1', d1, e1, f1, g1, h1⟩ P2 (L + k) 6 (by omega)); have y7 : w4.cell? ⟨g, 7, none⟩ = some (.int .u32 h1) := (HR5.out.cell 7).trans (hcells_word ⟨a1, b1, c1', d1, e1, f1, g1, h1⟩ P2 (L + k) 7 (by omega)); skip))
          | (go_at_call 33; (refine (work_any a1 b1 c1' d1 e1 f1 g1 h1 (wList P2 64) (wList_length _ _) _ (by exact Tab.below (w := w3.drew) HT3.out hb4) HOK.out).mono ?_; rintro e5 w5 ⟨rfl, hb5⟩; unfold v8; have HR6 := Lib.hid (HR5.out.below hb5 HR5.out.lt); have z0 : w5.cell? ⟨g, 0, none⟩ = some (.int .u32 a1) := (HR6.out.cell 0).trans (hcells_word ⟨a1, b1, c1', d1, e1, f1, g1, h1⟩ P2 (L + k) 0 (by omega)); have fz0 := HR6.out.frozen 0; have z1 : w5.cell? ⟨g, 1, none⟩ = some (.int .u32 b1) := (HR6.out.cell 1).trans (hcells_word ⟨a1, b1, c1', d1, e1, f1, g1, h1⟩ P2 (L + k) 1 (by omega)); have fz1 := HR6.out.frozen 1; have z2 : w5.cell? ⟨g, 2, none⟩ = some (.int .u32 c1') := (HR6.out.cell 2).trans (hcells_word ⟨a1, b1, c1', d1, e1, f1, g1, h1⟩ P2 (L + k) 2 (by omega)); have fz2 := HR6.out.frozen 2; have z3 : w5.cell? ⟨g, 3, none⟩ = some (.int .u32 d1) := (HR6.out.cell 3).trans (hcells_word ⟨a1, b1, c1', d1, e1, f1, g1, h1⟩ P2 (L + k) 3 (by omega)); have fz3 := HR6.out.frozen 3; have z4 : w5.cell? ⟨g, 4, none⟩ = some (.int .u32 e1) := (HR6.out.cell 4).trans (hcells_word ⟨a1, b1, c1', d1, e1, f1, g1, h1⟩ P2 (L + k) 4 (by omega)); have fz4 := HR6.out.frozen 4; have z5 : w5.cell? ⟨g, 5, none⟩ = some (.int .u32 f1) := (HR6.out.cell 5).trans (hcells_word ⟨a1, b1, c1', d1, e1, f1, g1, h1⟩ P2 (L + k) 5 (by omega)); have fz5 := HR6.out.frozen 5; have z6 : w5.cell? ⟨g, 6, none⟩ = some (.int .u32 g1) := (HR6.out.cell 6).trans (hcells_word ⟨a1, b1, c1', d1, e1, f1, g1, h1⟩ P2 (L + k) 6 (by omega)); have fz6 := HR6.out.frozen 6; have z7 : w5.cell? ⟨g, 7, none⟩ = some (.int .u32 h1) := (HR6.out.cell 7).trans (hcells_word ⟨a1, b1, c1', d1, e1, f1, g1, h1⟩ P2 (L + k) 7 (by omega)); have fz7 := HR6.out.frozen 7; skip)))
        all_goals
          go_wp2_with fail
          refine ⟨write_fin hj HM.out HLL.out HN.out HC.out hk1 ho HBb.out ha HA2.out HA3.out ?_ ?_, by simp only [lenOf]; omega⟩
          · refine hash_end HP.out HPT.out (by rw [HBb.out.1, HRr.out]; exact HKK.out.symm) hk0 (by rw [HLn.out]; exact h0) ?_
            rw [HRr.out, HPP.out, HS.out, HLn.out]
            exact row_words HR6.out (workS ⟨a1, b1, c1', d1, e1, f1, g1, h1⟩ (wList P2 64))
          · have hw23 : Only g w2 w3 := by rw [HW3.out]; exact Only.setCell g 72 w2 _
            exact (Only.refl g wr).drew.trans (ho2.trans (hw23.trans ((Only.refl g w3).drew.trans ((Only.of_below hb4).trans ((Only.of_below hb5).trans (only_words w5 g (workS ⟨a1, b1, c1', d1, e1, f1, g1, h1⟩ (wList P2 64))))))))
      · have h0' : ¬ ((L : Int) + (k : Int)) % 64 = 0 := by omega
        go_wp2_with (with_reducible refine wpList_tail Tryd.byteTypes rfl (.tmp 21) (.tmp 22) rfl A1 n1 c1 k rfl rfl hk1 hnc1 ?_; intro A2 hA2 hA3; have HA2 := Lib.hid hA2; have HA3 := Lib.hid hA3; clear hA2 hA3)
        refine ⟨write_fin hj HM.out HLL.out HN.out HC.out hk1 ho HBb.out ha HA2.out HA3.out ?_ ?_, by simp only [lenOf]; omega⟩
        · refine hash_mid HP.out HPT.out (by rw [HBb.out.1, HRr.out]; exact HKK.out.symm) (by rw [HLn.out]; exact h0) ?_
          rw [HRr.out]
          have h4 := HR3.out.set 72 (.int .i64 ((L : Int) + (k : Int)))
          have h5 := hcells_set_count (compN m1 (m1.length / 64)) (splice P r (l1.take k)) m1.length (m1.length + k) ((L : Int) + (k : Int)) (by rw [HLn.out]; omega)
          rw [HP2.out] at h5
          rwa [h5] at h4
        · exact (Only.refl g wr).drew.trans (ho2.trans (Only.setCell g 72 w2 _))
    · have hjn : j = n := by omega
      subst hjn
      have HHH := Lib.hid hh
      clear hh
      go_wp2_with fail
      go_end0
      refine ⟨rfl, ?_, ho⟩
      rw [hsplit, hm1, List.drop_eq_nil_of_le (by rw [HL.out]; exact Nat.le_refl _), List.append_nil]
      exact HHH.out
end Go.Proofs.YtiidcnjhjojhoaaDoor
