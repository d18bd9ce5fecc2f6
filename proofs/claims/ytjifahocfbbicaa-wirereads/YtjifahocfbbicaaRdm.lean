/-
  What wire.Read and the methods Num, Text, List and End of its reader answer, of whatever bytes and behind whatever error.
-/
import Derived.Test.YtjifahocfbbicaaRdt
namespace Go.Proofs.Ytjifahocfbbicaa
open Go.RowKit
theorem Own.inB {w : World} {base : Nat} {e : TypeId} {A : Option Addr} {n c : Nat} {l : List UInt8} (h : Own w base e (.slice A n c) n l) (g : Nat) (hg : w.heap.size ≤ g) (hb : base ≤ g) : ∃ b, base ≤ b ∧ b ≠ g ∧ InB A n b := by
  rcases h.2 with ⟨_, hn⟩ | ⟨k, cap, cur, hv, hge, hk, _⟩
  · exact ⟨g + 1, by omega, by omega, .inl hn⟩
  · injection hv with h1 _ _
    subst h1
    have := (Array.getElem?_eq_some_iff.1 hk).1
    exact ⟨k, hge, by omega, .inr ⟨0, rfl⟩⟩
/-- a reader in new memory -/
def NewRdr (w : World) (l : List UInt8) (e : Ending) (w' : World) : Prop :=
  ∃ g b, e = .returned (.pointer (some ⟨g, 0, none⟩)) ∧ w.heap.size ≤ g ∧ w.heap.size ≤ b ∧ Rdr w' 61 g b 0 l ∧ Below w.heap.size w w'
set_option maxHeartbeats 400000 in
theorem Read_any (A : Option Addr) (n c : Nat) (l : List UInt8) (w : World) (hB : Bs w A n l) (hn : n ≤ 140737488355328) : Calls Try.prog 21 #[.slice A n c] w (NewRdr w l) := by
  have HC := Lib.hid (Clone_any A n c l w hB hn)
  have hl := hB.1
  unfold NewSlice at HC
  rw [hl] at HC
  clear hB
  go_enter Try.func21, Try.ntmps21
  go_wp2_with (go_at_call 40; refine HC.out.mono ?_; rintro e w1 ⟨A1, c1, rfl, hc1, hb1, ho1⟩; have hs1 := hb1.size)
  go_ret
  obtain ⟨b, hb, hbg, hI⟩ := ho1.inB w1.heap.size (Nat.le_refl _) hs1
  exact ⟨w1.heap.size, b, rfl, hs1, hb, ⟨A1, n, c1, Row.new w1 61 _, ho1.bs.below ((Below.refl _ _).alloc (Nat.le_refl _) _), hc1, hI, hbg⟩, hb1.alloc hs1 _⟩
def sNum (E : Int) (l : List UInt8) (most : Int) : Int × Nat × Nat := if E = 0 then rdLen l most else (E, 0, 0)
def sText (E : Int) (l : List UInt8) (most : Int) : Int × List UInt8 × Nat := if E = 0 then rdText l most else (E, [], 0)
def sList (E : Int) (l : List UInt8) (most each : Int) : Int × List (List UInt8) × Nat := if E = 0 then rdList l most each else (E, [], 0)
def sEnd (E : Int) (l : List UInt8) : Int := if E = 0 ∧ l ≠ [] then 43 else E
/-- the answer of Num -/
def RNum (w : World) (t : TypeId) (g b : Nat) (l : List UInt8) (r : Int × Nat × Nat) (e : Ending) (w' : World) : Prop :=
  e = .returned (.int .u64 (r.2.1 : Int)) ∧ Rdr w' t g b r.1 (l.drop r.2.2) ∧ Only g w w'
/-- the answer of Text -/
def RText (w : World) (t : TypeId) (g b : Nat) (l : List UInt8) (r : Int × List UInt8 × Nat) (e : Ending) (w' : World) : Prop :=
  ∃ A c, e = .returned (.slice A r.2.1.length c) ∧ r.2.1.length ≤ c ∧ Own w' w.heap.size 5 (.slice A r.2.1.length c) r.2.1.length r.2.1 ∧ Rdr w' t g b r.1 (l.drop r.2.2) ∧ Only g w w'
/-- the answer of List -/
def RList (w : World) (t : TypeId) (g b : Nat) (l : List UInt8) (r : Int × List (List UInt8) × Nat) (e : Ending) (w' : World) : Prop :=
  ∃ A c, e = .returned (.slice A r.2.1.length c) ∧ r.2.1.length ≤ c ∧ OwnL w' w.heap.size (.slice A r.2.1.length c) r.2.1.length r.2.1 ∧ Rdr w' t g b r.1 (l.drop r.2.2) ∧ Only g w w'
theorem bne0 {E : Int} (h : E ≠ 0) : (E != 0) = true := by simp [h]
set_option maxHeartbeats 1000000 in
theorem RNum_any (g b : Nat) (E : Int) (l : List UInt8) (most : Int) (w : World) (h : Rdr w 61 g b E l) (hl : l.length ≤ 1000000000) (h0 : 0 ≤ most) (hm : most < 18446744073709551616) :
    Calls Try.prog 22 #[.pointer (some ⟨g, 0, none⟩), .int .u64 most] w (RNum w 61 g b l (sNum E l most)) := by
  have H := Lib.hid h
  obtain ⟨A, n, c, hr, hB, hnc, hI, hbg⟩ := h
  have HR := Lib.hid hr
  have HB := Lib.hid hB
  have HI := Lib.hid hI
  have hn := hB.1
  clear hI
  by_cases hE : E = 0
  · subst hE
    have HN := Lib.hid (readNum_any A n c l g (.slice A n c) w hB hnc (by omega) hr)
    have hsz := rdNum_size l
    have hlt := rdNum_lt l
    have hE0 := rdNum_ok l
    have hcs := rdNum_cases l
    have HS := Lib.hid (show sNum 0 l most = rdLen l most from rfl)
    have c0 : w.cell? ⟨g, 0, none⟩ = some (.slice A n c) := hr.cell 0
    obtain ⟨E1, V1, S1, hq⟩ := triple (rdNum l)
    have HD : Hid (rdLen l most = if E1 = 0 then (if most < V1 then (42, 0, 0) else (E1, V1, S1)) else (E1, V1, S1)) := Lib.hid (by unfold rdLen; rw [hq])
    rw [hq] at HN hsz hlt hE0 hcs
    rw [hn] at hsz
    simp only at hsz hlt hE0
    have hV0 : E1 ≠ 0 → V1 = 0 := fun hx => by
      rcases hcs with ⟨_, h2⟩ | ⟨x, r, _, _, _, _, h2⟩
      · exact congrArg Prod.fst h2
      · exact absurd (congrArg Prod.fst h2) hx
    unfold Rd2 failV at HN
    simp only at HN
    generalize sNum 0 l most = q at *
    clear hr hB hq hcs
    by_cases hV : most < (V1 : Int)
    · have hE1 : E1 = 0 := by
        by_cases h : E1 = 0
        · exact h
        · have := hV0 h; omega
      have HQ := Lib.hid (show q = (42, 0, 0) by rw [HS.out, HD.out, if_pos hE1, if_pos hV])
      clear HD HS hE0 hV0
      go_enter Try.func22, Try.ntmps22
      go_wp2_with (first
        | (go_at_call 35; refine (Err_any g _ 0 _ HR.out).mono ?_; rintro e w1 ⟨rfl, rfl⟩)
        | (go_at_call 41; refine HN.out.mono ?_; rintro e w1 ⟨rfl, h1, h2⟩)
        | (go_at_call 42; refine (fail_any g _ _ 42 _ h1).mono ?_; rintro e w2 ⟨rfl, h3, h4⟩))
      go_ret
      rw [HQ.out]
      have ho := h2.trans h4
      exact ⟨rfl, ⟨A, n, c, h3, HB.out.only (HI.out.apart hbg) ho, hnc, HI.out, hbg⟩, ho⟩
    · have HQ := Lib.hid (show q = (E1, V1, S1) by rw [HS.out, HD.out, if_neg hV]; simp)
      clear HD HS hE0 hV0
      have hsnw : S1 ≤ n := hsz
      go_enter Try.func22, Try.ntmps22
      go_wp2_with (first
        | (go_at_call 35; refine (Err_any g _ 0 _ HR.out).mono ?_; rintro e w1 ⟨rfl, rfl⟩)
        | (go_at_call 41; refine HN.out.mono ?_; rintro e w1 ⟨rfl, h1, h2⟩; have k0 := h1.cell 0; have f0 := h1.frozen 0; have H1 := Lib.hid h1; have H2 := Lib.hid h2; simp only [List.getElem?_toArray, List.getElem?_cons_zero] at k0; clear h1 h2)
        | ((with_reducible refine wpList_from Try.byteTypes rfl (.tmp 29) (.tmp 30) rfl A n c S1 rfl rfl hsnw hnc ?_); intro A1 hA1 hI1))
      go_ret
      rw [HQ.out]
      have ho := H2.out.trans (Only.setCell g 0 w1 (.slice A1 (n - S1) (c - S1)))
      exact ⟨rfl, ⟨A1, n - S1, c - S1, row2_set0 H1.out _, (hA1 _ _ HB.out).only ((hI1 b HI.out).apart hbg) ho, by omega, hI1 b HI.out, hbg⟩, ho⟩
  · have HQ := Lib.hid (show sNum E l most = (E, 0, 0) by unfold sNum; rw [if_neg hE])
    have hE2 := bne0 hE
    generalize sNum E l most = q at *
    clear hr hB
    go_enter Try.func22, Try.ntmps22
    go_wp2_with (go_at_call 35; refine (Err_any g _ E _ HR.out).mono ?_; rintro e w1 ⟨rfl, rfl⟩)
    go_ret
    rw [HQ.out]
    exact ⟨rfl, H.out, Only.refl _ _⟩
set_option maxHeartbeats 1000000 in
theorem RText_any (g b : Nat) (E : Int) (l : List UInt8) (most : Int) (w : World) (h : Rdr w 61 g b E l) (hl : l.length ≤ 1000000000) (hm : most < 9223372036854775808) :
    Calls Try.prog 24 #[.pointer (some ⟨g, 0, none⟩), .int .i64 most] w (RText w 61 g b l (sText E l most)) := by
  have H := Lib.hid h
  obtain ⟨A, n, c, hr, hB, hnc, hI, hbg⟩ := h
  have HR := Lib.hid hr
  have HB := Lib.hid hB
  have HI := Lib.hid hI
  have hn := hB.1
  have hgw := hr.lt
  by_cases hE : E = 0
  · subst hE
    have HN := Lib.hid (readText_any A n c l g (.slice A n c) most w hB (hI.apart hbg) hnc (by omega) hr hm)
    have hsz := rdText_size l most
    have HS := Lib.hid (show sText 0 l most = rdText l most from rfl)
    have c0 : w.cell? ⟨g, 0, none⟩ = some (.slice A n c) := hr.cell 0
    obtain ⟨E1, T1, S1, hq⟩ := triple (rdText l most)
    rw [hq] at HN hsz HS
    rw [hn] at hsz
    simp only at hsz
    unfold RdT failV at HN
    simp only at HN
    generalize sText 0 l most = q at *
    clear hr hB hq hI
    have hsnw : S1 ≤ n := hsz
    go_enter Try.func24, Try.ntmps24
    go_wp2_with (first
      | (go_at_call 35; refine (Err_any g _ 0 _ HR.out).mono ?_; rintro e w1 ⟨rfl, rfl⟩)
      | (go_at_call 44; refine HN.out.mono ?_; rintro e w1 ⟨A2, c2, rfl, hc2, ho2, h1, h2⟩; have k0 := h1.cell 0; have f0 := h1.frozen 0; have H1 := Lib.hid h1; have H2 := Lib.hid h2; simp only [List.getElem?_toArray, List.getElem?_cons_zero] at k0; clear h1 h2)
      | ((with_reducible refine wpList_from Try.byteTypes rfl (.tmp 25) (.tmp 26) rfl A n c S1 rfl rfl hsnw hnc ?_); intro A1 hA1 hI1))
    go_ret
    rw [HS.out]
    have ho1 := Only.setCell g 0 w1 (.slice A1 (n - S1) (c - S1))
    have ho := H2.out.trans ho1
    exact ⟨A2, c2, rfl, hc2, own_only ho2 ho1 hgw, ⟨A1, n - S1, c - S1, row2_set0 H1.out _, (hA1 _ _ HB.out).only ((hI1 b HI.out).apart hbg) ho, by omega, hI1 b HI.out, hbg⟩, ho⟩
  · have HQ := Lib.hid (show sText E l most = (E, [], 0) by unfold sText; rw [if_neg hE])
    have hE2 := bne0 hE
    generalize sText E l most = q at *
    clear hr hB hI
    go_enter Try.func24, Try.ntmps24
    go_wp2_with (go_at_call 35; refine (Err_any g _ E _ HR.out).mono ?_; rintro e w1 ⟨rfl, rfl⟩)
    go_ret
    rw [HQ.out]
    exact ⟨none, 0, rfl, Nat.le_refl _, Own.nil _ _ _, H.out, Only.refl _ _⟩
set_option maxHeartbeats 1000000 in
theorem RList_any (g b : Nat) (E : Int) (l : List UInt8) (most each : Int) (w : World) (h : Rdr w 61 g b E l) (hl : l.length ≤ 1000000000) (hm : most < 9223372036854775808) (he : each < 9223372036854775808) :
    Calls Try.prog 27 #[.pointer (some ⟨g, 0, none⟩), .int .i64 most, .int .i64 each] w (RList w 61 g b l (sList E l most each)) := by
  have H := Lib.hid h
  obtain ⟨A, n, c, hr, hB, hnc, hI, hbg⟩ := h
  have HR := Lib.hid hr
  have HB := Lib.hid hB
  have HI := Lib.hid hI
  have hn := hB.1
  have hgw := hr.lt
  by_cases hE : E = 0
  · subst hE
    have HN := Lib.hid (readList_any A n c l g (.slice A n c) most each w hB (hI.apart hbg) hnc (by omega) hr hm he)
    have hsz := rdList_size l most each
    have HS := Lib.hid (show sList 0 l most each = rdList l most each from rfl)
    have c0 : w.cell? ⟨g, 0, none⟩ = some (.slice A n c) := hr.cell 0
    obtain ⟨E1, T1, S1, hq⟩ := triple (rdList l most each)
    rw [hq] at HN hsz HS
    rw [hn] at hsz
    simp only at hsz
    unfold RdL failV at HN
    simp only at HN
    generalize sList 0 l most each = q at *
    clear hr hB hq hI
    have hsnw : S1 ≤ n := hsz
    go_enter Try.func27, Try.ntmps27
    go_wp2_with (first
      | (go_at_call 35; refine (Err_any g _ 0 _ HR.out).mono ?_; rintro e w1 ⟨rfl, rfl⟩)
      | (go_at_call 45; refine HN.out.mono ?_; rintro e w1 ⟨A2, c2, rfl, hc2, ho2, h1, h2⟩; have k0 := h1.cell 0; have f0 := h1.frozen 0; have H1 := Lib.hid h1; have H2 := Lib.hid h2; simp only [List.getElem?_toArray, List.getElem?_cons_zero] at k0; clear h1 h2)
      | ((with_reducible refine wpList_from Try.byteTypes rfl (.tmp 28) (.tmp 29) rfl A n c S1 rfl rfl hsnw hnc ?_); intro A1 hA1 hI1))
    go_ret
    rw [HS.out]
    have ho1 := Only.setCell g 0 w1 (.slice A1 (n - S1) (c - S1))
    have ho := H2.out.trans ho1
    exact ⟨A2, c2, rfl, hc2, ho2.only ho1 hgw, ⟨A1, n - S1, c - S1, row2_set0 H1.out _, (hA1 _ _ HB.out).only ((hI1 b HI.out).apart hbg) ho, by omega, hI1 b HI.out, hbg⟩, ho⟩
  · have HQ := Lib.hid (show sList E l most each = (E, [], 0) by unfold sList; rw [if_neg hE])
    have hE2 := bne0 hE
    generalize sList E l most each = q at *
    clear hr hB hI
    go_enter Try.func27, Try.ntmps27
    go_wp2_with (go_at_call 35; refine (Err_any g _ E _ HR.out).mono ?_; rintro e w1 ⟨rfl, rfl⟩)
    go_ret
    rw [HQ.out]
    exact ⟨none, 0, rfl, Nat.le_refl _, OwnL.nil _ _, H.out, Only.refl _ _⟩
/-- the answer of End -/
def REnd (w : World) (t : TypeId) (g b : Nat) (l : List UInt8) (r : Int) (e : Ending) (w' : World) : Prop :=
  e = .returned (.int .i64 r) ∧ Rdr w' t g b r l ∧ Only g w w'
set_option maxHeartbeats 1000000 in
theorem REnd_any (g b : Nat) (E : Int) (l : List UInt8) (w : World) (h : Rdr w 61 g b E l) :
    Calls Try.prog 33 #[.pointer (some ⟨g, 0, none⟩)] w (REnd w 61 g b l (sEnd E l)) := by
  have H := Lib.hid h
  obtain ⟨A, n, c, hr, hB, hnc, hI, hbg⟩ := h
  have HR := Lib.hid hr
  have HB := Lib.hid hB
  have HI := Lib.hid hI
  have hn := hB.1
  by_cases hE : E = 0
  · subst hE
    have c0 : w.cell? ⟨g, 0, none⟩ = some (.slice A n c) := hr.cell 0
    by_cases hz : n = 0
    · have HQ := Lib.hid (show sEnd 0 l = 0 by unfold sEnd; rw [if_neg]; rintro ⟨_, h⟩; exact h (hB.empty hz))
      subst hz
      generalize sEnd 0 l = q at *
      clear hr hB hI
      go_enter Try.func33, Try.ntmps33
      go_wp2_with (go_at_call 35; refine (Err_any g _ 0 _ HR.out).mono ?_; rintro e w1 ⟨rfl, rfl⟩)
      go_ret
      rw [HQ.out]
      exact ⟨rfl, H.out, Only.refl _ _⟩
    · have HQ := Lib.hid (show sEnd 0 l = 43 by unfold sEnd; rw [if_pos]; exact ⟨rfl, fun h => hz (by rw [← hn, h]; rfl)⟩)
      have hz2 : (0 : Int) < (n : Int) := by omega
      generalize sEnd 0 l = q at *
      clear hr hB hI hn hz
      go_enter Try.func33, Try.ntmps33
      go_wp2_with (first
        | (go_at_call 35; refine (Err_any g _ 0 _ HR.out).mono ?_; rintro e w1 ⟨rfl, rfl⟩)
        | (go_at_call 42; refine (fail_any g _ _ 43 _ HR.out).mono ?_; rintro e w2 ⟨rfl, h3, h4⟩; have H3 := Lib.hid h3; have H4 := Lib.hid h4; clear h3 h4)
        | (go_at_call 35; refine (Err_any g _ 43 _ H3.out).mono ?_; rintro e w3 ⟨rfl, rfl⟩))
      go_ret
      rw [HQ.out]
      exact ⟨rfl, ⟨A, n, c, H3.out, HB.out.only (HI.out.apart hbg) H4.out, hnc, HI.out, hbg⟩, H4.out⟩
  · have HQ := Lib.hid (show sEnd E l = E by unfold sEnd; rw [if_neg]; rintro ⟨h, _⟩; exact hE h)
    have hE2 : (E == 0) = false := by simp [hE]
    generalize sEnd E l = q at *
    clear hr hB hI
    go_enter Try.func33, Try.ntmps33
    go_wp2_with (go_at_call 35; refine (Err_any g _ E _ HR.out).mono ?_; rintro e w1 ⟨rfl, rfl⟩)
    go_ret
    rw [HQ.out]
    exact ⟨rfl, H.out, Only.refl _ _⟩
end Go.Proofs.Ytjifahocfbbicaa
