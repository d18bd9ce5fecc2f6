/-
  What the document's own lead answers: where a proof of a place leads, its last digest first, and whether it has neither too few digests nor too many (it calls itself).
-/
import Derived.Test.YtojepkhooabjiaaDoorClimbA
namespace Go.Proofs.YtojepkhooabjiaaDoor
open Go.RowKit
/-- what lead answers -/
def LeadR (w : World) (r : Option (List UInt8)) (e : Ending) (w' : World) : Prop :=
  ∃ (f : List UInt8) (is : Bool), e = .returned (.tuple #[.agg (bcells f), .bool is]) ∧ f.length = 32 ∧ (match r with | some v => is = true ∧ v = f | none => is = false) ∧ Below w.heap.size w w'
set_option maxRecDepth 100000 in
set_option maxHeartbeats 1000000 in
theorem lead_one (d : List UInt8) (i : Int) (A : Option Addr) (m c : Nat) (P : List (List UInt8)) (w : World) (hd : d.length = 32) (hD : Ds w A m P) :
    Calls Tryd.prog 41 #[.agg (bcells d), .int .i64 i, .int .i64 1, .slice A m c] w (LeadR w (if P = [] then some d else none)) := by
  have HDS := Lib.hid (show (bcells d).size = 32 by rw [bcells_size, hd])
  have HDL := Lib.hid hd
  have hb0 := ((Below.refl w.heap.size w).alloc (Nat.le_refl _) (.cells (bcells d) 24)).alloc (by simp) (.cells lit32 24)
  have HB0 := Lib.hid ((Row.new w 24 (bcells d)).alloc (.cells lit32 24))
  have HZ0 := Lib.hid (Row.new1 w (.cells (bcells d) 24) 24 lit32)
  obtain ⟨bv, hbv⟩ : ∃ bv, ((m : Int) == 0) = bv := ⟨_, rfl⟩
  have HBV := Lib.hid hbv
  have HP := Lib.hid hD.1
  obtain ⟨r, hr⟩ : ∃ r, (if P = [] then some d else none) = r := ⟨_, rfl⟩
  have HRR := Lib.hid hr
  rw [hr]
  clear hd hD hr
  go_enter Tryd.func41, Tryd.ntmps41
  go_wp2_with (first
    | (with_reducible refine wpList_load_row Tryd.agg25 rfl (.tmp 4) rfl _ rfl 24 _ HB0.out HDS.out ?_)
    | (with_reducible refine wpList_store_row Tryd.agg25 rfl (.tmp 8) (.tmp 19) rfl _ _ rfl rfl 24 lit32 HZ0.out HDS.out lit32_size (bcells_one _) ?_; intro w9 hr9 ho9; have HR9 := Lib.hid hr9; clear hr9))
  refine bodyPost_ret (results_row2 Tryd.agg25 Tryd.results41 rfl rfl HR9.out HDS.out) rfl ⟨d, bv, rfl, HDL.out, ?_, hb0.trans (ho9.below (by omega) (by simp; omega))⟩
  have hp := HP.out
  have hb := HBV.out
  rw [← HRR.out]
  by_cases hq0 : P = []
  · rw [if_pos hq0]
    refine ⟨?_, rfl⟩
    rw [← hb]
    subst hq0
    have : m = 0 := hp.symm
    subst this
    rfl
  · rw [if_neg hq0]
    show bv = false
    rw [← hb]
    have : m ≠ 0 := fun h0 => hq0 (List.eq_nil_of_length_eq_zero (by omega))
    simp
    omega
set_option maxRecDepth 100000 in
set_option maxHeartbeats 1000000 in
theorem lead_none (d : List UInt8) (i : Int) (n : Nat) (A : Option Addr) (c : Nat) (w : World) (hn : n ≠ 1) :
    Calls Tryd.prog 41 #[.agg (bcells d), .int .i64 i, .int .i64 (n : Int), .slice A 0 c] w (LeadR w none) := by
  have hne : ((n : Int) == 1) = false := by simp; omega
  have hb0 := ((Below.refl w.heap.size w).alloc (Nat.le_refl _) (.cells (bcells d) 24)).alloc (by simp) (.cells lit32 24)
  have HZ0 := Lib.hid (Row.new1 w (.cells (bcells d) 24) 24 lit32)
  clear hn
  go_enter Tryd.func41, Tryd.ntmps41
  go_wp2_with (first
    | (with_reducible refine wpList_zeroD rfl rfl ?_)
    | (with_reducible refine wpList_store_row Tryd.agg25 rfl (.tmp 8) (.tmp 26) rfl _ _ rfl rfl 24 lit32 HZ0.out lit32_size lit32_size lit32_one ?_; intro w9 hr9 ho9; have HR9 := Lib.hid hr9; clear hr9))
  exact bodyPost_ret (results_row2 Tryd.agg25 Tryd.results41 rfl rfl HR9.out lit32_size) rfl ⟨zero32, false, rfl, zero32_length, rfl, hb0.trans (ho9.below (by omega) (by simp; omega))⟩
set_option maxRecDepth 100000 in
set_option maxHeartbeats 2000000 in
theorem lead_low (d : List UInt8) (i h n m : Nat) (A : Option Addr) (c : Nat) (P : List (List UInt8)) (x : List UInt8) (w : World) (r : Option (List UInt8)) (hd : d.length = 32) (h2 : 2 ≤ n) (hs : splitN n = h) (hn : n ≤ 9223372036854775807) (hi : i < h) (_hin : i < n) (hm : m ≤ 1024) (hc : m + 1 ≤ c) (hD : Ds w A (m + 1) (P ++ [x])) (hF : First w) (hT : Tab 1 w)
    (h1 : ∀ A' c' w', m ≤ c' → Ds w' A' m P → First w' → Tab 1 w' → Calls Tryd.prog 41 #[.agg (bcells d), .int .i64 (i : Int), .int .i64 (h : Int), .slice A' m c'] w' (LeadR w' r)) :
    Calls Tryd.prog 41 #[.agg (bcells d), .int .i64 (i : Int), .int .i64 (n : Int), .slice A (m + 1) c] w (LeadR w (r.map fun v => nodeL v x)) := by
  have hlt := splitN_lt h2
  rw [hs] at hlt
  have hPl : P.length = m := by have := hD.1; rw [List.length_append] at this; simpa using this
  have HSP := Lib.hid (fun w => show Calls Tryd.prog 30 #[.int .i64 (n : Int)] w fun e w' => e = .returned (.int .i64 (h : Int)) ∧ w = w' by have q := RefSplit_any n w h2 hn; rwa [hs] at q)
  have hne : ((n : Int) == 1) = false := by simp; omega
  have hle0 : (((m + 1 : Nat) : Int) == 0) = false := by simp; omega
  have hle1 : ((m : Int) + 1 == 0) = false := by simp; omega
  have i0 : (i : Int) < (h : Int) := by omega
  obtain ⟨b, off, y, rfl, hb, hy, hyl, hB⟩ := hD.get (k := m) (by omega)
  obtain rfl : x = y := by
    rw [List.getElem?_append_right (by omega), hPl, Nat.sub_self] at hy
    simpa using hy
  obtain ⟨o1, ho1⟩ : ∃ o, off + 32 * m = o := ⟨_, rfl⟩
  rw [ho1] at hB
  have HO1 := Lib.hid ho1
  have HXL := Lib.hid hyl
  have HXS := Lib.hid (show (bcells x).size = 32 by rw [bcells_size, hyl])
  have HDS := Lib.hid (show (bcells d).size = 32 by rw [bcells_size, hd])
  have hb0 := ((Below.refl w.heap.size w).alloc (Nat.le_refl _) (.cells (bcells d) 24)).alloc (by simp) (.cells lit32 24)
  have HB0 := Lib.hid ((Row.new w 24 (bcells d)).alloc (.cells lit32 24))
  have HZ0 := Lib.hid (Row.new1 w (.cells (bcells d) 24) 24 lit32)
  obtain ⟨wz, hwz⟩ : ∃ wz, (w.alloc (.cells (bcells d) 24)).alloc (.cells lit32 24) = wz := ⟨_, rfl⟩
  have hsz : w.heap.size + 1 < wz.heap.size := by rw [← hwz]; simp
  rw [hwz] at hb0 HB0 HZ0
  have HBX := Lib.hid (hB.below hb0).range
  have HD := Lib.hid hD
  have HPT := Lib.hid (show (P ++ [x]).take m = P by rw [← hPl, List.take_left])
  have HC := Lib.hid h1
  have HND := Lib.hid (fun v w hv hF hT => RefNode_any v x w hv HXL.out hF hT)
  have HNL := Lib.hid (fun v => nodeL_length v x)
  have HF := Lib.hid hF
  have HT := Lib.hid hT
  clear hd hs hn hi hD hF hT h1 hlt hPl hB hy hyl ho1 hb h2
  go_enter Tryd.func41, Tryd.ntmps41
  go_wp2_with (first
    | (go_at_call 30; refine (HSP.out _).mono ?_; rintro e1 w1 ⟨rfl, rfl⟩)
    | (with_reducible refine wpList_indexO rfl (.tmp 29) _ rfl b off (m + 1) c m o1 _ rfl rfl rfl (by omega) HO1.out ?_)
    | (with_reducible refine wpList_loadD rfl (.tmp 33) rfl b o1 x rfl HBX.out HXL.out ?_)
    | (with_reducible refine wpList_store_row Tryd.agg25 rfl (.tmp 11) (.tmp 34) rfl _ _ rfl rfl 24 lit32 (Row.new wz 24 lit32) HXS.out lit32_size (bcells_one _) ?_; intro w2 hr2 ho2; have HL2 := Lib.hid hr2; have b2 : Below wz.heap.size wz w2 := ((Below.refl _ _).alloc (Nat.le_refl _) _).trans (ho2.below (Nat.le_refl _) (by simp)); have hb2 := hb0.trans (b2.mono hb0.size); have HB2 := Lib.hid (HB0.out.below b2 (by omega)); have HZ2 := Lib.hid (HZ0.out.below b2 (by omega)); clear hr2)
    | (with_reducible refine wpList_headD rfl (.tmp 35) (.tmp 38) rfl (some ⟨b, off, none⟩) (m + 1) c m _ rfl rfl rfl (by omega) hc ?_; intro A3 d3 _; have HD3 := Lib.hid (show Ds w A3 m P by rw [← HPT.out]; exact d3 w _ HD.out); clear d3)
    | (with_reducible refine wpList_load_row Tryd.agg25 rfl (.tmp 4) rfl _ rfl 24 _ HB2.out HDS.out ?_)
    | (go_at_call 41; refine (HC.out A3 c w2 (by omega) (HD3.out.below hb2) (HF.out.below hb2) (HT.out.below hb2)).mono ?_; rintro e4 w4 ⟨f, is, rfl, hfl, hres, hb4⟩; have HFL := Lib.hid hfl; have HRS := Lib.hid hres; have HFS := Lib.hid (show (bcells f).size = 32 by rw [bcells_size, hfl]); have hlt2 := HL2.out.lt; have HL4 := Lib.hid (HL2.out.below hb4 hlt2); have HZ4 := Lib.hid (HZ2.out.below hb4 HZ2.out.lt); have hb4' := hb2.trans (hb4.mono hb2.size); clear hfl hres)
    | (with_reducible refine wpList_store_row Tryd.agg25 rfl (.tmp 13) (.tmp 49) rfl _ _ rfl rfl 24 lit32 (Row.new w4 24 lit32) HFS.out lit32_size (bcells_one _) ?_; intro w5 hr5 ho5; have HV5 := Lib.hid hr5; have b5 : Below w4.heap.size w4 w5 := ((Below.refl _ _).alloc (Nat.le_refl _) _).trans (ho5.below (Nat.le_refl _) (by simp)); have hb5 := hb4'.trans (b5.mono hb4'.size); have HL5 := Lib.hid (HL4.out.below b5 HL4.out.lt); have HZ5 := Lib.hid (HZ4.out.below b5 HZ4.out.lt); have HNS := Lib.hid (show (bcells (nodeL f x)).size = 32 by rw [bcells_size, nodeL_length]); clear hr5)
    | (with_reducible refine wpList_load_row Tryd.agg25 rfl (.tmp 13) rfl _ rfl 24 _ HV5.out HFS.out ?_)
    | (with_reducible refine wpList_load_row Tryd.agg25 rfl (.tmp 11) rfl _ rfl 24 _ HL5.out HXS.out ?_)
    | (go_at_call 15; refine (HND.out f w5 HFL.out (HF.out.below hb5) (HT.out.below hb5)).mono ?_; rintro e6 w6 ⟨rfl, hb6⟩; have HZ6 := Lib.hid (HZ5.out.below hb6 HZ5.out.lt); have hb6' := hb5.trans (hb6.mono hb5.size))
    | (with_reducible refine wpList_store_row Tryd.agg25 rfl (.tmp 8) (.tmp 53) rfl _ _ rfl rfl 24 lit32 HZ6.out HNS.out lit32_size (bcells_one _) ?_; intro w9 hr9 ho9; have HR9 := Lib.hid hr9; clear hr9))
  refine bodyPost_ret (results_row2 Tryd.agg25 Tryd.results41 rfl rfl HR9.out HNS.out) rfl ⟨_, is, rfl, HNL.out f, ?_, hb6'.trans (ho9.below (by omega) hb6'.size)⟩
  have hres := HRS.out
  cases r with
  | none => exact hres
  | some v => exact ⟨hres.1, by rw [hres.2]⟩
set_option maxRecDepth 100000 in
set_option maxHeartbeats 2000000 in
theorem lead_high (d : List UInt8) (i h n m : Nat) (I N : Nat) (hI : i - h = I) (hN : n - h = N) (A : Option Addr) (c : Nat) (P : List (List UInt8)) (x : List UInt8) (w : World) (r : Option (List UInt8)) (hd : d.length = 32) (h2 : 2 ≤ n) (hs : splitN n = h) (hn : n ≤ 9223372036854775807) (hi : h ≤ i) (hin : i < n) (hm : m ≤ 1024) (hc : m + 1 ≤ c) (hD : Ds w A (m + 1) (P ++ [x])) (hF : First w) (hT : Tab 1 w)
    (h1 : ∀ A' c' w', m ≤ c' → Ds w' A' m P → First w' → Tab 1 w' → Calls Tryd.prog 41 #[.agg (bcells d), .int .i64 (I : Int), .int .i64 (N : Int), .slice A' m c'] w' (LeadR w' r)) :
    Calls Tryd.prog 41 #[.agg (bcells d), .int .i64 (i : Int), .int .i64 (n : Int), .slice A (m + 1) c] w (LeadR w (r.map fun v => nodeL x v)) := by
  have hlt := splitN_lt h2
  rw [hs] at hlt
  have hPl : P.length = m := by have := hD.1; rw [List.length_append] at this; simpa using this
  have HSP := Lib.hid (fun w => show Calls Tryd.prog 30 #[.int .i64 (n : Int)] w fun e w' => e = .returned (.int .i64 (h : Int)) ∧ w = w' by have q := RefSplit_any n w h2 hn; rwa [hs] at q)
  have hne : ((n : Int) == 1) = false := by simp; omega
  have hle0 : (((m + 1 : Nat) : Int) == 0) = false := by simp; omega
  have hle1 : ((m : Int) + 1 == 0) = false := by simp; omega
  have i0 : ¬ (i : Int) < (h : Int) := by omega
  have e1 : wrap64 ((i : Int) - (h : Int)) = (I : Int) := by unfold wrap64; omega
  have e2 : wrap64 ((n : Int) - (h : Int)) = (N : Int) := by unfold wrap64; omega
  obtain ⟨b, off, y, rfl, hb, hy, hyl, hB⟩ := hD.get (k := m) (by omega)
  obtain rfl : x = y := by
    rw [List.getElem?_append_right (by omega), hPl, Nat.sub_self] at hy
    simpa using hy
  obtain ⟨o1, ho1⟩ : ∃ o, off + 32 * m = o := ⟨_, rfl⟩
  rw [ho1] at hB
  have HO1 := Lib.hid ho1
  have HXL := Lib.hid hyl
  have HXS := Lib.hid (show (bcells x).size = 32 by rw [bcells_size, hyl])
  have HDS := Lib.hid (show (bcells d).size = 32 by rw [bcells_size, hd])
  have hb0 := ((Below.refl w.heap.size w).alloc (Nat.le_refl _) (.cells (bcells d) 24)).alloc (by simp) (.cells lit32 24)
  have HB0 := Lib.hid ((Row.new w 24 (bcells d)).alloc (.cells lit32 24))
  have HZ0 := Lib.hid (Row.new1 w (.cells (bcells d) 24) 24 lit32)
  obtain ⟨wz, hwz⟩ : ∃ wz, (w.alloc (.cells (bcells d) 24)).alloc (.cells lit32 24) = wz := ⟨_, rfl⟩
  have hsz : w.heap.size + 1 < wz.heap.size := by rw [← hwz]; simp
  rw [hwz] at hb0 HB0 HZ0
  have HBX := Lib.hid (hB.below hb0).range
  have HD := Lib.hid hD
  have HPT := Lib.hid (show (P ++ [x]).take m = P by rw [← hPl, List.take_left])
  have HC := Lib.hid h1
  have HND := Lib.hid (fun v w hv hF hT => RefNode_any x v w HXL.out hv hF hT)
  have HNL := Lib.hid (fun v => nodeL_length x v)
  have HF := Lib.hid hF
  have HT := Lib.hid hT
  clear hd hs hn hi hin hD hF hT h1 hlt hPl hB hy hyl ho1 hb h2 hI hN
  go_enter Tryd.func41, Tryd.ntmps41
  go_wp2_with (first
    | (go_at_call 30; refine (HSP.out _).mono ?_; rintro e1 w1 ⟨rfl, rfl⟩)
    | (with_reducible refine wpList_indexO rfl (.tmp 29) _ rfl b off (m + 1) c m o1 _ rfl rfl rfl (by omega) HO1.out ?_)
    | (with_reducible refine wpList_loadD rfl (.tmp 33) rfl b o1 x rfl HBX.out HXL.out ?_)
    | (with_reducible refine wpList_store_row Tryd.agg25 rfl (.tmp 11) (.tmp 34) rfl _ _ rfl rfl 24 lit32 (Row.new wz 24 lit32) HXS.out lit32_size (bcells_one _) ?_; intro w2 hr2 ho2; have HL2 := Lib.hid hr2; have b2 : Below wz.heap.size wz w2 := ((Below.refl _ _).alloc (Nat.le_refl _) _).trans (ho2.below (Nat.le_refl _) (by simp)); have hb2 := hb0.trans (b2.mono hb0.size); have HB2 := Lib.hid (HB0.out.below b2 (by omega)); have HZ2 := Lib.hid (HZ0.out.below b2 (by omega)); clear hr2)
    | (with_reducible refine wpList_headD rfl (.tmp 35) (.tmp 38) rfl (some ⟨b, off, none⟩) (m + 1) c m _ rfl rfl rfl (by omega) hc ?_; intro A3 d3 _; have HD3 := Lib.hid (show Ds w A3 m P by rw [← HPT.out]; exact d3 w _ HD.out); clear d3)
    | (with_reducible refine wpList_load_row Tryd.agg25 rfl (.tmp 4) rfl _ rfl 24 _ HB2.out HDS.out ?_)
    | (go_at_call 41; refine (HC.out A3 c w2 (by omega) (HD3.out.below hb2) (HF.out.below hb2) (HT.out.below hb2)).mono ?_; rintro e4 w4 ⟨f, is, rfl, hfl, hres, hb4⟩; have HFL := Lib.hid hfl; have HRS := Lib.hid hres; have HFS := Lib.hid (show (bcells f).size = 32 by rw [bcells_size, hfl]); have hlt2 := HL2.out.lt; have HL4 := Lib.hid (HL2.out.below hb4 hlt2); have HZ4 := Lib.hid (HZ2.out.below hb4 HZ2.out.lt); have hb4' := hb2.trans (hb4.mono hb2.size); clear hfl hres)
    | (with_reducible refine wpList_store_row Tryd.agg25 rfl (.tmp 15) (.tmp 65) rfl _ _ rfl rfl 24 lit32 (Row.new w4 24 lit32) HFS.out lit32_size (bcells_one _) ?_; intro w5 hr5 ho5; have HV5 := Lib.hid hr5; have b5 : Below w4.heap.size w4 w5 := ((Below.refl _ _).alloc (Nat.le_refl _) _).trans (ho5.below (Nat.le_refl _) (by simp)); have hb5 := hb4'.trans (b5.mono hb4'.size); have HL5 := Lib.hid (HL4.out.below b5 HL4.out.lt); have HZ5 := Lib.hid (HZ4.out.below b5 HZ4.out.lt); have HNS := Lib.hid (show (bcells (nodeL x f)).size = 32 by rw [bcells_size, nodeL_length]); clear hr5)
    | (with_reducible refine wpList_load_row Tryd.agg25 rfl (.tmp 15) rfl _ rfl 24 _ HV5.out HFS.out ?_)
    | (with_reducible refine wpList_load_row Tryd.agg25 rfl (.tmp 11) rfl _ rfl 24 _ HL5.out HXS.out ?_)
    | (go_at_call 15; refine (HND.out f w5 HFL.out (HF.out.below hb5) (HT.out.below hb5)).mono ?_; rintro e6 w6 ⟨rfl, hb6⟩; have HZ6 := Lib.hid (HZ5.out.below hb6 HZ5.out.lt); have hb6' := hb5.trans (hb6.mono hb5.size))
    | (with_reducible refine wpList_store_row Tryd.agg25 rfl (.tmp 8) (.tmp 69) rfl _ _ rfl rfl 24 lit32 HZ6.out HNS.out lit32_size (bcells_one _) ?_; intro w9 hr9 ho9; have HR9 := Lib.hid hr9; clear hr9))
  refine bodyPost_ret (results_row2 Tryd.agg25 Tryd.results41 rfl rfl HR9.out HNS.out) rfl ⟨_, is, rfl, HNL.out f, ?_, hb6'.trans (ho9.below (by omega) hb6'.size)⟩
  have hres := HRS.out
  cases r with
  | none => exact hres
  | some v => exact ⟨hres.1, by rw [hres.2]⟩
theorem lead_any (d : List UInt8) (hd : d.length = 32) : ∀ (m i n : Nat) (A : Option Addr) (c : Nat) (P : List (List UInt8)) (w : World), 1 ≤ n → n ≤ 9223372036854775807 → i < n → m ≤ 1025 → m ≤ c → Ds w A m P → First w → Tab 1 w →
    Calls Tryd.prog 41 #[.agg (bcells d), .int .i64 (i : Int), .int .i64 (n : Int), .slice A m c] w (LeadR w (leadR nodeL d i n P.reverse))
  | 0, i, n, A, c, P, w, h1, hn, hi, hm, hc, hD, hF, hT => by
    obtain rfl : P = [] := List.eq_nil_of_length_eq_zero hD.1
    by_cases hn1 : n = 1
    · subst hn1
      have q := lead_one d (i : Int) A 0 c [] w hd hD
      rw [List.reverse_nil, leadR]
      exact q
    · have q := lead_none d (i : Int) n A c w hn1
      rw [List.reverse_nil, leadR, if_neg hn1]
      exact q
  | m + 1, i, n, A, c, P, w, h1, hn, hi, hm, hc, hD, hF, hT => by
    obtain ⟨P', x, rfl⟩ : ∃ P' x, P = P' ++ [x] := by
      have hl := hD.1
      rcases List.eq_nil_or_concat P with h | ⟨P', x, h⟩
      · subst h; simp at hl
      · exact ⟨P', x, by rw [h, List.concat_eq_append]⟩
    by_cases hn1 : n = 1
    · subst hn1
      have q := lead_one d (i : Int) A (m + 1) c _ w hd hD
      rw [List.reverse_append, List.reverse_singleton, List.singleton_append, leadR, if_pos rfl]
      rw [if_neg (by simp)] at q
      exact q
    · have h2 : 2 ≤ n := by omega
      have hlt := splitN_lt h2
      have hpos := splitN_pos n
      rw [List.reverse_append, List.reverse_singleton, List.singleton_append, leadR, if_neg hn1]
      by_cases hlow : i < splitN n
      · rw [if_pos hlow]
        exact lead_low d i (splitN n) n m A c P' x w _ hd h2 rfl hn hlow hi (by omega) hc hD hF hT
          (fun A' c' w' h1' h2' h3 h4 => lead_any d hd m i (splitN n) A' c' P' w' hpos (by omega) hlow (by omega) h1' h2' h3 h4)
      · rw [if_neg hlow]
        exact lead_high d i (splitN n) n m _ _ rfl rfl A c P' x w _ hd h2 rfl hn (by omega) hi (by omega) hc hD hF hT
          (fun A' c' w' h1' h2' h3 h4 => lead_any d hd m (i - splitN n) (n - splitN n) A' c' P' w' (by omega) (by omega) (by omega) (by omega) h1' h2' h3 h4)
end Go.Proofs.YtojepkhooabjiaaDoor
