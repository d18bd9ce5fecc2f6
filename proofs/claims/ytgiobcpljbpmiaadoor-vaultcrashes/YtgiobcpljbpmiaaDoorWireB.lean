/-
  Texts written and read; lists of texts; a byte read.
-/
import Derived.Test.YtgiobcpljbpmiaaDoorWireA
import Derived.Test.YtgiobcpljbpmiaaDoorWireR
import Derived.Deep.Matrix
import Derived.ProofKit
import Derived.ChangeOld
import Derived.Below
namespace Go.Proofs.YtgiobcpljbpmiaaDoor
open Go.ChangeShapes Go.WideShapes Go.ChangeAt Go.RowKit
set_option maxHeartbeats 400000 in
theorem Text_any (A : Option Addr) (n c : Nat) (l : List UInt8) (w : World) (hB : Bs w A n l) (hn : n ≤ 100000000000000) : Calls Tryd.prog 71 #[.slice A n c] w (S4NewSlice w (textB l)) := by
  have HB := Lib.hid hB
  have HT := Lib.hid (show textB l = numB n ++ l by rw [textB, hB.1])
  have HN := Lib.hid (Num_any n w (by omega))
  have hnl : (numB n).length ≤ 9 := by have := wide8 (N := n) (by omega); rw [numB_length]; omega
  clear hB
  generalize numB n = q at *
  go_enter Tryd.func71, Tryd.ntmps71
  go_wp2_with (first
    | (go_at_call 70; refine HN.out.mono ?_; rintro e w1 ⟨A1, c1, rfl, hc1, hb1, ho1⟩; have hs1 := hb1.size)
    | (at_builtin; refine wpList_app Tryd.byteTypes rfl (.tmp 6) (.tmp 7) rfl w.heap.size (.slice A1 q.length c1) q.length q rfl ho1 A n c l rfl (HB.out.below hb1) (by omega) hs1 ?_; intro A' c' w' hown hbel hgr))
  go_ret
  rw [HT.out]
  exact hown.newSlice (hb1.trans hbel)
/-- append(list, text) -/
theorem run_appT (ty : TypeId) (w : World) (base : Nat) (v : Value) (n : Nat) (L : List (List UInt8)) (hown : OwnL w base v n L) (tv : Value) (l : List UInt8) (ht : Own w base 5 tv l.length l)
    (b off c : Nat) (hcell : w.cell? ⟨b, off, none⟩ = some tv) (hn : n + 1 ≤ 1000000000000) (hbase : base ≤ w.heap.size) :
    ∃ A' c' w', (Builtin.append_ #[33, 33] ty #[v, .slice (some ⟨b, off, none⟩) 1 c]).run Tryd.prog w = .ok (.slice A' (n + 1) c') w' ∧ OwnL w' base (.slice A' (n + 1) c') (n + 1) (L ++ [l]) ∧ Below base w w' := by
  obtain ⟨vs, h1, h2, h3⟩ := hown
  obtain ⟨i, hi, hz, hsize, hby⟩ := info_parts (show (Tryd.prog.info? 32).map (fun i => (i.zero, i.size, i.bytes)) = some (some (.slice none 0 0), 1, 24) by kernel_rfl)
  obtain ⟨A0, c0, rfl, _⟩ := ht.form
  obtain ⟨v', w', hrun, g1, g2, _, _⟩ := run_append_own_at (P := Tryd.prog) w base 33 ty 32 i (.slice none 0 0) 1 24 Tryd.underlying33 hi hz hsize hby rfl (by omega) v n _ h1 ⟨b, off, none⟩ 1 c [.slice A0 l.length c0] rfl
    (fun j u hu => by
      rcases j with _ | j
      · simp at hu; subst hu; rw [Addr.add_mid, Nat.add_zero]; exact hcell
      · simp at hu)
    (fun u hu => by simp at hu; subst hu; rfl) (by simp only [maxLen]; omega) (by omega) hbase
  have hk : ∀ x l, Own w base 5 x l.length l → Own w' base 5 x l.length l := fun x l ho => World.ownsRow.kept ho g2 (own_types ho h1 (by decide))
  have hO : OwnL w' base v' (n + 1) (L ++ [l]) := by
    refine ⟨_, g1, by simp [h2], fun k x y hx hy => ?_⟩
    rcases Nat.lt_or_ge k vs.length with hlt | hge
    · rw [List.getElem?_append_left hlt] at hx
      rw [List.getElem?_append_left (by omega)] at hy
      exact hk x y (h3 k x y hx hy)
    · rw [List.getElem?_append_right hge] at hx
      rw [List.getElem?_append_right (by omega)] at hy
      obtain ⟨j, hj⟩ : ∃ j, k - vs.length = j := ⟨_, rfl⟩
      rw [hj] at hx
      rw [show k - L.length = j by omega] at hy
      rcases j with _ | j
      · simp at hx hy; subst hx hy; exact hk _ _ ht
      · simp at hx
  obtain ⟨A', c', rfl, _⟩ := hO.form
  exact ⟨A', c', w', hrun, hO, (Below.refl base w).grown g2 hbase fun k hk => (World.ownsRow.lt h1 k hk).1⟩
theorem wpList_appT {w : World} {ops : Array Oper} {rest : List Oper} {o : Oper} {a : Act} {Q : Exit → Act → World → Prop} (hgd : o.guard = none) (s x : Operand)
    (ho : o.op = .call { callee := .builtin .append, args := #[s, x], argTypes := #[33, 33] })
    (base : Nat) (v : Value) (n : Nat) (L : List (List UInt8)) (hs : a.eval s = v) (hown : OwnL w base v n L) (tv : Value) (l : List UInt8) (ht : Own w base 5 tv l.length l) (hn : n + 1 ≤ 1000000000000) (hbase : base ≤ w.heap.size)
    (hx : a.eval x = .slice (some ⟨w.heap.size, 0, none⟩) 1 1)
    (h : ∀ A' c' w', OwnL w' base (.slice A' (n + 1) c') (n + 1) (L ++ [l]) → Below base w w' → wpList Tryd.prog ops Q rest (a.put o.dst (.slice A' (n + 1) c')) w') :
    wpList Tryd.prog ops Q (o :: rest) a (w.alloc (.cells #[tv] 32)) := by
  have hb0 : Below w.heap.size w (w.alloc (.cells #[tv] 32)) := (Below.refl _ _).alloc (Nat.le_refl _) _
  refine wpList_plain hgd fun K hK => ?_
  obtain ⟨A', c', w', hrun, h2, h3⟩ := run_appT o.type _ base v n L (hown.below hb0) tv l (ht.belowS hb0) w.heap.size 0 1 ((Row.new w 32 #[tv]).cell 0) hn (Nat.le_trans hbase hb0.size)
  unfold Oper.wp execOp
  simp only [ho, resolve, invoke, builtin, Sem.run_bind, Sem.run_pure, Result.andThen_ok, List.map_toArray, List.map_cons, List.map_nil, hs, hx, hrun]
  exact hK _ _ (h A' c' w' h2 ((hb0.mono hbase).trans h3))
set_option maxHeartbeats 400000 in
theorem Left_any (g b : Nat) (E : Int) (l : List UInt8) (w : World) (h : Rdr w 123 g b E l) :
    Calls Tryd.prog 77 #[.pointer (some ⟨g, 0, none⟩)] w fun e w' => e = .returned (.int .i64 (l.length : Int)) ∧ w = w' := by
  obtain ⟨A, n, c, hr, hB, _⟩ := h
  have h0 : w.cell? ⟨g, 0, none⟩ = some (.slice A n c) := hr.cell 0
  obtain rfl := hB.1
  clear hr hB
  generalize l.length = n at *
  go_enter Tryd.func77, Tryd.ntmps77
  go_wp2
  go_ret
  exact ⟨rfl, rfl⟩
set_option maxHeartbeats 1000000 in
theorem readLength_any (A : Option Addr) (n c : Nat) (l : List UInt8) (g : Nat) (v : Value) (most : Int) (w : World) (hB : Bs w A n l) (hnc : n ≤ c) (hn : n ≤ 1000000000000) (hr : Row w g 123 #[v, .int .i64 0]) (hm : most < 9223372036854775808) :
    Calls Tryd.prog 91 #[.slice A n c, .int .i64 most, failV g] w (Rd2 w g v .i64 (rdLen l most)) := by
  have HN := Lib.hid (readNum_any A n c l g v w hB hnc hn hr)
  have hlt := rdNum_lt l
  have hok := rdNum_ok l
  obtain ⟨E1, V1, S1, hq⟩ := triple (rdNum l)
  have HD : Hid (rdLen l most = if E1 = 0 then (if most < V1 then (42, 0, 0) else (E1, V1, S1)) else (E1, V1, S1)) := Lib.hid (by unfold rdLen; rw [hq])
  have hcs : E1 ≠ 0 → V1 = 0 := fun h => by
    rcases rdNum_cases l with ⟨_, h2⟩ | ⟨x, r, rfl, _, _, _, h2⟩
    · rw [hq] at h2; exact congrArg Prod.fst h2
    · rw [hq] at h2; exact absurd (congrArg Prod.fst h2) h
  rw [hq] at HN hlt hok
  simp only at hlt hok
  unfold Rd2 at HN
  simp only at HN
  generalize rdLen l most = q at *
  clear hB hr hq
  by_cases hS : S1 = 0
  · subst hS
    have hE : E1 ≠ 0 := fun h => absurd rfl (hok.1 h)
    have HQ := Lib.hid (show q = (E1, 0, 0) by rw [HD.out, if_neg hE, hcs hE])
    clear HD hok hcs hE
    unfold failV at *
    go_enter Tryd.func91, Tryd.ntmps91
    go_wp2_with (go_at_call 80; refine HN.out.mono ?_; rintro e w1 ⟨rfl, h1, h2⟩)
    go_ret2
    rw [HQ.out]
    exact ⟨rfl, h1, h2⟩
  · obtain rfl : E1 = 0 := hok.2 hS
    have hS2 : ((S1 : Int) == 0) = false := by simp; omega
    by_cases hmost : most < (V1 : Int)
    · have HQ := Lib.hid (show q = (42, 0, 0) by rw [HD.out, if_pos rfl, if_pos hmost])
      clear HD hok hcs hS
      by_cases h0 : most < 0
      · unfold failV at *
        go_enter Tryd.func91, Tryd.ntmps91
        go_wp2_with (first
          | (go_at_call 80; refine HN.out.mono ?_; rintro e w1 ⟨rfl, h1, h2⟩)
          | (go_at_call 81; refine (fail_any g v _ 42 _ h1).mono ?_; rintro e w2 ⟨rfl, h3, h4⟩))
        go_ret2
        rw [HQ.out]
        exact ⟨rfl, h3, h2.trans h4⟩
      · unfold failV at *
        go_enter Tryd.func91, Tryd.ntmps91
        go_wp2_with (first
          | (go_at_call 80; refine HN.out.mono ?_; rintro e w1 ⟨rfl, h1, h2⟩)
          | (go_at_call 81; refine (fail_any g v _ 42 _ h1).mono ?_; rintro e w2 ⟨rfl, h3, h4⟩))
        go_ret2
        rw [HQ.out]
        exact ⟨rfl, h3, h2.trans h4⟩
    · have HQ := Lib.hid (show q = (0, V1, S1) by rw [HD.out, if_pos rfl, if_neg hmost])
      have h0 : ¬ most < 0 := by omega
      clear HD hok hcs hS
      unfold failV at *
      go_enter Tryd.func91, Tryd.ntmps91
      go_wp2_with (go_at_call 80; refine HN.out.mono ?_; rintro e w1 ⟨rfl, h1, h2⟩)
      go_ret2
      rw [HQ.out]
      exact ⟨rfl, h1, h2⟩
set_option maxHeartbeats 1000000 in
theorem readText_any (A : Option Addr) (n c : Nat) (l : List UInt8) (g : Nat) (v : Value) (most : Int) (w : World) (hB : Bs w A n l) (hA : Apart A n g) (hnc : n ≤ c) (hn : n ≤ 1000000000000) (hr : Row w g 123 #[v, .int .i64 0]) (hm : most < 9223372036854775808) :
    Calls Tryd.prog 82 #[.slice A n c, .int .i64 most, failV g] w (RdT w g v (rdText l most)) := by
  have HN := Lib.hid (readLength_any A n c l g v most w hB hnc hn hr hm)
  have hlt := rdLen_lt l most
  have hok := rdLen_ok l most
  have hsz := rdLen_size l most
  have hl := hB.1
  have hgw := hr.lt
  obtain ⟨E1, V1, S1, hq⟩ := triple (rdLen l most)
  have HD : Hid (rdText l most = if E1 = 0 then (if l.length < S1 + V1 then (40, [], 0) else (0, (l.drop S1).take V1, S1 + V1)) else (E1, [], 0)) := Lib.hid (by unfold rdText; rw [hq])
  rw [hq] at HN hlt hok hsz
  rw [hl] at hsz HD
  simp only at hlt hok hsz
  unfold Rd2 at HN
  simp only at HN
  generalize rdText l most = q at *
  have HB := Lib.hid hB
  have HA := Lib.hid hA
  clear hB hA hr hq hl
  by_cases hS : S1 = 0
  · subst hS
    have hE : E1 ≠ 0 := fun h => absurd rfl (hok.1 h)
    have HQ := Lib.hid (show q = (E1, [], 0) by rw [HD.out, if_neg hE])
    clear HD hok hE
    unfold failV at *
    go_enter Tryd.func82, Tryd.ntmps82
    go_wp2_with (go_at_call 91; refine HN.out.mono ?_; rintro e w1 ⟨rfl, h1, h2⟩)
    go_ret2
    rw [HQ.out]
    exact ⟨none, 0, rfl, Nat.le_refl _, Own.nil _ _ _, h1, h2⟩
  · obtain rfl : E1 = 0 := hok.2 hS
    have hS2 : ((S1 : Int) == 0) = false := by simp; omega
    by_cases hv : n < S1 + V1
    · have HQ := Lib.hid (show q = (40, [], 0) by rw [HD.out, if_pos rfl, if_pos hv])
      have hv2 : ((n - S1 : Nat) : Int) < (V1 : Int) := by omega
      clear HD hok hS
      unfold failV at *
      go_enter Tryd.func82, Tryd.ntmps82
      go_wp2_with (first
        | (go_at_call 91; refine HN.out.mono ?_; rintro e w1 ⟨rfl, h1, h2⟩)
        | ((with_reducible refine wpList_from Tryd.byteTypes rfl (.tmp 20) (.tmp 21) rfl A n c S1 rfl rfl hsz hnc ?_); intro A1 hA1 hI1)
        | (go_at_call 81; refine (fail_any g v _ 40 _ h1).mono ?_; rintro e w2 ⟨rfl, h3, h4⟩))
      go_ret2
      rw [HQ.out]
      exact ⟨none, 0, rfl, Nat.le_refl _, Own.nil _ _ _, h3, h2.trans h4⟩
    · have HQ := Lib.hid (show q = (0, (l.drop S1).take V1, S1 + V1) by rw [HD.out, if_pos rfl, if_neg hv])
      have hv2 : (V1 : Int) ≤ ((n - S1 : Nat) : Int) := by omega
      clear HD hok hS
      unfold failV at *
      go_enter Tryd.func82, Tryd.ntmps82
      go_wp2_with (first
        | (go_at_call 91; refine HN.out.mono ?_; rintro e w1 ⟨rfl, h1, h2⟩; have hs1 := h2.size)
        | ((with_reducible refine wpList_from Tryd.byteTypes rfl (.tmp 20) (.tmp 21) rfl A n c S1 rfl rfl hsz hnc ?_); intro A1 hA1 hI1)
        | ((with_reducible refine wpList_head Tryd.byteTypes rfl (.tmp 29) (.tmp 30) rfl A1 (n - S1) (c - S1) V1 rfl rfl (by omega) (by omega) ?_); intro A2 hA2)
        | (go_at_call 38; refine (Clone_any A2 V1 (c - S1) _ w1 (hA2 _ _ (hA1 _ _ (HB.out.only HA.out h2))) (by omega)).mono ?_; rintro e w2 ⟨A3, c3, rfl, hc3, hb3, ho3⟩))
      go_ret2
      rw [HQ.out]
      exact ⟨A3, c3, by simp, hc3, ho3.mono hs1, h1.below hb3 h1.lt, h2.trans (Only.of_below hb3)⟩
set_option maxHeartbeats 1000000 in
theorem RText_any (g b : Nat) (E : Int) (l : List UInt8) (most : Int) (w : World) (h : Rdr w 123 g b E l) (hl : l.length ≤ 1000000000) (hm : most < 9223372036854775808) :
    Calls Tryd.prog 67 #[.pointer (some ⟨g, 0, none⟩), .int .i64 most] w (RText w 123 g b l (sText E l most)) := by
  have H := Lib.hid h
  obtain ⟨A, n, c, hr, hB, hnc, hI, hbg⟩ := h
  have HR := Lib.hid hr
  have HB := Lib.hid hB
  have HI := Lib.hid hI
  have hn := hB.1
  have hgw := hr.lt
  by_cases hE : E = 0
  · subst hE
    have HN := Lib.hid (readText_any A n c l g (.slice A n c) most w hB (hI.apart hbg) hnc (by omega) hr hm)
    have hsz := rdText_size l most
    have HS := Lib.hid (show sText 0 l most = rdText l most from rfl)
    have c0 : w.cell? ⟨g, 0, none⟩ = some (.slice A n c) := hr.cell 0
    obtain ⟨E1, T1, S1, hq⟩ := triple (rdText l most)
    rw [hq] at HN hsz HS
    rw [hn] at hsz
    simp only at hsz
    unfold RdT failV at HN
    simp only at HN
    generalize sText 0 l most = q at *
    clear hr hB hq hI
    have hsnw : S1 ≤ n := hsz
    go_enter Tryd.func67, Tryd.ntmps67
    go_wp2_with (first
      | (go_at_call 76; refine (Err_any g _ 0 _ HR.out).mono ?_; rintro e w1 ⟨rfl, rfl⟩)
      | (go_at_call 82; refine HN.out.mono ?_; rintro e w1 ⟨A2, c2, rfl, hc2, ho2, h1, h2⟩; have k0 := h1.cell 0; have f0 := h1.frozen 0; have H1 := Lib.hid h1; have H2 := Lib.hid h2; simp only [List.getElem?_toArray, List.getElem?_cons_zero] at k0; clear h1 h2)
      | ((with_reducible refine wpList_from Tryd.byteTypes rfl (.tmp 25) (.tmp 26) rfl A n c S1 rfl rfl hsnw hnc ?_); intro A1 hA1 hI1))
    go_ret
    rw [HS.out]
    have ho1 := Only.setCell g 0 w1 (.slice A1 (n - S1) (c - S1))
    have ho := H2.out.trans ho1
    exact ⟨A2, c2, rfl, hc2, own_only ho2 ho1 hgw, ⟨A1, n - S1, c - S1, row2_set0 H1.out _, (hA1 _ _ HB.out).only ((hI1 b HI.out).apart hbg) ho, by omega, hI1 b HI.out, hbg⟩, ho⟩
  · have HQ := Lib.hid (show sText E l most = (E, [], 0) by unfold sText; rw [if_neg hE])
    have hE2 := bne0 hE
    generalize sText E l most = q at *
    clear hr hB hI
    go_enter Tryd.func67, Tryd.ntmps67
    go_wp2_with (go_at_call 76; refine (Err_any g _ E _ HR.out).mono ?_; rintro e w1 ⟨rfl, rfl⟩)
    go_ret
    rw [HQ.out]
    exact ⟨none, 0, rfl, Nat.le_refl _, Own.nil _ _ _, H.out, Only.refl _ _⟩
theorem Tryd.under69 : Tryd.prog.underlying 136 = some (.array 1 5) := by kernel_rfl
set_option maxHeartbeats 1000000 in
theorem Byte_any (g b : Nat) (E : Int) (l : List UInt8) (w : World) (h : Rdr w 123 g b E l) :
    Calls Tryd.prog 79 #[.pointer (some ⟨g, 0, none⟩)] w fun e w' => e = .returned (.int .u8 (((sFill E l 1).2.1.getD 0 0).toNat : Int)) ∧ Rdr w' 123 g b (sFill E l 1).1 (l.drop (sFill E l 1).2.2) ∧ Only g w w' := by
  obtain ⟨b', hb1, _, h', hback⟩ := h.fresh
  have hgw := h.lt
  have hb0 : Below w.heap.size w (w.alloc (.cells (bcells (List.replicate 1 0)) 136)) := (Below.refl _ _).alloc (Nat.le_refl _) _
  have HF := Lib.hid (fill_any g b' E l _ (h'.below hb0) w.heap.size 1 136 (Row.new w 136 _) (by omega) hb1.symm)
  have HL := Lib.hid (sFill_length E l 1)
  have HK := Lib.hid hback
  have hcut := fun W => run_cut_all (P := Tryd.prog) Tryd.under69 Tryd.size5 w.heap.size 0 W
  have H0 := Lib.hid hb0
  generalize sFill E l 1 = q at *
  clear h h' hback hb0
  go_enter Tryd.func79, Tryd.ntmps79
  go_wp2_with (go_at_call 89; refine HF.out.mono ?_; rintro e w2 ⟨rfl, h1, h2, h3⟩; have k0 := (h1.cell 0).trans (bcells_get q.2.1 0 (by rw [HL.out]; omega)))
  go_ret
  exact ⟨rfl, HK.out _ _ _ h2, h3.one H0.out (Nat.le_refl _)⟩
set_option maxRecDepth 100000 in
theorem open_bss {H : Type} {enc : TypeId × Value → H} {W : World} {base : Nat} {v : Value} {d : DataW H} {p : List MemPlace} (hv : Value.okWide Tryd.prog W .any base 33 v)
    (h : DataW.Trod enc Tryd.prog W 0 (fun _ => true) true 33 v d p) : ∃ (a0 : Option Addr) (len cap : Nat) (L : List (List UInt8)), v = .slice a0 len cap ∧ Bss W a0 len L := by
  obtain ⟨a0, len, cap, rfl⟩ := okWide_slice Tryd.underlying33 hv
  obtain ⟨fuel, hf⟩ := h
  rcases Deep.open_int_rows Tryd.underlying33 Tryd.underlying32 Tryd.underlying5 (by kernel_rfl) (by kernel_rfl) hf with ⟨hcs, _⟩ | ⟨a, len', cap', A, L, C, Z, hcs, _, hl, _, _, hr⟩
  · simp [Value.cells] at hcs
    obtain ⟨rfl, rfl, rfl⟩ := hcs
    exact ⟨_, _, _, [], rfl, Bss.nil _ _⟩
  · simp [Value.cells] at hcs
    obtain ⟨rfl, rfl, rfl⟩ := hcs
    refine ⟨_, _, _, (List.range len).map fun r => ((Z r).take (L r)).map fun z => UInt8.ofNat z.toNat, rfl, by simp, fun r l hrl => ?_⟩
    have hlt : r < len := by have := (List.getElem?_eq_some_iff.1 hrl).1; simpa using this
    have hl' : l = ((Z r).take (L r)).map fun z => UInt8.ofNat z.toNat := by simpa [hlt] using hrl.symm
    obtain ⟨hc, hLC, _, hZ, hwf, hnone, hsome⟩ := hr r (by omega)
    have hll : l.length = L r := by rw [hl', List.length_map, List.length_take, hZ]; omega
    obtain ⟨b, off, spot⟩ := a
    have hspot : spot = none := by
      obtain ⟨h0, _⟩ := hr 0 (by omega)
      simpa [Addr.add] using World.cell?_spot h0
    subst hspot
    rw [Addr.add_mid] at hc
    rw [hll]
    refine ⟨b, off, A r, C r, rfl, World.block_lt_of_cell? W _ hc, hc, hLC, ?_⟩
    cases hA : A r with
    | none =>
      have h0 : L r = 0 := by have := hnone hA; omega
      have : l = [] := List.eq_nil_of_length_eq_zero (by rw [hll, h0])
      rw [h0, this]
      exact Bs.nil W none
    | some a' =>
      obtain ⟨_, hcell⟩ := hsome a' hA
      rw [hl']
      exact Bs.of_ints hLC hZ (fun i hi => hcell i (by rw [hZ] at hi; exact hi)) hwf
set_option maxHeartbeats 1000000 in
theorem LSame_yes (A B : Option Addr) (n c d : Nat) (L : List (List UInt8)) (w : World) (h : Bss w A n L) (h2 : Bss w B n L) (hn : n ≤ 1000000000000) (hM : ∀ l ∈ L, l.length ≤ 1000000) :
    Calls Tryd.prog 28 #[.slice A n c, .slice B n d] w fun e w' => e = .returned (.bool true) ∧ ∃ m, w' = w.drewN m := by
  have hne : ((n : Int) != (n : Int)) = false := by simp
  have HM := Lib.hid hM
  clear hM
  go_enter Tryd.func28, Tryd.ntmps28
  go_wp2
  go_loopw [5] (fun i wr => ∃ k j : Nat, k ≤ n ∧ i = .int .i64 k ∧ wr = w.drewN j) (fun i _ => n - (intOf i).toNat)
  case atStart => exact ⟨0, 0, Nat.zero_le _, rfl, rfl⟩
  case round =>
    obtain ⟨k, j, hk, rfl, hw⟩ := hrel
    have h' : Bss wr A n L := hw ▸ h.drewN j
    have h2' : Bss wr B n L := hw ▸ h2.drewN j
    have HW := Lib.hid hw
    clear hw h h2
    by_cases hlt : k < n
    · obtain ⟨b, off, A', c', l, rfl, hb, hx, hc, hnc, hB'⟩ := h'.get hlt
      obtain ⟨b2, off2, A2, c2, l2, rfl, hb2, hx2, hc2, hnc2, hB2⟩ := h2'.get hlt
      obtain rfl : l2 = l := by rw [hx] at hx2; injection hx2 with e; exact e.symm
      have hi : (k : Int) < (n : Int) := by omega
      have hl : l2.length ≤ 1000000 := HM.out l2 (List.mem_of_getElem? hx)
      have HB := Lib.hid hB'
      have HB2 := Lib.hid hB2
      clear hx hx2 h' h2' hB' hB2
      go_wp2
      go_quiet ((go_at_call 26; exact quiet_drew (Same_yes _ _ _ _ _ l2 _ HB.out HB2.out (by omega))))
      go_wp2
      go_roundw
      case rel => exact ⟨k + 1, _, by omega, by go_num, by rw [HW.out]; exact World.drewN_drewN _ _ _⟩
      case measure => simp [intOf]; omega
    · clear h' h2'
      go_wp2
      go_ret
      exact ⟨rfl, _, HW.out⟩
set_option maxHeartbeats 2000000 in
theorem RefText_r (g b : Nat) (E : Int) (l : List UInt8) (most : Int) (w : World) (h : Rdr w 101 g b E l) (hl : l.length ≤ 1000000000) (hm : most < 9223372036854775808) (hm0 : -9223372036854775808 ≤ most) :
    Calls Tryd.prog 59 #[.pointer (some ⟨g, 0, none⟩), .int .i64 most] w (RText w 101 g b l (sText E l most)) := by
  have HN := Lib.hid (RefRNum_any g b E l 18446744073709551615 w h hl)
  have hgw := h.lt
  rw [sNum_max] at HN
  obtain ⟨A, n, c, hr, hB, hnc, hI, hbg⟩ := h
  have c0 : w.cell? ⟨g, 0, none⟩ = some (.slice A n c) := hr.cell 0
  have HB := Lib.hid hB
  have HI := Lib.hid hI
  have hn := hB.1
  clear hr hB hI
  by_cases hE : E ≠ 0
  · have HQ := Lib.hid (show sText E l most = (E, [], 0) by unfold sText; rw [if_neg hE])
    rw [if_neg hE] at HN
    have hE2 := bne0 hE
    unfold RNum at HN
    simp only at HN
    generalize sText E l most = q at *
    go_enter Tryd.func59, Tryd.ntmps59
    go_wp2_with (go_at_call 62; refine HN.out.mono ?_; rintro e w1 ⟨rfl, ⟨A1, n1, c1, hr1, hrest⟩, h2⟩; have k1 : w1.cell? ⟨g, 1, none⟩ = some (.int .i64 E) := hr1.cell 1; have H1 := Lib.hid hr1; have H1' := Lib.hid hrest; clear hr1 hrest)
    go_ret
    rw [HQ.out]
    exact ⟨none, 0, rfl, Nat.le_refl _, Own.nil _ _ _, ⟨A1, n1, c1, H1.out, H1'.out⟩, h2⟩
  obtain rfl : E = 0 := Decidable.not_not.1 hE
  clear hE
  rw [if_pos rfl] at HN
  have HS := Lib.hid (show sText 0 l most = rdText l most from rfl)
  have hsz := rdNum_size l
  have hlt := rdNum_lt l
  have hcs := rdNum_cases l
  obtain ⟨E1, V1, S1, hq⟩ := triple (rdNum l)
  have HD : Hid (rdLen l most = if E1 = 0 then (if most < V1 then (42, 0, 0) else (E1, V1, S1)) else (E1, V1, S1)) := Lib.hid (by unfold rdLen; rw [hq])
  rw [hq] at HN hsz hlt hcs
  rw [hn] at hsz
  simp only at hsz hlt
  unfold RNum at HN
  simp only at HN
  by_cases hE1 : E1 ≠ 0
  · have HQ := Lib.hid (show sText 0 l most = (E1, [], 0) by rw [HS.out]; unfold rdText; rw [HD.out, if_neg hE1, if_neg hE1])
    have hS0 : S1 = 0 := by
      rcases hcs with ⟨_, h2⟩ | ⟨x, r, _, _, _, _, h2⟩
      · exact congrArg Prod.snd h2
      · exact absurd (congrArg Prod.fst h2) hE1
    have hE2 := bne0 hE1
    subst hS0
    generalize sText 0 l most = q at *
    clear HD HS hcs hq
    go_enter Tryd.func59, Tryd.ntmps59
    go_wp2_with (go_at_call 62; refine HN.out.mono ?_; rintro e w1 ⟨rfl, ⟨A1, n1, c1, hr1, hrest⟩, h2⟩; have k1 : w1.cell? ⟨g, 1, none⟩ = some (.int .i64 E1) := hr1.cell 1; have H1 := Lib.hid hr1; have H1' := Lib.hid hrest; clear hr1 hrest)
    go_ret
    rw [HQ.out]
    exact ⟨none, 0, rfl, Nat.le_refl _, Own.nil _ _ _, ⟨A1, n1, c1, H1.out, H1'.out⟩, h2⟩
  obtain rfl : E1 = 0 := Decidable.not_not.1 hE1
  have hF : (l.drop S1).length = n - S1 := by rw [List.length_drop, hn]
  have HF := Lib.hid hF
  clear hE1 hcs hF
  by_cases hmo : most < (V1 : Int)
  · have HQ := Lib.hid (show sText 0 l most = (42, [], 0) by rw [HS.out]; unfold rdText; rw [HD.out, if_pos rfl, if_pos hmo]; rfl)
    generalize sText 0 l most = q at *
    clear HD HS hq
    have hout : ∀ w1, Only g w w1 → ∀ A1 n1 c1, Row w1 g 101 #[.slice A1 n1 c1, .int .i64 0] → Rdr ((w1.setCell ⟨g, 1, none⟩ (.int .i64 42)).setCell ⟨g, 0, none⟩ (.slice A n c)) 101 g b 42 l ∧ Only g w ((w1.setCell ⟨g, 1, none⟩ (.int .i64 42)).setCell ⟨g, 0, none⟩ (.slice A n c)) := fun w1 ho A1 n1 c1 hr1 => by
      have h2 := Only.setCell g 1 w1 (.int .i64 42)
      exact ⟨back (row2_set1 hr1 _) (HB.out.only (HI.out.apart hbg) (ho.trans h2)) hnc HI.out hbg, (ho.trans h2).trans (Only.setCell g 0 _ _)⟩
    have HOut := Lib.hid hout
    clear hout
    by_cases h0 : most < 0
    · go_enter Tryd.func59, Tryd.ntmps59
      go_wp2_with (go_at_call 62; refine HN.out.mono ?_; rintro e w1 ⟨rfl, ⟨A1, n1, c1, hr1, hrest⟩, h2⟩; have k1 : w1.cell? ⟨g, 1, none⟩ = some (.int .i64 0) := hr1.cell 1; have f1 := hr1.frozen 1; have k0 := (row2_set1 hr1 (.int .i64 42)).cell 0; have f0 := (row2_set1 hr1 (.int .i64 42)).frozen 0; simp only [List.getElem?_toArray, List.getElem?_cons_zero] at k0; have H1 := Lib.hid hr1; clear hr1 hrest)
      go_ret
      rw [HQ.out]
      have ho := HOut.out w1 h2 A1 n1 c1 H1.out
      exact ⟨none, 0, rfl, Nat.le_refl _, Own.nil _ _ _, ho.1, ho.2⟩
    · go_enter Tryd.func59, Tryd.ntmps59
      go_wp2_with (go_at_call 62; refine HN.out.mono ?_; rintro e w1 ⟨rfl, ⟨A1, n1, c1, hr1, hrest⟩, h2⟩; have k1 : w1.cell? ⟨g, 1, none⟩ = some (.int .i64 0) := hr1.cell 1; have f1 := hr1.frozen 1; have k0 := (row2_set1 hr1 (.int .i64 42)).cell 0; have f0 := (row2_set1 hr1 (.int .i64 42)).frozen 0; simp only [List.getElem?_toArray, List.getElem?_cons_zero] at k0; have H1 := Lib.hid hr1; clear hr1 hrest)
      go_ret
      rw [HQ.out]
      have ho := HOut.out w1 h2 A1 n1 c1 H1.out
      exact ⟨none, 0, rfl, Nat.le_refl _, Own.nil _ _ _, ho.1, ho.2⟩
  have h0 : ¬ most < 0 := by omega
  have HLn : Hid (rdLen l most = (0, V1, S1)) := Lib.hid (by rw [HD.out, if_pos rfl, if_neg hmo])
  clear HD hq
  by_cases hv : n < S1 + V1
  · have HQ := Lib.hid (show sText 0 l most = (40, [], 0) by rw [HS.out]; unfold rdText; rw [HLn.out, if_pos rfl, if_pos (by rw [hn]; exact hv)])
    generalize sText 0 l most = q at *
    clear HS HLn
    have hv2 : ((n - S1 : Nat) : Int) < (V1 : Int) := by omega
    have hout : ∀ w1, Only g w w1 → ∀ A1 n1 c1, Row w1 g 101 #[.slice A1 n1 c1, .int .i64 0] → Rdr ((w1.setCell ⟨g, 1, none⟩ (.int .i64 40)).setCell ⟨g, 0, none⟩ (.slice A n c)) 101 g b 40 l ∧ Only g w ((w1.setCell ⟨g, 1, none⟩ (.int .i64 40)).setCell ⟨g, 0, none⟩ (.slice A n c)) := fun w1 ho A1 n1 c1 hr1 => by
      have h2 := Only.setCell g 1 w1 (.int .i64 40)
      exact ⟨back (row2_set1 hr1 _) (HB.out.only (HI.out.apart hbg) (ho.trans h2)) hnc HI.out hbg, (ho.trans h2).trans (Only.setCell g 0 _ _)⟩
    have HOut := Lib.hid hout
    clear hout
    go_enter Tryd.func59, Tryd.ntmps59
    go_wp2_with (go_at_call 62; refine HN.out.mono ?_; rintro e w1 ⟨rfl, ⟨A1, n1, c1, hr1, hB1, hrest⟩, h2⟩; obtain rfl : n1 = n - S1 := hB1.1.symm.trans HF.out; have k1 : w1.cell? ⟨g, 1, none⟩ = some (.int .i64 0) := hr1.cell 1; have k00 : w1.cell? ⟨g, 0, none⟩ = some (.slice A1 (n - S1) c1) := hr1.cell 0; have f1 := hr1.frozen 1; have k0 := (row2_set1 hr1 (.int .i64 40)).cell 0; have f0 := (row2_set1 hr1 (.int .i64 40)).frozen 0; simp only [List.getElem?_toArray, List.getElem?_cons_zero] at k0; have H1 := Lib.hid hr1; clear hr1 hrest hB1)
    go_ret
    rw [HQ.out]
    have ho := HOut.out w1 h2 _ _ _ H1.out
    exact ⟨none, 0, rfl, Nat.le_refl _, Own.nil _ _ _, ho.1, ho.2⟩
  · have HQ := Lib.hid (show sText 0 l most = (0, (l.drop S1).take V1, S1 + V1) by rw [HS.out]; unfold rdText; rw [HLn.out, if_pos rfl, if_neg (by rw [hn]; exact hv)])
    generalize sText 0 l most = q at *
    clear HS HLn
    have hv2 : (V1 : Int) ≤ ((n - S1 : Nat) : Int) := by omega
    have hTl : ((l.drop S1).take V1).length = V1 := by rw [List.length_take, List.length_drop, hn]; omega
    have HTl := Lib.hid hTl
    have HDr := Lib.hid (show (l.drop S1).drop V1 = l.drop (S1 + V1) by rw [List.drop_drop])
    clear hTl
    generalize l.drop S1 = l1 at *
    go_enter Tryd.func59, Tryd.ntmps59
    go_wp2_with (first
      | (go_at_call 62; refine HN.out.mono ?_; rintro e w1 ⟨rfl, ⟨A1, n1, c1, hr1, hB1, hnc1, hI1, _⟩, h2⟩; obtain rfl : n1 = n - S1 := hB1.1.symm.trans HF.out; have k1 : w1.cell? ⟨g, 1, none⟩ = some (.int .i64 0) := hr1.cell 1; have k00 : w1.cell? ⟨g, 0, none⟩ = some (.slice A1 (n - S1) c1) := hr1.cell 0; have H1 := Lib.hid hr1; have HB1 := Lib.hid hB1; have HI1 := Lib.hid hI1; obtain ⟨B1, hs1, hb1⟩ := cutU_head A1 (n - S1) c1 V1 (by omega) hnc1; obtain ⟨B2, hs2, hb2, hi2⟩ := cutU_from .u64 A1 (n - S1) c1 V1 (by omega) hnc1; have HH1 := Lib.hid hb1; have HH2 := Lib.hid hb2; have HH3 := Lib.hid hi2; have kz : (w1.alloc (.cells #[] 5)).cell? ⟨g, 0, none⟩ = some (.slice A1 (n - S1) c1) := ((hr1.alloc (.cells #[] 5)).cell 0); clear hr1 hB1 hI1 hb1 hb2 hi2)
      | (at_builtin; refine wpList_copy Tryd.byteTypes rfl (.tmp 49) (.tmp 55) rfl rfl B1 V1 c1 (l1.take V1) rfl (HH1.out _ _ HB1.out) (by omega) ?_; intro A3 c3 w3 hB3 hc3 hb3 ho3; have hr3 := H1.out.below hb3 H1.out.lt; have k3 : w3.cell? ⟨g, 0, none⟩ = some (.slice A1 (n - S1) c1) := hr3.cell 0; have f3 := hr3.frozen 0; have H3 := Lib.hid hr3; clear hr3))
    go_ret
    rw [HQ.out]
    have ho1 : Only g w w3 := h2.trans (Only.of_below hb3)
    have ho2 := Only.setCell g 0 w3 (.slice B2 (n - S1 - V1) (c1 - V1))
    refine ⟨A3, c3, ?_, ?_, ?_, ?_, ho1.trans ho2⟩
    · simp only [HTl.out]; rfl
    · simp only [HTl.out]; exact hc3
    · simp only [HTl.out]; exact own_only (ho3.mono h2.size) ho2 hgw
    · simp only
      rw [← HDr.out]
      exact ⟨B2, n - S1 - V1, c1 - V1, row2_set0 H3.out _, ((HH2.out _ _ HB1.out).below hb3).only ((HH3.out b HI1.out).apart hbg) ho2, by omega, HH3.out b HI1.out, hbg⟩
end Go.Proofs.YtgiobcpljbpmiaaDoor
