/-
  MacFirst, whole, as the tied card (Rows.MacFirstCardSaid): for every key and label, up to 200 bytes each, and every number from 32 to 8160: what mac.Derive answers has so many bytes and begins with the mac of its first text; a known mac begins as it should. Condition: the table sha.constants reads as its initialiser lays it (tied to the program's text).
-/
import Derived.Test.YtlndgefpmoooeaaDoorRows
import Derived.Test.YtlndgefpmoooeaaDoorCards
import Derived.Test.YtlndgefpmoooeaaDoorTie
import Derived.WalkKit
import Derived.ProofKit
import Derived.OpenShut
import Derived.ChangeMaps5
import Derived.ShutString
import Derived.ChangeOld
import Derived.Below
import Derived.SizedLaws
import Derived.SevenTiedAt
import Derived.Lay
import Derived.LaidLaws
import Derived.Test.YtlndgefpmoooeaaDoorLaid
import Derived.Test.YtlndgefpmoooeaaDoorDerive
import Derived.Test.YtlndgefpmoooeaaDoorAwake
namespace Go.Proofs.YtlndgefpmoooeaaDoor.macFirst
open Go.ChangeShapes Go.WideShapes Go.ChangeAt Go.RowKit
open Go.ChangeMaps (open_string shut_string)
set_option linter.unusedVariables false
theorem own : ownKnob Tryd.prog.godebug = none := by kernel_rfl
theorem laidOut : laidOutB Tryd.prog = true := by kernel_rfl
theorem lit_own (w : World) (t : TypeId) (l : List UInt8) (n : Nat) (hl : l.length = n) (hn : n ≤ 65536) : Own (w.alloc (.cells (bcells l) t)) w.heap.size t (.slice (some ⟨w.heap.size, 0, none⟩) n n) n l :=
  (Row.new w t _).own (Nat.le_refl _) hl (by rw [bcells_size, hl]) (by omega) (fun j x hx => by rw [bcells_get?, hx]; rfl)
theorem first32 (k : List UInt8) (s : ByteArray) (n : Nat) (h : 32 ≤ n) : (deriveL k s n).take 32 = macL k (partL 1 s n) := by
  obtain ⟨r, hr⟩ := derN_add k s n 1 (n / 32)
  have e : derN k s n 1 = macL k (partL 1 s n) := by simp [derN]
  unfold deriveL
  rw [Nat.add_comm, hr, e, List.take_take, Nat.min_eq_left h, List.take_append_of_le_length (by rw [macL_length]; exact Nat.le_refl _), List.take_of_length_le (by rw [macL_length]; exact Nat.le_refl _)]
def twoB (n : Nat) : List UInt8 := [0, 0, 0, UInt8.ofNat (n / 256), UInt8.ofNat n]
theorem first_text (s : ByteArray) (n : Nat) (h : n ≤ 8160) : partL 1 s n = [0, 0, 0, 1] ++ s.data.toList ++ twoB n := by
  have e1 : bytesL (u64 1) 4 = [0, 0, 0, 1] := by decide +kernel
  have e2 : bytesL (u64 n) 4 = [0, 0, UInt8.ofNat (n / 256), UInt8.ofNat n] := by
    unfold u64
    rw [show (n : Int) % 18446744073709551616 = (n : Int) by omega]
    unfold bytesL
    rw [if_pos (by omega)]
    have hg := fun j (hj : j < 4) => bytesOf_get n 4 j hj
    have hl := bytesOf_length n 4
    apply List.ext_getElem?
    intro j
    by_cases hj : j < 4
    · show (bytesOf n 4)[j]? = _
      rw [hg j hj]
      match j, hj with
      | 0, _ => simp [show n / 256 ^ 3 = 0 by omega]
      | 1, _ => simp [show n / 256 ^ 2 = 0 by omega]
      | 2, _ => simp
      | 3, _ => simp
    · rw [List.getElem?_eq_none (by show (bytesOf n 4).length ≤ j; omega), List.getElem?_eq_none (by simp; omega)]
  unfold partL closedL twoB
  rw [e1, e2]; simp
theorem two_new (w : World) (n : Nat) (h : n ≤ 8160) : Bs (w.alloc (.cells #[.int .u8 0, .int .u8 0, .int .u8 0, .int .u8 ((n : Int) / 256), .int .u8 ((n : Int) % 256)] 5)) (some ⟨w.heap.size, 0, none⟩) 5 (twoB n) := by
  refine lit_new w 5 _ 5 (twoB n) rfl rfl ?_ (by omega)
  intro j x hx
  have e1 : ((UInt8.ofNat (n / 256)).toNat : Int) = (n : Int) / 256 := by rw [UInt8.toNat_ofNat']; omega
  have e2 : ((UInt8.ofNat n).toNat : Int) = (n : Int) % 256 := by rw [UInt8.toNat_ofNat']; omega
  rcases j with _ | _ | _ | _ | _ | j
  · simp [twoB] at hx; subst hx; rfl
  · simp [twoB] at hx; subst hx; rfl
  · simp [twoB] at hx; subst hx; rfl
  · simp [twoB] at hx; subst hx; rw [e1]; rfl
  · simp [twoB] at hx; subst hx; rw [e2]; rfl
  · simp [twoB] at hx
set_option maxRecDepth 100000 in
set_option maxHeartbeats 1000000 in
theorem walk_ok (w : World) (a0 : Option Addr) (len0 cap0 : Nat) (l0 : List UInt8) (w0 : Bs w a0 len0 l0) (s0 : len0 ≤ cap0) (a1 : ByteArray) (a2 : Nat) (hT2 : Tab 2 w) (h0 : len0 ≤ 200) (h1 : a1.size ≤ 200) (h2 : a2 ≤ 8160) (h3 : 32 ≤ a2) :
    Calls Tryd.prog 8 #[.slice a0 len0 cap0, .string a1, .int .i64 (a2 : Int)] w fun e w' => e = .returned (.bool true) ∧ Below w.heap.size w w' := by
  have HW0 := Lib.hid w0
  have HT2 := Lib.hid hT2
  have hl0 := w0.1
  have i0 : ¬ 200 < (len0 : Int) := by omega
  have i1 : ¬ 200 < (a1.size : Int) := by omega
  have i2 : ¬ (a2 : Int) < 32 := by omega
  have i3 : ¬ 8160 < (a2 : Int) := by omega
  have HDL := Lib.hid (deriveL_length l0 a1 a2)
  have HD := Lib.hid (fun A nk ck w hB hc hT hk => Derive_any A nk ck l0 a1 a2 w hB hc hT h2 hk h1)
  have H32 := Lib.hid (first32 l0 a1 a2 h3)
  have HM := Lib.hid (fun A B n m c d w hA hB h3 h4 hT h5 h6 => Mac_any A B n m c d l0 (partL 1 a1 a2) w hA hB h3 h4 hT h5 h6)
  have HML := Lib.hid (macL_length l0 (partL 1 a1 a2))
  rw [first_text a1 a2 h2] at H32 HM HML
  have HTN := Lib.hid (fun w => two_new w a2 h2)
  have HRL := Lib.hid (show (bcells (macL l0 ([0, 0, 0, 1] ++ a1.data.toList ++ twoB a2))).size = 32 by rw [bcells_size]; exact HML.out)
  generalize deriveL l0 a1 a2 = R at *
  generalize macL l0 ([0, 0, 0, 1] ++ a1.data.toList ++ twoB a2) = D at *
  generalize twoB a2 = L2 at *
  clear w0 hT2
  go_enter Tryd.func8, Tryd.ntmps8
  go_wp2_with (first
    | (go_at_call 15; refine (HD.out _ _ _ w1 HB1.out hc1 (HT2.out.below hb1) (by have := HN1.out; omega)).mono ?_; rintro e2 w2 ⟨A2, n2, c2, rfl, hB2, hc2, hb2⟩; have HB2 := Lib.hid hB2; obtain rfl : a2 = n2 := (hB2.1.symm.trans HDL.out).symm; have hb2' := hb1.trans (hb2.mono hb1.size); clear hB2)
    | (at_builtin; refine wpList_appS Tryd.byteTypes Tryd.underlying9 rfl (.tmp 36) (.tmp 37) rfl w2.heap.size _ 4 [0, 0, 0, 1] rfl (lit_own w2 5 [0, 0, 0, 1] 4 rfl (by omega)) a1 rfl (by omega) (by simp) ?_; intro A3 c3 w3 ho3 hb3; have HO3 := Lib.hid ho3; have hs3 := hb3.size; simp at hs3; have hb3' := (hb2'.alloc hb2'.size (.cells (bcells [0, 0, 0, 1]) 5)).trans (hb3.mono hb2'.size); clear ho3)
    | (at_builtin; refine wpList_app Tryd.byteTypes rfl (.tmp 39) (.tmp 45) rfl w2.heap.size _ (4 + a1.size) ([0, 0, 0, 1] ++ a1.data.toList) rfl (own_below HO3.out ((Below.refl _ _).alloc (Nat.le_refl _) _)) _ 5 5 L2 rfl (HTN.out w3) (by omega) (by simp; omega) ?_; intro A4 c4 w4 ho4 hb4 _; have HB4 := Lib.hid ho4.bs; have hs4 := hb4.size; simp at hs4; have hb4' := (hb3'.alloc hb3'.size (.cells #[.int .u8 0, .int .u8 0, .int .u8 0, .int .u8 ((a2 : Int) / 256), .int .u8 ((a2 : Int) % 256)] 5)).trans (hb4.mono hb2'.size); have hb24 : Below w2.heap.size w2 w4 := ((((Below.refl w2.heap.size w2).alloc (Nat.le_refl _) (.cells (bcells [0, 0, 0, 1]) 5)).trans hb3).alloc (by omega) _).trans hb4; obtain ⟨_, _, e4, hc4⟩ := ho4.form; injection e4 with e41 e42 e43; subst e41 e43; clear ho4)
    | (go_at_call 10; refine (HM.out _ _ _ _ _ _ w5 HB5.out (HB4.out.below hb5) hc5 hc4 (HT2.out.below hb5') (by have := HN5.out; omega) (by omega)).mono ?_; rintro e6 w6 ⟨rfl, hb6⟩; have hb6' := hb5'.trans (hb6.mono hb5'.size); have hb26 := (hb24.trans (hb5.mono hb24.size)).trans (hb6.mono (Nat.le_trans hb24.size hb5.size)))
    | (with_reducible refine wpList_store_row Tryd.agg25 rfl (.tmp 10) (.tmp 50) rfl _ _ rfl rfl 25 lit32 (Row.new w6 25 lit32) HRL.out lit32_size (bcells_one _) ?_; intro w7 hr7 ho7; have HR7 := Lib.hid hr7; have hs7 := ho7.size; have hb7' := (hb6'.alloc hb6'.size (.cells lit32 25)).trans (ho7.below (B := w.heap.size) hb6'.size (by have := hb6'.size; simp; omega)); have hb27 := (hb26.alloc hb26.size (.cells lit32 25)).trans (ho7.below (B := w2.heap.size) hb26.size (by have := hb26.size; simp; omega)); have hlt7 := hr7.lt; clear hr7)
    | (go_at_call 11; refine (own_any a0 len0 cap0 l0 w4 (HW0.out.below hb4') (by omega)).mono ?_; rintro e5 w5 ⟨A5, n5, c5, rfl, hB5, hc5, hb5, -⟩; have HB5 := Lib.hid hB5; have HN5 := Lib.hid (hB5.1.symm.trans hl0); have hb5' := hb4'.trans (hb5.mono hb4'.size); clear hB5)
    | (go_at_call 11; refine (own_any a0 len0 cap0 l0 w HW0.out (by omega)).mono ?_; rintro e1 w1 ⟨A1, n1, c1, rfl, hB1, hc1, hb1, -⟩; have HB1 := Lib.hid hB1; have HN1 := Lib.hid (hB1.1.symm.trans hl0); clear hB1))
  have ru := Tryd.underlying24'
  have rl : (D.map bcell).length = 32 := by rw [List.length_map]; exact HML.out
  have rz : (Tryd.prog.info? 25).map (·.size) = some (D.map bcell).length := by rw [rl]; kernel_rfl
  have K7 := Lib.hid (show w7.drew.rangeAt w6.heap.size 0 (D.map bcell) by exact range_row HR7.out)
  have HB32 := Lib.hid ((HB2.out.below hb27).take (m := 32) (by omega))
  rw [H32.out] at HB32
  have j1 : (32 : Int) ≤ (c2 : Int) := by omega
  clear rl
  go_region_held3 (fun w' => w'.rangeAt w6.heap.size 0 (D.map bcell)) (first | (with_reducible exact K7.out) | (with_reducible exact K10.out) | (with_reducible exact K9.out) | (with_reducible exact K8.out))
    (first
      | (go_at_call 20; (refine (DBytes_any D w7.drew HML.out).mono ?_; rintro e8 w8 ⟨A8, n8, c8, rfl, hB8, hc8, hb8, -⟩; have HB8 := Lib.hid hB8; have B8 : Below w7.heap.size w7 w8 := (Below.refl w7.heap.size w7).drew.trans hb8; have K8 := Lib.hid (range_row (HR7.out.below B8 hlt7)); clear hB8))
      | (go_at_call 17; (refine (Same_same _ _ _ _ _ _ D w8 (HB32.out.below B8) HB8.out (by omega)).mono ?_; rintro e9 w9 ⟨rfl, k9, rfl⟩; have B9 : Below w7.heap.size w7 (w8.drewN k9) := below_drewN B8 k9; have K9 := Lib.hid (range_row (HR7.out.below B9 hlt7))))
      | (go_at_call 9; (refine (awake_any (w8.drewN k9) (HT2.out.below (hb7'.trans (B9.mono hb7'.size)))).mono ?_; rintro e10 w10 ⟨rfl, hb10⟩; have B10 : Below w7.heap.size w7 w10 := B9.trans (hb10.mono B9.size); have K10 := Lib.hid (range_row (HR7.out.below B10 hlt7)))))
  all_goals
    go_wp2_with fail
    go_ret
    exact ⟨rfl, hb7'.trans (B10.mono hb7'.size)⟩
set_option maxRecDepth 100000 in
set_option maxHeartbeats 1000000 in
theorem walk (w : World) (a0 : Option Addr) (len0 cap0 : Nat) (l0 : List UInt8) (w0 : Bs w a0 len0 l0) (s0 : len0 ≤ cap0 ∧ cap0 ≤ 140737488351232) (a1 : ByteArray) (a2 : Int) (w2 : (Lit.int .i64 a2).wf = true) (hT : Tab 2 w) :
    Calls Tryd.prog 8 #[.slice a0 len0 cap0, .string a1, .int .i64 a2] w fun e w' => e = .returned (.bool true) ∧ Below w.heap.size w w' := by
  have HT2 := Lib.hid hT
  by_cases h0 : len0 ≤ 200
  · have i0 : ¬ 200 < (len0 : Int) := by omega
    by_cases h1 : a1.size ≤ 200
    · have i1 : ¬ 200 < (a1.size : Int) := by omega
      by_cases h2 : a2 < 32
      · clear w0 w2 hT
        go_enter Tryd.func8, Tryd.ntmps8
        go_wp2_with (go_at_call 9; refine (awake_any _ HT2.out).mono ?_; rintro e4 w4 ⟨rfl, hb4⟩)
        go_ret
        exact ⟨rfl, hb4⟩
      · by_cases h3 : 8160 < a2
        · clear w0 w2 hT
          go_enter Tryd.func8, Tryd.ntmps8
          go_wp2_with (go_at_call 9; refine (awake_any _ HT2.out).mono ?_; rintro e4 w4 ⟨rfl, hb4⟩)
          go_ret
          exact ⟨rfl, hb4⟩
        · obtain ⟨k, rfl⟩ : ∃ k : Nat, a2 = (k : Int) := ⟨a2.toNat, by omega⟩
          exact walk_ok w a0 len0 cap0 l0 w0 s0.1 a1 k hT h0 h1 (by omega) (by omega)
    · have i1 : 200 < (a1.size : Int) := by omega
      clear w0 w2 hT
      go_enter Tryd.func8, Tryd.ntmps8
      go_wp2_with (go_at_call 9; refine (awake_any _ HT2.out).mono ?_; rintro e4 w4 ⟨rfl, hb4⟩)
      go_ret
      exact ⟨rfl, hb4⟩
  · have i0 : 200 < (len0 : Int) := by omega
    clear w0 w2 hT
    go_enter Tryd.func8, Tryd.ntmps8
    go_wp2_with (go_at_call 9; refine (awake_any _ HT2.out).mono ?_; rintro e4 w4 ⟨rfl, hb4⟩)
    go_ret
    exact ⟨rfl, hb4⟩

set_option maxRecDepth 100000 in
theorem lifted (os : Os) (started : os.Started) (H : Type) (enc : TypeId × Value → H) :
    ReturnsInHanded {} Tryd.checked os 8 .any (fun w args => (Rows.macFirstSpec.pre enc Tryd.prog Tryd.f8 Rows.macFirstRow.domain false w args ∧ laidMetH Tryd.prog lay1 w) ∧ sizedMet enc Tryd.prog Tryd.f8 (OpenSpec.ofChange Rows.macFirstSpec) false w args)
      (Rows.macFirstSpec.post enc Tryd.prog Tryd.f8 false true false false) := by
  refine returnsInHanded_of_change_and (C := Tryd.checked) (X := fun w _ => laidMetH Tryd.prog lay1 w) (fun _ _ _ hh h => h.of_heap hh) own started (by kernel_rfl) Tryd.func8
    (ChangeSpec.witness_shaped (enc := enc) (C := Tryd.checked) (os := os) (X := fun w _ => laidMetH Tryd.prog lay1 w) false (World.laidAll Tryd.prog os lay1) #[.slice none 0 0, .string ByteArray.empty, .int .i64 0] 8 rfl (World.shaped_of_ZipB (by kernel_rfl) (by kernel_rfl)) (by kernel_rfl) (by kernel_rfl) (by kernel_rfl) (met1 os _)) ?_
  intro W base args ds gs before hval0 hW hcnd hsz0 hL _
  have hval : ∀ (j : Nat) t v, Tryd.f8.params[j]? = some t → args[j]? = some v → Value.okWide Tryd.prog W .any base t v := hval0
  have hW' := hW
  obtain ⟨p, q, hA0, hV, rfl, hfz, hnd⟩ := hW
  have hA : DataW.TrodAll enc Tryd.prog W 0 (fun _ => true) true Tryd.f8.params.toList args.toList ds p := hA0
  have hsz : (DataW.weightsEach Tryd.prog (Tryd.f8.params.toList ++ Rows.macFirstSpec.plain.varTypes Tryd.prog) (ds ++ gs)).all (· ≤ reachBytes) = true := hsz0
  rw [Tryd.params8] at hA hval hsz
  obtain ⟨v0, vs0, d0, ds0, p0, q0, hargs, rfl, rfl, h0, r0⟩ := trodAll_cons hA
  obtain ⟨v1, vs1, d1, ds1, p1, q1, rfl, rfl, rfl, h1, r1⟩ := trodAll_cons r0
  obtain ⟨v2, vs2, d2, ds2, p2, q2, rfl, rfl, rfl, h2, r2⟩ := trodAll_cons r1
  obtain ⟨rfl, rfl, rfl⟩ := trodAll_nil r2
  obtain rfl : args = #[v0, v1, v2] := by cases args; simp_all
  obtain ⟨rfl, rfl⟩ := trodVars_none hV
  obtain ⟨a0, len0, cap0, rfl⟩ := okWide_slice Tryd.underlying22 (hval 0 22 v0 rfl rfl)
  have k0 := h0
  have lt0 : ∀ x ∈ p0, x.block < W.heap.size := by obtain ⟨m, hm⟩ := k0; exact DataW.trod_lt m _ _ _ hm
  obtain ⟨l0, w0, s0⟩ : ∃ l, Bs W a0 len0 l ∧ len0 ≤ cap0 ∧ cap0 ≤ 140737488351232 := by
    obtain ⟨fuel, hf⟩ := h0
    rcases open_ints Tryd.underlying22 Tryd.underlying5 (by kernel_rfl) hf with ⟨hcs, _⟩ | ⟨x, l, c, zs, hcs, _, hl, hm, hz, hx, hcell, hwz⟩
    · simp [Value.cells] at hcs
      obtain ⟨rfl, rfl, rfl⟩ := hcs
      exact ⟨[], Bs.nil _ _, by omega, by omega⟩
    · simp [Value.cells] at hcs
      obtain ⟨rfl, rfl, rfl⟩ := hcs
      simp only [Prod.mk.injEq] at hx
      obtain ⟨rfl, _⟩ := hx
      have hb := sized_slice hsz (j := 0) (t := 22) (e := 5) rfl rfl Tryd.underlying22
      rw [show Tryd.prog.bytesOf 5 = 1 from by kernel_rfl] at hb
      simp only [lits, List.length_map, List.length_take, List.length_drop, reachBytes] at hb
      have hz' : zs.length = cap0 := by simpa using hz
      exact ⟨_, Bs.of_ints hl hz' hcell hwz, hl, by omega⟩
  obtain ⟨a1, rfl, rfl, rfl, w1⟩ := open_string Tryd.underlying9 (hval 1 9 v1 rfl rfl) h1
  obtain ⟨a2, rfl, rfl, rfl, w2⟩ := open_int Tryd.underlying3 (hval 2 3 v2 rfl rfl) h2
  have hTab := of_lay1 hL
  clear hA0 hval0
  refine (walk W a0 len0 cap0 l0 w0 s0 a1 a2 w2 hTab).mono fun e W' ⟨he, bel⟩ => ?_
  subst he
  exact ⟨_, rfl, _, _, _, [], _, [], hW', trodAll_mk1 (shut_bool Tryd.underlying4 _), (trodAll_cons_mk (Below.trod laidOut (by kernel_rfl) (of_decide_eq_true (by kernel_rfl)) k0 bel lt0) (trodAll_cons_mk (shut_string Tryd.underlying9 w1) (trodAll_cons_mk (shut_int Tryd.underlying3 w2) trodAll_mk0))), rfl, bel.frame _, fun h => by cases h⟩
theorem over : Rows.macFirstRow.holds Tryd.pinned (OpenSpec.ofChange Rows.macFirstSpec) :=
  OpenClaim.holds_of_wide 8 Tryd.f8 rfl rfl rfl rfl rfl rfl rfl ⟨rfl, rfl, rfl, rfl, rfl⟩ rfl rfl rfl rfl rfl (by kernel_rfl) Tryd.func8 (by kernel_rfl)
    (of_decide_eq_true (by kernel_rfl)) (by unfold Func.isWrapper; first | (rw [if_pos (by decide +kernel)]; kernel_rfl) | (rw [if_neg (by decide +kernel)]; exact ⟨rfl, rfl⟩))
    (fun os started H enc _ => lifted os started H enc)
theorem macFirst_holds : Rows.MacFirstCardSaid :=
  Claim7.holds_tied_plain_at .later [] [.data] true (true, "c1aaf16a699fb574ed9094ce5eacd068c6fd07693febcb0b710cf4b7deeb39ec") false
    over (fun _ h => by cases h) (by kernel_rfl) (fun _ h => by cases h) macFirst_row_tie rfl ⟨rfl, rfl⟩ (by kernel_rfl) rfl
    (fun f fn hf hfn => by
      obtain rfl : f = 8 := Option.some.inj ((show Tryd.prog.funcNamed "jurat/juratlaw03.MacFirst" = some 8 by kernel_rfl).symm.trans hf) |>.symm
      obtain rfl : fn = Tryd.f8 := (Option.some.inj (Tryd.func8.symm.trans hfn)).symm
      exact ⟨by kernel_rfl, fun j t ht => by
        rw [Tryd.params8] at ht
        have hm : t ∈ [22, 9, 3] := by simpa using Array.mem_of_getElem? ht
        have hall : ([22, 9, 3].all fun u => !Tryd.prog.wantsStandIn u) = true := by kernel_rfl
        exact (show Tryd.prog.wantsStandIn t = false by simpa using List.all_eq_true.1 hall t hm)⟩)
    (by kernel_rfl)
#print axioms macFirst_holds
end Go.Proofs.YtlndgefpmoooeaaDoor.macFirst
