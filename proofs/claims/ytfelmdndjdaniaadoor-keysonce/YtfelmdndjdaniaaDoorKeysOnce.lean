/-
  KeysOnce, whole, as the tied card (Rows.KeysOnceCardSaid): for every seed, height from 0 to 3 and list of up to 60 acts (sign a text of up to 200 bytes, or skip to a number), each signature's index is above those ahead of it and below 2^height, Sign answers OK, or ErrKeys where no index is left; and a key of one index signs once. Conditions: the table sha.constants reads as its initialiser lays it (tied to the program's text).
-/
import Derived.Test.YtfelmdndjdaniaaDoorRows
import Derived.Test.YtfelmdndjdaniaaDoorCards
import Derived.Test.YtfelmdndjdaniaaDoorTie
import Derived.WalkKit
import Derived.ProofKit
import Derived.OpenShut
import Derived.ChangeMaps5
import Derived.ShutString
import Derived.ChangeOld
import Derived.Below
import Derived.SizedLaws
import Derived.SevenTiedAt
import Derived.Lay
import Derived.LaidLaws
import Derived.Test.YtfelmdndjdaniaaDoorKeyT
namespace Go.Proofs.YtfelmdndjdaniaaDoor.keysOnce
open Go.ChangeShapes Go.WideShapes Go.ChangeAt Go.RowKit
open Go.ChangeMaps (open_string shut_string)
set_option linter.unusedVariables false
theorem own : ownKnob Tryd.prog.godebug = none := by kernel_rfl
theorem laidOut : laidOutB Tryd.prog = true := by kernel_rfl
set_option maxRecDepth 100000 in
set_option maxHeartbeats 1000000 in
theorem walk_no (w : World) (s0 : List UInt8) (a1 : Int) (a0 : Option Addr) (n0 c0 : Nat) (h : a1 < 0 ∨ 3 < a1 ∨ 60 < n0) (hT : Tab 1 w) :
    Calls Tryd.prog 7 #[.agg (bcells s0), .int .i64 a1, .slice a0 n0 c0] w fun e w' => e = .returned (.bool true) ∧ Below w.heap.size w w' := by
  have hb0 := (Below.refl w.heap.size w).alloc (Nat.le_refl _) (.cells (bcells s0) 23)
  have HT := Lib.hid hT
  clear hT
  by_cases i0 : a1 < 0
  · clear h
    go_enter Tryd.func7, Tryd.ntmps7
    go_wp2_with (go_at_call 12; refine (kawake_any _ (HT.out.below hb0)).mono ?_; rintro e2 w2 ⟨rfl, hb2⟩)
    go_ret
    exact ⟨rfl, hb0.trans (hb2.mono (by simp))⟩
  · by_cases i1 : 3 < a1
    · clear h
      go_enter Tryd.func7, Tryd.ntmps7
      go_wp2_with (go_at_call 12; refine (kawake_any _ (HT.out.below hb0)).mono ?_; rintro e2 w2 ⟨rfl, hb2⟩)
      go_ret
      exact ⟨rfl, hb0.trans (hb2.mono (by simp))⟩
    · have i2 : 60 < (n0 : Int) := by omega
      clear h
      go_enter Tryd.func7, Tryd.ntmps7
      go_wp2_with (go_at_call 12; refine (kawake_any _ (HT.out.below hb0)).mono ?_; rintro e2 w2 ⟨rfl, hb2⟩)
      go_ret
      exact ⟨rfl, hb0.trans (hb2.mono (by simp))⟩
set_option maxRecDepth 100000 in
set_option maxHeartbeats 4000000 in
theorem walk_ok (w : World) (s0 : List UInt8) (w0 : s0.length = 32) (h : Nat) (a0 : Option Addr) (n0 c0 : Nat) (hD : Dos w a0 n0) (h3 : h ≤ 3) (hn60 : n0 ≤ 60) (hT : Tab 1 w) :
    Calls Tryd.prog 7 #[.agg (bcells s0), .int .i64 (h : Int), .slice a0 n0 c0] w fun e w' => e = .returned (.bool true) ∧ Below w.heap.size w w' := by
  have hT1 := hT.1
  have i0 : ¬ (h : Int) < 0 := by omega
  have i1 : ¬ 3 < (h : Int) := by omega
  have i2 : ¬ 60 < (n0 : Int) := by omega
  have h6 : h ≤ 6 := by omega
  have hp6 := pow_le6 h6
  have hn0 := pow_pos2 h
  have hw1 : IntKind.i64.wrap ((2 : Int) ^ h) = ((2 ^ h : Nat) : Int) := by
    rw [show (2 : Int) ^ h = ((2 ^ h : Nat) : Int) by simp]
    generalize 2 ^ h = z at hp6 ⊢
    exact wrap_small _ (by omega) (by omega)
  have hw2 : IntKind.i64.wrap ((2 : Int) ^ min h 64) = ((2 ^ h : Nat) : Int) := by rw [Nat.min_eq_left (by omega)]; exact hw1
  have hw3 := wrap_pow (n := h) (by omega)
  have HKS := Lib.hid (show (bcells s0).size = 32 by rw [bcells_size, w0])
  have HNw := Lib.hid (fun w hT => New_ok s0 1 h w w0 (by omega) (by omega) h6 hT)
  have HSk := Lib.hid (fun T g nx to w hK => kSkip_any T g 1 h nx to s0 w hK)
  have HLe := Lib.hid (fun nx to (k : nx ≤ 2 ^ h) => skN_le (nx := nx) (n := 2 ^ h) to k)
  have HSg := Lib.hid (fun T g nx A nt ct l w hn hK hB hnc hnt hT hg => kSign_ok T g 1 h nx nt ct s0 l A w w0 (by omega) (by omega) h6 hn hK hB hnc hnt hT hg)
  have HSx := Lib.hid (fun T g A nt ct w hK => kSign_spent T g 1 h A nt ct s0 w h6 hK)
  have HLf : Hid (∀ T g w, KeyAt w T g s0 1 h (2 ^ h) → Calls Tryd.prog 18 #[.pointer (some ⟨g, 0, none⟩)] w fun e w' => e = .returned (.int .i64 0) ∧ Below w.heap.size w w') := Lib.hid (fun T g w hK => by
    have q := kLeft_any T g 1 h (2 ^ h) s0 w h6 (Nat.le_refl _) hK
    rw [Int.sub_self] at q
    exact q)
  unfold SkipK at HSk
  unfold SigK at HSg
  have HT := Lib.hid hT
  have HD := Lib.hid hD
  generalize hN : 2 ^ h = n at *
  clear hT hD w0 h6
  have hb0 := (Below.refl w.heap.size w).alloc (Nat.le_refl _) (.cells (bcells s0) 23)
  go_enter Tryd.func7, Tryd.ntmps7
  go_wp2_with (first
    | (with_reducible refine wpList_load_row Tryd.agg25 rfl (.tmp 3) rfl _ rfl 23 _ (Row.new w 23 (bcells s0)) HKS.out ?_)
    | (go_at_call 13; refine (HNw.out _ (HT.out.below hb0)).mono ?_; rintro e1 w1 ⟨g, rfl, hg, hk1, hb1⟩; have HK1 := Lib.hid hk1; have b1 := hb0.trans (hb1.mono (by simp)); simp at hg; clear hk1))
  go_loopw [9, 10] (fun la i wr => ∃ (j nx : Nat) (z : Int), j ≤ n0 ∧ i = .int .i64 (j : Int) ∧ la = .int .i64 z ∧ -1 ≤ z ∧ z < (nx : Int) ∧ nx ≤ n ∧ KeyAt wr wr.heap.size g s0 1 h nx ∧ Below w.heap.size w wr) (fun _ i _ => n0 - (intOf i).toNat)
  case atStart => exact ⟨0, 0, -1, Nat.zero_le _, rfl, rfl, by omega, by omega, Nat.zero_le _, HK1.out, b1⟩
  case round =>
    obtain ⟨j, nx, z, hj, rfl, rfl, hz1, hz2, hnx, hk, hb⟩ := hrel
    have hbs := hb.size
    have HK := Lib.hid hk
    clear hk
    by_cases hjn : j < n0
    · obtain ⟨b, off, ki, nn, A, m, c, l, rfl, hblt, d0, d1, d2, hB, hmc⟩ := HD.out j hjn
      have HB := Lib.hid hB
      have k0 : wr.cell? ⟨b, off + 3 * j, none⟩ = some (.int .i64 ki) := (hb.cell (p := ⟨b, off + 3 * j, none⟩) hblt).trans d0
      have k1 : wr.cell? ⟨b, off + 3 * j + 1, none⟩ = some (.int .i64 nn) := (hb.cell (p := ⟨b, off + 3 * j + 1, none⟩) hblt).trans d1
      have k2 : wr.cell? ⟨b, off + 3 * j + 2, none⟩ = some (.slice A m c) := (hb.cell (p := ⟨b, off + 3 * j + 2, none⟩) hblt).trans d2
      clear d0 d1 d2 hB
      have j1 : (j : Int) < (n0 : Int) := by omega
      by_cases h2 : 200 < m
      · have e2 : 200 < (m : Int) := by omega
        go_wp2_with (first
          | (with_reducible refine wpList_indexT rfl (.tmp 37) (.tmp 38) rfl b off n0 c0 j _ rfl rfl rfl hjn ?_)
          | (go_at_call 12; refine (kawake_any _ (HT.out.below hb)).mono ?_; rintro e4 w4 ⟨rfl, hb4⟩))
        go_ret
        exact ⟨rfl, hb.trans (hb4.mono hbs)⟩
      · have e2 : ¬ 200 < (m : Int) := by omega
        by_cases hki : ki = 0
        · subst hki
          by_cases hsp : nx = n
          · subst hsp
            go_wp2_with (first
              | (with_reducible refine wpList_indexT rfl (.tmp 37) (.tmp 38) rfl b off n0 c0 j _ rfl rfl rfl hjn ?_)
              | (with_reducible refine wpList_indexT rfl (.tmp 45) (.tmp 46) rfl b off n0 c0 j _ rfl rfl rfl hjn ?_)
              | (with_reducible refine wpList_indexT rfl (.tmp 60) (.tmp 61) rfl b off n0 c0 j _ rfl rfl rfl hjn ?_)
              | (go_at_call 22; refine (kown_any A m c l wr (HB.out.below hb) (by omega)).mono ?_; rintro e3 w3 ⟨A3, n3, c3, rfl, hB3, hc3, hb3, -⟩; have HK3 := Lib.hid (HK.out.below hb3); have hs3 := hb3.size; have b3 := hb.trans (hb3.mono hbs); clear hB3)
              | (go_at_call 21; refine (HSx.out wr.heap.size g A3 n3 c3 w3 HK3.out).mono ?_; rintro e4 w4 ⟨rfl, hb4⟩; have hs4 := hb4.size; have HK4 := Lib.hid (HK3.out.below (hb4.mono hs3)); have b4 := b3.trans (hb4.mono b3.size))
              | (with_reducible refine wpList_store_row Tryd.aggSig rfl (.tmp 11) (.tmp 67) rfl _ sig0 rfl rfl 44 sig0 (Row.new w4 44 sig0) (sigC_size _ _ _ _ _ _ _) (sigC_size _ _ _ _ _ _ _) (sigC_one _ _ _ _ _ _ _) ?_; intro w5 hr5 ho5; have b5' : Below w4.heap.size w4 w5 := ((Below.refl _ _).alloc (Nat.le_refl _) _).trans (ho5.below (Nat.le_refl _) (by simp)); have hs5 := b5'.size; have b5 := b4.trans (b5'.mono b4.size); have HK5 := Lib.hid (HK4.out.below (b5'.mono (by omega))); clear hr5)
              | (go_at_call 18; refine (HLf.out wr.heap.size g w5 HK5.out).mono ?_; rintro e6 w6 ⟨rfl, hb6⟩; have hs6 := hb6.size; have HK6 := Lib.hid ((HK5.out.below (hb6.mono (by omega))).low); have b6 := b5.trans (hb6.mono b5.size)))
            go_roundw
            case rel => exact ⟨j + 1, nx, z, by omega, by go_num, rfl, hz1, hz2, Nat.le_refl _, HK6.out, b6⟩
            case measure => simp [intOf]; omega
          · have hlt : nx < n := by omega
            have q1 : ¬ (nx : Int) ≤ z := by omega
            have q2 : ¬ (n : Int) ≤ (nx : Int) := by omega
            go_wp2_with (first
              | (with_reducible refine wpList_indexT rfl (.tmp 37) (.tmp 38) rfl b off n0 c0 j _ rfl rfl rfl hjn ?_)
              | (with_reducible refine wpList_indexT rfl (.tmp 45) (.tmp 46) rfl b off n0 c0 j _ rfl rfl rfl hjn ?_)
              | (with_reducible refine wpList_indexT rfl (.tmp 60) (.tmp 61) rfl b off n0 c0 j _ rfl rfl rfl hjn ?_)
              | (go_at_call 22; refine (kown_any A m c l wr (HB.out.below hb) (by omega)).mono ?_; rintro e3 w3 ⟨A3, n3, c3, rfl, hB3, hc3, hb3, -⟩; obtain rfl : m = n3 := HB.out.1.symm.trans hB3.1; have HB3 := Lib.hid hB3; have HK3 := Lib.hid (HK.out.below hb3); have hs3 := hb3.size; have b3 := hb.trans (hb3.mono hbs); clear hB3)
              | (go_at_call 21; refine (HSg.out wr.heap.size g nx A3 m c3 l w3 hlt HK3.out HB3.out hc3 (by omega) (HT.out.below b3) (by omega)).mono ?_; rintro e4 w4 ⟨A1, n1, c1, A2, n2, c2, rfl, -, -, -, -, hk4, ho4, -⟩; have hs4 := ho4.size; have HK4 := Lib.hid hk4; have b4 := b3.trans (ho4.below (B := w.heap.size) (by omega) b3.size); clear hk4)
              | (with_reducible refine wpList_store_row Tryd.aggSig rfl (.tmp 11) (.tmp 67) rfl _ (sigC (nx : Int) A1 n1 c1 A2 n2 c2) rfl rfl 44 sig0 (Row.new w4 44 sig0) (sigC_size _ _ _ _ _ _ _) (sigC_size _ _ _ _ _ _ _) (sigC_one _ _ _ _ _ _ _) ?_; intro w5 hr5 ho5; have HS5 := Lib.hid hr5; have b5' : Below w4.heap.size w4 w5 := ((Below.refl _ _).alloc (Nat.le_refl _) _).trans (ho5.below (Nat.le_refl _) (by simp)); have hs5 := b5'.size; have b5 := b4.trans (b5'.mono b4.size); have HK5 := Lib.hid ((HK4.out.below (b5'.mono (by omega))).low); clear hr5))
            have r5 : w5.cell? ⟨w4.heap.size, 0, none⟩ = some (.int .i64 (nx : Int)) := HS5.out.cell 0
            go_quiet (fail)
            go_wp2_with fail
            go_roundw
            case rel => exact ⟨j + 1, nx + 1, nx, by omega, by go_num, rfl, by omega, by omega, hlt, HK5.out, below_drewN b5 _⟩
            case measure => simp [intOf]; omega
        · have hki' : (ki != 0) = true := by simp [hki]
          go_wp2_with (first
            | (with_reducible refine wpList_indexT rfl (.tmp 37) (.tmp 38) rfl b off n0 c0 j _ rfl rfl rfl hjn ?_)
            | (with_reducible refine wpList_indexT rfl (.tmp 45) (.tmp 46) rfl b off n0 c0 j _ rfl rfl rfl hjn ?_)
            | (with_reducible refine wpList_indexT rfl (.tmp 52) (.tmp 53) rfl b off n0 c0 j _ rfl rfl rfl hjn ?_)
            | (go_at_call 19; refine (HSk.out wr.heap.size g nx nn wr HK.out).mono ?_; rintro e3 w3 ⟨rfl, hk3, ho3, -⟩; have hs3 := ho3.size; have HK3 := Lib.hid hk3.low; have b3 := hb.trans (ho3.below (B := w.heap.size) (by omega) hb.size); clear hk3))
          go_roundw
          case rel => exact ⟨j + 1, skN nx n nn, z, by omega, by go_num, rfl, hz1, (by have := (HLe.out nx nn hnx).1; omega), (HLe.out nx nn hnx).2, HK3.out, b3⟩
          case measure => simp [intOf]; omega
    · go_wp2_with (go_at_call 12; refine (kawake_any _ (HT.out.below hb)).mono ?_; rintro e4 w4 ⟨rfl, hb4⟩)
      go_ret
      exact ⟨rfl, hb.trans (hb4.mono hbs)⟩
theorem walk (w : World) (s0 : List UInt8) (w0 : s0.length = 32) (a1 : Int) (_w1 : (Lit.int .i64 a1).wf = true) (a2 : Option Addr) (len2 cap2 : Nat) (w2 : Dos w a2 len2) (hT : Tab 1 w) :
    Calls Tryd.prog 7 #[.agg (bcells s0), .int .i64 a1, .slice a2 len2 cap2] w fun e w' => e = .returned (.bool true) ∧ Below w.heap.size w w' := by
  by_cases hx : a1 < 0 ∨ 3 < a1 ∨ 60 < len2
  · exact walk_no w s0 a1 a2 len2 cap2 hx hT
  · obtain ⟨h, rfl⟩ := Int.eq_ofNat_of_zero_le (show 0 ≤ a1 by omega)
    exact walk_ok w s0 w0 h a2 len2 cap2 w2 (by omega) (by omega) hT

set_option maxRecDepth 100000 in
theorem lifted (os : Os) (started : os.Started) (H : Type) (enc : TypeId × Value → H) :
    ReturnsInHanded {} Tryd.checked os 7 .any (fun w args => (Rows.keysOnceSpec.pre enc Tryd.prog Tryd.f7 Rows.keysOnceRow.domain false w args ∧ laidMetH Tryd.prog lay1 w) ∧ sizedMet enc Tryd.prog Tryd.f7 (OpenSpec.ofChange Rows.keysOnceSpec) false w args)
      (Rows.keysOnceSpec.post enc Tryd.prog Tryd.f7 false true false false) := by
  refine returnsInHanded_of_change_and (C := Tryd.checked) (X := fun w _ => laidMetH Tryd.prog lay1 w) (fun _ _ _ hh h => h.of_heap hh) own started (by kernel_rfl) Tryd.func7
    (ChangeSpec.witness_shaped (enc := enc) (C := Tryd.checked) (os := os) (X := fun w _ => laidMetH Tryd.prog lay1 w) false (World.laidAll Tryd.prog os lay1) #[.agg #[.int .u8 0, .int .u8 0, .int .u8 0, .int .u8 0, .int .u8 0, .int .u8 0, .int .u8 0, .int .u8 0, .int .u8 0, .int .u8 0, .int .u8 0, .int .u8 0, .int .u8 0, .int .u8 0, .int .u8 0, .int .u8 0, .int .u8 0, .int .u8 0, .int .u8 0, .int .u8 0, .int .u8 0, .int .u8 0, .int .u8 0, .int .u8 0, .int .u8 0, .int .u8 0, .int .u8 0, .int .u8 0, .int .u8 0, .int .u8 0, .int .u8 0, .int .u8 0], .int .i64 0, .slice none 0 0] 8 rfl (World.shaped_of_ZipB (by kernel_rfl) (by kernel_rfl)) (by kernel_rfl) (by kernel_rfl) (by kernel_rfl) (met1 os _)) ?_
  intro W base args ds gs before hval0 hW hcnd hsz0 hL _
  have hval : ∀ (j : Nat) t v, Tryd.f7.params[j]? = some t → args[j]? = some v → Value.okWide Tryd.prog W .any base t v := hval0
  have hW' := hW
  obtain ⟨p, q, hA0, hV, rfl, hfz, hnd⟩ := hW
  have hA : DataW.TrodAll enc Tryd.prog W 0 (fun _ => true) true Tryd.f7.params.toList args.toList ds p := hA0
  have hsz : (DataW.weightsEach Tryd.prog (Tryd.f7.params.toList ++ Rows.keysOnceSpec.plain.varTypes Tryd.prog) (ds ++ gs)).all (· ≤ reachBytes) = true := hsz0
  rw [Tryd.params7] at hA hval hsz
  obtain ⟨v0, vs0, d0, ds0, p0, q0, hargs, rfl, rfl, h0, r0⟩ := trodAll_cons hA
  obtain ⟨v1, vs1, d1, ds1, p1, q1, rfl, rfl, rfl, h1, r1⟩ := trodAll_cons r0
  obtain ⟨v2, vs2, d2, ds2, p2, q2, rfl, rfl, rfl, h2, r2⟩ := trodAll_cons r1
  obtain ⟨rfl, rfl, rfl⟩ := trodAll_nil r2
  obtain rfl : args = #[v0, v1, v2] := by cases args; simp_all
  obtain ⟨rfl, rfl⟩ := trodVars_none hV
  have k0 := h0
  have lt0 : ∀ x ∈ p0, x.block < W.heap.size := by obtain ⟨m, hm⟩ := k0; exact DataW.trod_lt m _ _ _ hm
  obtain ⟨s0, w0, rfl⟩ : ∃ s : List UInt8, s.length = 32 ∧ v0 = .agg (bcells s) := open_digest (hval 0 23 v0 rfl rfl) h0
  obtain ⟨a1, rfl, rfl, rfl, w1⟩ := open_int Tryd.underlying3 (hval 1 3 v1 rfl rfl) h1
  have k2 := h2
  have lt2 : ∀ x ∈ p2, x.block < W.heap.size := by obtain ⟨m, hm⟩ := k2; exact DataW.trod_lt m _ _ _ hm
  obtain ⟨a2, len2, cap2, rfl, w2⟩ := open_dos (hval 2 36 v2 rfl rfl) h2
  have hTab := of_lay1 hL
  clear hA0 hval0
  refine (walk W s0 w0 a1 w1 a2 len2 cap2 w2 hTab).mono fun e W' ⟨he, bel⟩ => ?_
  subst he
  exact ⟨_, rfl, _, _, _, [], _, [], hW', trodAll_mk1 (shut_bool Tryd.underlying4 _), (trodAll_cons_mk (Below.trod laidOut (by kernel_rfl) (of_decide_eq_true (by kernel_rfl)) k0 bel lt0) (trodAll_cons_mk (shut_int Tryd.underlying3 w1) (trodAll_cons_mk (Below.trod laidOut (by kernel_rfl) (of_decide_eq_true (by kernel_rfl)) k2 bel lt2) trodAll_mk0))), rfl, bel.frame _, fun h => by cases h⟩
theorem over : Rows.keysOnceRow.holds Tryd.pinned (OpenSpec.ofChange Rows.keysOnceSpec) :=
  OpenClaim.holds_of_wide 7 Tryd.f7 rfl rfl rfl rfl rfl rfl rfl ⟨rfl, rfl, rfl, rfl, rfl⟩ rfl rfl rfl rfl rfl (by kernel_rfl) Tryd.func7 (by kernel_rfl)
    (of_decide_eq_true (by kernel_rfl)) (by unfold Func.isWrapper; first | (rw [if_pos (by decide +kernel)]; kernel_rfl) | (rw [if_neg (by decide +kernel)]; exact ⟨rfl, rfl⟩))
    (fun os started H enc _ => lifted os started H enc)
theorem keysOnce_holds : Rows.KeysOnceCardSaid :=
  Claim7.holds_tied_plain_at .later [] [.data] true (true, "d3f0664aba75a8af102b5f214e5048e24f7f5bc8fe66a510793bef99d59ac9fb") false
    over (fun _ h => by cases h) (by kernel_rfl) (fun _ h => by cases h) keysOnce_row_tie rfl ⟨rfl, rfl⟩ (by kernel_rfl) rfl
    (fun f fn hf hfn => by
      obtain rfl : f = 7 := Option.some.inj ((show Tryd.prog.funcNamed "jurat/juratlaw07.KeysOnce" = some 7 by kernel_rfl).symm.trans hf) |>.symm
      obtain rfl : fn = Tryd.f7 := (Option.some.inj (Tryd.func7.symm.trans hfn)).symm
      exact ⟨by kernel_rfl, fun j t ht => by
        rw [Tryd.params7] at ht
        have hm : t ∈ [23, 3, 36] := by simpa using Array.mem_of_getElem? ht
        have hall : ([23, 3, 36].all fun u => !Tryd.prog.wantsStandIn u) = true := by kernel_rfl
        exact (show Tryd.prog.wantsStandIn t = false by simpa using List.all_eq_true.1 hall t hm)⟩)
    (by kernel_rfl)
#print axioms keysOnce_holds
end Go.Proofs.YtfelmdndjdaniaaDoor.keysOnce
