/-
  FrameCuts, whole, as the tied card (Rows.FrameCutsCardSaid): for every list of texts (up to 40 of up to 500 bytes are played) and every number of their frames' first bytes Scan tells just the texts whose frames are there wholly, and counts these frames' bytes; and the example of one record. Conditions: the table sha.constants reads as its initialiser lays it (tied to the program's text).
-/
import Derived.Test.YthiklmdjfcgejaaDoorRows
import Derived.Test.YthiklmdjfcgejaaDoorCards
import Derived.Test.YthiklmdjfcgejaaDoorTie
import Derived.WalkKit
import Derived.ProofKit
import Derived.OpenShut
import Derived.ChangeMaps5
import Derived.ShutString
import Derived.ChangeOld
import Derived.Below
import Derived.SizedLaws
import Derived.SevenTiedAt
import Derived.Lay
import Derived.LaidLaws
import Derived.Test.YthiklmdjfcgejaaDoorFrG
namespace Go.Proofs.YthiklmdjfcgejaaDoor.frameCuts
open Go.ChangeShapes Go.WideShapes Go.ChangeAt Go.RowKit
open Go.ChangeMaps (open_string shut_string)
set_option linter.unusedVariables false
theorem own : ownKnob Tryd.prog.godebug = none := by kernel_rfl
theorem laidOut : laidOutB Tryd.prog = true := by kernel_rfl
set_option maxRecDepth 100000 in
set_option maxHeartbeats 4000000 in
theorem walk_neg (w : World) (a0 : Option Addr) (len0 cap0 : Nat) (L0 : List (List UInt8)) (w0 : Bss w a0 len0 L0) (a1 : Int) (h1 : a1 < 0) (hT : Tab 2 w) :
    Calls Tryd.prog 6 #[.slice a0 len0 cap0, .int .i64 a1] w fun e w' => e = .returned (.bool true) ∧ Below w.heap.size w w' := by
  have HT := Lib.hid hT
  have HMd := Lib.hid (made_any a0 len0 cap0 L0 w w0 hT)
  clear hT w0
  go_enter Tryd.func6, Tryd.ntmps6
  go_wp2_with fail
  refine HMd.out.mono ?_
  rintro e1 v1 ⟨ok, T, A1, m, c1, rfl, hok, hmc, ho1, hb1⟩
  clear hok hmc ho1
  rcases ok with _ | _
  · go_wp2_with (go_at_call 8; refine (awake_any v1 (HT.out.below hb1)).mono ?_; rintro e5 w5 ⟨rfl, hb5⟩)
    go_ret
    exact ⟨rfl, hb1.trans (hb5.mono hb1.size)⟩
  · go_wp2_with (go_at_call 8; refine (awake_any v1 (HT.out.below hb1)).mono ?_; rintro e5 w5 ⟨rfl, hb5⟩)
    go_ret
    exact ⟨rfl, hb1.trans (hb5.mono hb1.size)⟩
set_option maxRecDepth 100000 in
set_option maxHeartbeats 4000000 in
theorem walk_ok (w : World) (a0 : Option Addr) (len0 cap0 : Nat) (L0 : List (List UInt8)) (w0 : Bss w a0 len0 L0) (s0 : len0 ≤ cap0) (cut : Nat) (hc : cut ≤ 9223372036854775807) (hT : Tab 2 w) :
    Calls Tryd.prog 6 #[.slice a0 len0 cap0, .int .i64 (cut : Int)] w fun e w' => e = .returned (.bool true) ∧ Below w.heap.size w w' := by
  have HT := Lib.hid hT
  have HL := Lib.hid w0
  have HMd := Lib.hid (made_any a0 len0 cap0 L0 w w0 hT)
  clear hT w0
  go_enter Tryd.func6, Tryd.ntmps6
  go_wp2_with fail
  refine HMd.out.mono ?_
  rintro e1 v1 ⟨ok, T, A1, m, c1, rfl, hok, hmc, ho1, hb1⟩
  have hs1 := hb1.size
  have HO1 := Lib.hid ho1
  have HMl := Lib.hid ho1.length
  clear ho1
  have hci : ¬ (cut : Int) < 0 := by omega
  rcases ok with _ | _
  · clear hok
    go_wp2_with (go_at_call 8; refine (awake_any v1 (HT.out.below hb1)).mono ?_; rintro e5 w5 ⟨rfl, hb5⟩)
    go_ret
    exact ⟨rfl, hb1.trans (hb5.mono hs1)⟩
  · obtain ⟨rfl, h40, h500⟩ := hok rfl
    have hm : m ≤ 20680 := by rw [← HMl.out]; exact frs_small h40 h500
    have hlen : len0 ≤ 40 := by have := HL.out.1; omega
    have H5 := Lib.hid (show ∀ t ∈ L0, t.length ≤ 262144 from fun t ht => Nat.le_trans (h500 t ht) (by omega))
    have H50 := Lib.hid h500
    have H6 := Lib.hid (show ∀ t ∈ L0, t.length ≤ 1000000 from fun t ht => Nat.le_trans (h500 t ht) (by omega))
    clear hok h40 h500
    obtain ⟨r, hr, hrm⟩ : ∃ r : Nat, (cut : Int) % ((m : Int) + 1) = (r : Int) ∧ r ≤ m := ⟨cut % (m + 1), by simp, by have := Nat.mod_lt cut (show 0 < m + 1 by omega); omega⟩
    have hz0 : ¬ (m : Int) + 1 = 0 := by omega
    have HY := Lib.hid (fun A w h => own_any A r c1 ((frsB L0).take r) w h (by omega))
    have HTl := Lib.hid (show ((frsB L0).take r).length = r by rw [List.length_take, HMl.out]; omega)
    have HC := Lib.hid (fun q h1 h2 => Scans.cut L0 H5.out r q h1 h2)
    unfold S4NewSlice at HY
    rw [HTl.out] at HY
    have HT2 := Lib.hid (show Bs v1 A1 r ((frsB L0).take r) from HO1.out.bs.take hrm)
    clear HTl hci hc
    generalize (frsB L0).take r = T at *
    go_wp2_with (first
      | (go_at_call 10; refine (HY.out A1 v1 HT2.out).mono ?_; rintro e2 v2 ⟨A3, c3, rfl, hc3, hb2, ho2⟩; have HO2 := Lib.hid ho2; have hs2 := hb2.size; have b2 := hb1.trans (hb2.mono hs1); clear ho2)
      | (go_at_call 13; refine (Scan_any A3 r c3 T v2 HO2.out.bs hc3 (by omega) (HT.out.below b2)).mono ?_; rintro e3 v3 ⟨L3, k3, s3, A4, c4, rfl, hS3, ho3, hb3⟩; have HS3 := Lib.hid hS3; have HO3 := Lib.hid ho3; have b3 := b2.trans (hb3.mono b2.size); clear hS3 ho3))
    clear hr
    go_loopw [9, 10] (fun i o wr => ∃ q at1 : Nat, q ≤ len0 ∧ i = .int .i64 (q : Int) ∧ o = .int .i64 (at1 : Int) ∧ at1 ≤ r ∧ Hid ((frsB (L0.take q)).length = at1) ∧ Below v3.heap.size v3 wr) (fun i _ _ => len0 - (intOf i).toNat)
    case atStart => exact ⟨0, 0, Nat.zero_le _, rfl, rfl, Nat.zero_le _, Lib.hid (by simp [frsB]), Below.refl _ _⟩
    case round =>
      obtain ⟨q, at1, hq, rfl, rfl, hat, HA, hbel⟩ := hrel
      have hbw := b3.trans (hbel.mono b3.size)
      by_cases hlt : q < len0
      · have hqi : (q : Int) < (len0 : Int) := by omega
        obtain ⟨b, off, A', c', l, rfl, -, hx, hcell, hlc, hBl⟩ := (HL.out.below hbw).get hlt
        have HX := Lib.hid hx
        have hl5 := H50.out l (List.mem_of_getElem? hx)
        have HYl := Lib.hid (own_any A' l.length c' l wr hBl (by omega))
        have HW := Lib.hid (fun A c w hB hT => Wrap_any A l.length c l w hB (by omega) hT)
        have hfl : (frB l).length ≤ 600 := by have := wide8 (N := l.length) (by omega); rw [frB_length]; omega
        have HF := Lib.hid (frsB_take L0 q l hx)
        unfold S4NewSlice at HYl
        unfold NewErr at HW
        obtain ⟨m2, hm2⟩ : ∃ m2, l.length = m2 := ⟨_, rfl⟩
        rw [hm2] at hcell hlc HYl HW hl5
        obtain ⟨F, hF⟩ : ∃ F, frB l = F := ⟨_, rfl⟩
        have HFl := Lib.hid hF
        rw [hF] at HW hfl HF
        obtain ⟨f, hf⟩ : ∃ f, F.length = f := ⟨_, rfl⟩
        have Hf := Lib.hid hf
        rw [hf] at HW hfl
        clear hx hBl hm2 hF hf
        by_cases hgo : at1 + f ≤ r
        · have hgi : ¬ (r : Int) - (at1 : Int) < (f : Int) := by omega
          have HA2 := Lib.hid (show (frsB (L0.take (q + 1))).length = at1 + f by rw [HF.out, List.length_append, HA.out, Hf.out])
          go_wp2_with (first
            | (go_at_call 10; refine HYl.out.mono ?_; rintro e4 v4 ⟨A5, c5, rfl, hc5, hb4, ho4⟩; have HO4 := Lib.hid ho4; have hs4 := hb4.size; clear ho4)
            | (go_at_call 9; refine (HW.out A5 c5 v4 HO4.out.bs (HT.out.below (hbw.trans (hb4.mono hbw.size)))).mono ?_; rintro e5 v5 ⟨A6, c6, rfl, hc6, hb5, ho5⟩; clear ho5))
          go_roundw
          case rel => exact ⟨q + 1, at1 + f, by omega, by go_num, by go_num, hgo, HA2, hbel.trans ((hb4.trans (hb5.mono hs4)).mono hbel.size)⟩
          case measure => simp [intOf]; omega
        · have hgi : (r : Int) - (at1 : Int) < (f : Int) := by omega
          have HN : Scans T (L0.take q) at1 := by
            have h := HC.out q (by rw [HA.out]; exact hat) (fun t ht => by have e := HX.out.symm.trans ht; injection e with e; rw [HA.out, ← e, HFl.out, Hf.out]; omega)
            rw [HA.out] at h
            exact h
          obtain ⟨e1, rfl⟩ := HN.one HS3.out
          have HO4 := HO3.out
          rw [← e1] at HO4
          obtain rfl : q = k3 := by rw [← HO4.length, List.length_take, HL.out.1]; omega
          have HB4 := Lib.hid HO4.bss
          obtain ⟨A7, hc7, hB7⟩ := cutL_head (some ⟨b, off, none⟩) len0 cap0 q hq s0
          have HB7 := Lib.hid (hB7 w L0 HL.out)
          have H7 := Lib.hid (show ∀ t ∈ L0.take q, t.length ≤ 1000000 from fun t ht => H6.out t (List.mem_of_mem_take ht))
          clear HN e1 HO4 hB7 HA HC HS3
          clear HX HFl Hf HF hgo
          go_wp2_with (first
            | (go_at_call 10; refine HYl.out.mono ?_; rintro e4 v4 ⟨A5, c5, rfl, hc5, hb4, ho4⟩; have HO4 := Lib.hid ho4; have hs4 := hb4.size; have b4 := hbw.trans (hb4.mono hbw.size); clear ho4)
            | (go_at_call 9; refine (HW.out A5 c5 v4 HO4.out.bs (HT.out.below b4)).mono ?_; rintro e5 v5 ⟨A6, c6, rfl, hc6, hb5, ho5⟩; have b5 := b4.trans (hb5.mono b4.size); have b35 := hbel.trans ((hb4.trans (hb5.mono hs4)).mono hbel.size); clear ho5)
            | (go_at_call 15; refine (LSame_yes A4 A7 q c4 cap0 (L0.take q) v5 (HB4.out.below b35) (HB7.out.below b5) (by omega) H7.out).mono ?_; rintro e7 v7 ⟨rfl, m7, rfl⟩)
            | (go_at_call 8; refine (awake_any (v5.drewN m7) (HT.out.below (below_drewN b5 m7))).mono ?_; rintro e8 v8 ⟨rfl, hb8⟩))
          go_ret
          exact ⟨rfl, (below_drewN b5 m7).trans (hb8.mono b5.size)⟩
      · obtain rfl : q = len0 := by omega
        have HN : Scans T (L0.take q) at1 := by
          have h := HC.out q (by rw [HA.out]; exact hat) (fun t ht => by rw [List.getElem?_eq_none_iff.2 (by rw [HL.out.1]; omega)] at ht; cases ht)
          rw [HA.out] at h
          exact h
        obtain ⟨e1, rfl⟩ := HN.one HS3.out
        have HO4 := HO3.out
        rw [← e1] at HO4
        obtain rfl : q = k3 := by rw [← HO4.length, List.length_take, HL.out.1]; omega
        have HB4 := Lib.hid HO4.bss
        obtain ⟨A7, hc7, hB7⟩ := cutL_head a0 q cap0 q hq s0
        have HB7 := Lib.hid (hB7 w L0 HL.out)
        have H7 := Lib.hid (show ∀ t ∈ L0.take q, t.length ≤ 1000000 from fun t ht => H6.out t (List.mem_of_mem_take ht))
        clear HN e1 HO4 hB7 HA HC HS3
        go_wp2_with (first
          | (go_at_call 15; refine (LSame_yes A4 A7 q c4 cap0 (L0.take q) wr (HB4.out.below hbel) (HB7.out.below hbw) (by omega) H7.out).mono ?_; rintro e7 v7 ⟨rfl, m7, rfl⟩)
          | (go_at_call 8; refine (awake_any (wr.drewN m7) (HT.out.below (below_drewN hbw m7))).mono ?_; rintro e8 v8 ⟨rfl, hb8⟩))
        go_ret
        exact ⟨rfl, (below_drewN hbw m7).trans (hb8.mono hbw.size)⟩
theorem walk (w : World) (a0 : Option Addr) (len0 cap0 : Nat) (L0 : List (List UInt8)) (w0 : Bss w a0 len0 L0) (s0 : len0 ≤ cap0) (a1 : Int) (_w1 : (Lit.int .i64 a1).wf = true) (hT : Tab 2 w) :
    Calls Tryd.prog 6 #[.slice a0 len0 cap0, .int .i64 a1] w fun e w' => e = .returned (.bool true) ∧ Below w.heap.size w w' := by
  by_cases h : a1 < 0
  · exact walk_neg w a0 len0 cap0 L0 w0 a1 h hT
  · obtain ⟨n, rfl⟩ : ∃ n : Nat, a1 = (n : Int) := ⟨a1.toNat, by omega⟩
    exact walk_ok w a0 len0 cap0 L0 w0 s0 n (by simp [Lit.wf] at _w1; omega) hT

set_option maxRecDepth 100000 in
theorem lifted (os : Os) (started : os.Started) (H : Type) (enc : TypeId × Value → H) :
    ReturnsInHanded {} Tryd.checked os 6 .any (fun w args => (Rows.frameCutsSpec.pre enc Tryd.prog Tryd.f6 Rows.frameCutsRow.domain false w args ∧ laidMetH Tryd.prog lay1 w) ∧ sizedMet enc Tryd.prog Tryd.f6 (OpenSpec.ofChange Rows.frameCutsSpec) false w args)
      (Rows.frameCutsSpec.post enc Tryd.prog Tryd.f6 false true false false) := by
  refine returnsInHanded_of_change_and (C := Tryd.checked) (X := fun w _ => laidMetH Tryd.prog lay1 w) (fun _ _ _ hh h => h.of_heap hh) own started (by kernel_rfl) Tryd.func6
    (ChangeSpec.witness_shaped (enc := enc) (C := Tryd.checked) (os := os) (X := fun w _ => laidMetH Tryd.prog lay1 w) false (World.laidAll Tryd.prog os lay1) #[.slice none 0 0, .int .i64 0] 8 rfl (World.shaped_of_ZipB (by kernel_rfl) (by kernel_rfl)) (by kernel_rfl) (by kernel_rfl) (by kernel_rfl) (met1 os _)) ?_
  intro W base args ds gs before hval0 hW hcnd hsz0 hL _
  have hval : ∀ (j : Nat) t v, Tryd.f6.params[j]? = some t → args[j]? = some v → Value.okWide Tryd.prog W .any base t v := hval0
  have hW' := hW
  obtain ⟨p, q, hA0, hV, rfl, hfz, hnd⟩ := hW
  have hA : DataW.TrodAll enc Tryd.prog W 0 (fun _ => true) true Tryd.f6.params.toList args.toList ds p := hA0
  have hsz : (DataW.weightsEach Tryd.prog (Tryd.f6.params.toList ++ Rows.frameCutsSpec.plain.varTypes Tryd.prog) (ds ++ gs)).all (· ≤ reachBytes) = true := hsz0
  rw [Tryd.params6] at hA hval hsz
  obtain ⟨v0, vs0, d0, ds0, p0, q0, hargs, rfl, rfl, h0, r0⟩ := trodAll_cons hA
  obtain ⟨v1, vs1, d1, ds1, p1, q1, rfl, rfl, rfl, h1, r1⟩ := trodAll_cons r0
  obtain ⟨rfl, rfl, rfl⟩ := trodAll_nil r1
  obtain rfl : args = #[v0, v1] := by cases args; simp_all
  obtain ⟨rfl, rfl⟩ := trodVars_none hV
  have k0 := h0
  have lt0 : ∀ x ∈ p0, x.block < W.heap.size := by obtain ⟨m, hm⟩ := k0; exact DataW.trod_lt m _ _ _ hm
  obtain ⟨a0, len0, cap0, L0, rfl, w0, s0⟩ := open_bssc (hval 0 32 v0 rfl rfl) h0
  obtain ⟨a1, rfl, rfl, rfl, w1⟩ := open_int Tryd.underlying3 (hval 1 3 v1 rfl rfl) h1
  have hTab := of_lay1 hL
  clear hA0 hval0
  refine (walk W a0 len0 cap0 L0 w0 s0 a1 w1 hTab).mono fun e W' ⟨he, bel⟩ => ?_
  subst he
  exact ⟨_, rfl, _, _, _, [], _, [], hW', trodAll_mk1 (shut_bool Tryd.underlying4 _), (trodAll_cons_mk (Below.trod laidOut (by kernel_rfl) (of_decide_eq_true (by kernel_rfl)) k0 bel lt0) (trodAll_cons_mk (shut_int Tryd.underlying3 w1) trodAll_mk0)), rfl, bel.frame _, fun h => by cases h⟩
theorem over : Rows.frameCutsRow.holds Tryd.pinned (OpenSpec.ofChange Rows.frameCutsSpec) :=
  OpenClaim.holds_of_wide 6 Tryd.f6 rfl rfl rfl rfl rfl rfl rfl ⟨rfl, rfl, rfl, rfl, rfl⟩ rfl rfl rfl rfl rfl (by kernel_rfl) Tryd.func6 (by kernel_rfl)
    (of_decide_eq_true (by kernel_rfl)) (by unfold Func.isWrapper; first | (rw [if_pos (by decide +kernel)]; kernel_rfl) | (rw [if_neg (by decide +kernel)]; exact ⟨rfl, rfl⟩))
    (fun os started H enc _ => lifted os started H enc)
theorem frameCuts_holds : Rows.FrameCutsCardSaid :=
  Claim7.holds_tied_plain_at .later [] [.data] true (true, "0dfdb452681147ab36feb87030e359a9ea2d751349dfb2aa735547e11ec60962") false
    over (fun _ h => by cases h) (by kernel_rfl) (fun _ h => by cases h) frameCuts_row_tie rfl ⟨rfl, rfl⟩ (by kernel_rfl) rfl
    (fun f fn hf hfn => by
      obtain rfl : f = 6 := Option.some.inj ((show Tryd.prog.funcNamed "jurat/juratlaw11.FrameCuts" = some 6 by kernel_rfl).symm.trans hf) |>.symm
      obtain rfl : fn = Tryd.f6 := (Option.some.inj (Tryd.func6.symm.trans hfn)).symm
      exact ⟨by kernel_rfl, fun j t ht => by
        rw [Tryd.params6] at ht
        have hm : t ∈ [32, 3] := by simpa using Array.mem_of_getElem? ht
        have hall : ([32, 3].all fun u => !Tryd.prog.wantsStandIn u) = true := by kernel_rfl
        exact (show Tryd.prog.wantsStandIn t = false by simpa using List.all_eq_true.1 hall t hm)⟩)
    (by kernel_rfl)
#print axioms frameCuts_holds
end Go.Proofs.YthiklmdjfcgejaaDoor.frameCuts
