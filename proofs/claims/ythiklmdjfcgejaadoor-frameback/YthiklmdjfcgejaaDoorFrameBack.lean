/-
  FrameBack, whole, as the tied card (Rows.FrameBackCardSaid): for every list of texts (up to 40 of up to 500 bytes are played) and all bytes (up to 1000) behind their frames: of the frames alone Scan tells just these texts and all the bytes; of the frames with the bytes behind them it tells these texts first, and counts at least their frames' bytes; and the example of one record. Conditions: the table sha.constants reads as its initialiser lays it (tied to the program's text).
-/
import Derived.Test.YthiklmdjfcgejaaDoorRows
import Derived.Test.YthiklmdjfcgejaaDoorCards
import Derived.Test.YthiklmdjfcgejaaDoorTie
import Derived.WalkKit
import Derived.ProofKit
import Derived.OpenShut
import Derived.ChangeMaps5
import Derived.ShutString
import Derived.ChangeOld
import Derived.Below
import Derived.SizedLaws
import Derived.SevenTiedAt
import Derived.Lay
import Derived.LaidLaws
import Derived.Test.YthiklmdjfcgejaaDoorFrF
namespace Go.Proofs.YthiklmdjfcgejaaDoor.frameBack
open Go.ChangeShapes Go.WideShapes Go.ChangeAt Go.RowKit
open Go.ChangeMaps (open_string shut_string)
set_option linter.unusedVariables false
theorem own : ownKnob Tryd.prog.godebug = none := by kernel_rfl
theorem laidOut : laidOutB Tryd.prog = true := by kernel_rfl
set_option maxRecDepth 100000 in
set_option maxHeartbeats 4000000 in
theorem walk (w : World) (a0 : Option Addr) (len0 cap0 : Nat) (L0 : List (List UInt8)) (w0 : Bss w a0 len0 L0) (a1 : Option Addr) (len1 cap1 : Nat) (l1 : List UInt8) (w1 : Bs w a1 len1 l1) (s1 : len1 ≤ cap1 ∧ cap1 ≤ 140737488351232) (hT : Tab 2 w) :
    Calls Tryd.prog 5 #[.slice a0 len0 cap0, .slice a1 len1 cap1] w fun e w' => e = .returned (.bool true) ∧ Below w.heap.size w w' := by
  have HT := Lib.hid hT
  have HL := Lib.hid w0
  have HB := Lib.hid w1
  obtain ⟨s1, -⟩ := s1
  have HMd := Lib.hid (made_any a0 len0 cap0 L0 w w0 hT)
  clear hT w0 w1
  by_cases hn : len1 ≤ 1000
  · have hni : ¬ (1000 : Int) < (len1 : Int) := by omega
    go_enter Tryd.func5, Tryd.ntmps5
    go_wp2_with fail
    refine HMd.out.mono ?_
    rintro e1 v1 ⟨ok, T, A1, m, c1, rfl, hok, hmc, ho1, hb1⟩
    have hs1 := hb1.size
    have HO1 := Lib.hid ho1
    have HMl := Lib.hid ho1.length
    clear ho1
    rcases ok with _ | _
    · clear hok
      go_wp2_with (go_at_call 8; refine (awake_any v1 (HT.out.below hb1)).mono ?_; rintro e5 w5 ⟨rfl, hb5⟩)
      go_ret
      exact ⟨rfl, hb1.trans (hb5.mono hs1)⟩
    · obtain ⟨rfl, h40, h500⟩ := hok rfl
      have hm : m ≤ 20680 := by rw [← HMl.out]; exact frs_small h40 h500
      have hlen : len0 ≤ 40 := by have := HL.out.1; omega
      have HW := Lib.hid (Scans.whole L0 (fun t ht => Nat.le_trans (h500 t ht) (by omega)))
      have H5 := Lib.hid (show ∀ t ∈ L0, t.length ≤ 262144 from fun t ht => Nat.le_trans (h500 t ht) (by omega))
      have H6 := Lib.hid (show ∀ t ∈ L0, t.length ≤ 1000000 from fun t ht => Nat.le_trans (h500 t ht) (by omega))
      have HY := Lib.hid (fun w h => own_any A1 m c1 (frsB L0) w h (by omega))
      unfold S4NewSlice at HY
      rw [HMl.out] at HW HY
      have HFst := Lib.hid (fun r K n h => Scans.first L0 r K n H5.out h)
      rw [HMl.out] at HFst
      clear hok h40 h500
      generalize frsB L0 = T at *
      have tok1 := Lib.hid True.intro
      go_wp2_with (first
        | (go_at_call 10; have hz := HS3; clear hz; refine (HY.out v3 (HO1.out.bs.below b13)).mono ?_; rintro e4 v4 ⟨A4, c4, rfl, hc4, hb4, ho4⟩; have HO4 := Lib.hid ho4; have b4 := b3.trans (hb4.mono b3.size); have hs4 := hb4.size; clear ho4)
        | (at_builtin; refine wpList_app Tryd.byteTypes rfl (.tmp 32) (.tmp 33) rfl v3.heap.size (.slice A4 m c4) m T rfl HO4.out a1 len1 cap1 l1 rfl (HB.out.below b4) (by omega) hs4 ?_; intro A5 c5 v5 ho5 hb5 _; have HO5 := Lib.hid ho5.bs; have b5 := b3.trans ((hb4.trans hb5).mono b3.size); have b35 : Below v3.heap.size v3 v5 := hb4.trans (hb5.mono (Nat.le_refl _)); have hmc5 : m + len1 ≤ c5 := (by obtain ⟨x, y, e, h⟩ := ho5.form; injection e with _ _ e; rw [e]; exact h); have hs5 := b5.size; clear ho5)
        | (go_at_call 10; refine (HY.out v1 HO1.out.bs).mono ?_; rintro e2 v2 ⟨A2, c2, rfl, hc2, hb2, ho2⟩; have hs2 := hb2.size; have HO2 := Lib.hid ho2; clear ho2)
        | (go_at_call 13; have hz := HO5; clear hz; refine (Scan_any A5 (m + len1) c5 (T ++ l1) v5 HO5.out hmc5 (by omega) (HT.out.below b5)).mono ?_; rintro e6 v6 ⟨L6, k6, s6, A6, c6, rfl, hS6, ho6, hb6⟩; have b6 := b5.trans (hb6.mono hs5); obtain ⟨K6, hL6, -, hms⟩ := HFst.out l1 L6 s6 hS6; have hk6 : len0 ≤ k6 := (by rw [← ho6.length, hL6, List.length_append, HL.out.1]; omega); have hkc : k6 ≤ c6 := (by obtain ⟨x, y, e, h⟩ := ho6.form; injection e with _ _ e; rw [e]; exact h); have hsm : s6 ≤ m + len1 := (by have h := hS6.small.2.1; rw [List.length_append, HMl.out, HB.out.1] at h; exact h); obtain ⟨A7, hc7, hB7⟩ := cutL_head A6 k6 c6 len0 hk6 hkc; have HB7 := Lib.hid (show Bss v6 A7 len0 L0 by have h := hB7 v6 L6 ho6.bss; rw [hL6, ← HL.out.1, List.take_left] at h; rw [← HL.out.1]; exact h); have HB3 := Lib.hid (HO3.out.bss.below (b35.trans (hb6.mono b35.size))); have HL6 := Lib.hid (HL.out.below b6); have hki : (len0 : Int) ≤ (k6 : Int) := (by omega); have hmi : (m : Int) ≤ (s6 : Int) := (by omega); have hsi : (s6 : Int) ≤ (m : Int) + (len1 : Int) := (by omega); clear hS6 ho6 hL6 hB7)
        | (go_at_call 13; have _t := tok1; refine (Scan_any A2 m c2 T v2 HO2.out.bs hc2 (by omega) (HT.out.below (hb1.trans (hb2.mono hs1)))).mono ?_; rintro e3 v3 ⟨L3, k3, s3, A3, c3, rfl, hS3, ho3, hb3⟩; obtain ⟨rfl, rfl⟩ := HW.out.one hS3; obtain rfl : len0 = k3 := HL.out.1.symm.trans ho3.length; have HO3 := Lib.hid ho3; have b3 : Below w.heap.size w v3 := (hb1.trans (hb2.mono hs1)).trans (hb3.mono (by omega)); have b13 : Below v1.heap.size v1 v3 := hb2.trans (hb3.mono hs2); have HS3 := Lib.hid True.intro; clear hS3 ho3 _t tok1)
        | (go_at_call 15; have hz := tok7; clear hz; refine (LSame_yes A7 a0 len0 c6 cap0 L0 (v6.drewN m7) (HB7.out.drewN m7) (HL6.out.drewN m7) (by omega) H6.out).mono ?_; rintro e8 v8 ⟨rfl, m8, rfl⟩)
        | (go_at_call 15; refine (LSame_yes A3 a0 len0 c3 cap0 L0 _ HB3.out HL6.out (by omega) H6.out).mono ?_; rintro e7 v7 ⟨rfl, m7, rfl⟩; have tok7 := Lib.hid True.intro)
        | (go_at_call 8; refine (awake_any (v6.drewN (m7 + m8)) (HT.out.below (below_drewN b6 _))).mono ?_; rintro e9 v9 ⟨rfl, hb9⟩))
      go_ret
      exact ⟨rfl, (below_drewN b6 (m7 + m8)).trans (hb9.mono b6.size)⟩
  · have hni : (1000 : Int) < (len1 : Int) := by omega
    go_enter Tryd.func5, Tryd.ntmps5
    go_wp2_with fail
    refine HMd.out.mono ?_
    rintro e1 v1 ⟨ok, T, A1, m, c1, rfl, hok, hmc, ho1, hb1⟩
    clear hok hmc ho1
    rcases ok with _ | _
    · go_wp2_with (go_at_call 8; refine (awake_any v1 (HT.out.below hb1)).mono ?_; rintro e5 w5 ⟨rfl, hb5⟩)
      go_ret
      exact ⟨rfl, hb1.trans (hb5.mono hb1.size)⟩
    · go_wp2_with (go_at_call 8; refine (awake_any v1 (HT.out.below hb1)).mono ?_; rintro e5 w5 ⟨rfl, hb5⟩)
      go_ret
      exact ⟨rfl, hb1.trans (hb5.mono hb1.size)⟩

set_option maxRecDepth 100000 in
theorem lifted (os : Os) (started : os.Started) (H : Type) (enc : TypeId × Value → H) :
    ReturnsInHanded {} Tryd.checked os 5 .any (fun w args => (Rows.frameBackSpec.pre enc Tryd.prog Tryd.f5 Rows.frameBackRow.domain false w args ∧ laidMetH Tryd.prog lay1 w) ∧ sizedMet enc Tryd.prog Tryd.f5 (OpenSpec.ofChange Rows.frameBackSpec) false w args)
      (Rows.frameBackSpec.post enc Tryd.prog Tryd.f5 false true false false) := by
  refine returnsInHanded_of_change_and (C := Tryd.checked) (X := fun w _ => laidMetH Tryd.prog lay1 w) (fun _ _ _ hh h => h.of_heap hh) own started (by kernel_rfl) Tryd.func5
    (ChangeSpec.witness_shaped (enc := enc) (C := Tryd.checked) (os := os) (X := fun w _ => laidMetH Tryd.prog lay1 w) false (World.laidAll Tryd.prog os lay1) #[.slice none 0 0, .slice none 0 0] 8 rfl (World.shaped_of_ZipB (by kernel_rfl) (by kernel_rfl)) (by kernel_rfl) (by kernel_rfl) (by kernel_rfl) (met1 os _)) ?_
  intro W base args ds gs before hval0 hW hcnd hsz0 hL _
  have hval : ∀ (j : Nat) t v, Tryd.f5.params[j]? = some t → args[j]? = some v → Value.okWide Tryd.prog W .any base t v := hval0
  have hW' := hW
  obtain ⟨p, q, hA0, hV, rfl, hfz, hnd⟩ := hW
  have hA : DataW.TrodAll enc Tryd.prog W 0 (fun _ => true) true Tryd.f5.params.toList args.toList ds p := hA0
  have hsz : (DataW.weightsEach Tryd.prog (Tryd.f5.params.toList ++ Rows.frameBackSpec.plain.varTypes Tryd.prog) (ds ++ gs)).all (· ≤ reachBytes) = true := hsz0
  rw [Tryd.params5] at hA hval hsz
  obtain ⟨v0, vs0, d0, ds0, p0, q0, hargs, rfl, rfl, h0, r0⟩ := trodAll_cons hA
  obtain ⟨v1, vs1, d1, ds1, p1, q1, rfl, rfl, rfl, h1, r1⟩ := trodAll_cons r0
  obtain ⟨rfl, rfl, rfl⟩ := trodAll_nil r1
  obtain rfl : args = #[v0, v1] := by cases args; simp_all
  obtain ⟨rfl, rfl⟩ := trodVars_none hV
  have k0 := h0
  have lt0 : ∀ x ∈ p0, x.block < W.heap.size := by obtain ⟨m, hm⟩ := k0; exact DataW.trod_lt m _ _ _ hm
  obtain ⟨a0, len0, cap0, L0, rfl, w0⟩ := open_bss (hval 0 32 v0 rfl rfl) h0
  obtain ⟨a1, len1, cap1, rfl⟩ := okWide_slice Tryd.underlying22 (hval 1 22 v1 rfl rfl)
  have k1 := h1
  have lt1 : ∀ x ∈ p1, x.block < W.heap.size := by obtain ⟨m, hm⟩ := k1; exact DataW.trod_lt m _ _ _ hm
  obtain ⟨l1, w1, s1⟩ : ∃ l, Bs W a1 len1 l ∧ len1 ≤ cap1 ∧ cap1 ≤ 140737488351232 := by
    obtain ⟨fuel, hf⟩ := h1
    rcases open_ints Tryd.underlying22 Tryd.underlying5 (by kernel_rfl) hf with ⟨hcs, _⟩ | ⟨x, l, c, zs, hcs, _, hl, hm, hz, hx, hcell, hwz⟩
    · simp [Value.cells] at hcs
      obtain ⟨rfl, rfl, rfl⟩ := hcs
      exact ⟨[], Bs.nil _ _, by omega, by omega⟩
    · simp [Value.cells] at hcs
      obtain ⟨rfl, rfl, rfl⟩ := hcs
      simp only [Prod.mk.injEq] at hx
      obtain ⟨rfl, _⟩ := hx
      have hb := sized_slice hsz (j := 1) (t := 22) (e := 5) rfl rfl Tryd.underlying22
      rw [show Tryd.prog.bytesOf 5 = 1 from by kernel_rfl] at hb
      simp only [lits, List.length_map, List.length_take, List.length_drop, reachBytes] at hb
      have hz' : zs.length = cap1 := by simpa using hz
      exact ⟨_, Bs.of_ints hl hz' hcell hwz, hl, by omega⟩
  have hTab := of_lay1 hL
  clear hA0 hval0
  refine (walk W a0 len0 cap0 L0 w0 a1 len1 cap1 l1 w1 s1 hTab).mono fun e W' ⟨he, bel⟩ => ?_
  subst he
  exact ⟨_, rfl, _, _, _, [], _, [], hW', trodAll_mk1 (shut_bool Tryd.underlying4 _), (trodAll_cons_mk (Below.trod laidOut (by kernel_rfl) (of_decide_eq_true (by kernel_rfl)) k0 bel lt0) (trodAll_cons_mk (Below.trod laidOut (by kernel_rfl) (of_decide_eq_true (by kernel_rfl)) k1 bel lt1) trodAll_mk0)), rfl, bel.frame _, fun h => by cases h⟩
theorem over : Rows.frameBackRow.holds Tryd.pinned (OpenSpec.ofChange Rows.frameBackSpec) :=
  OpenClaim.holds_of_wide 5 Tryd.f5 rfl rfl rfl rfl rfl rfl rfl ⟨rfl, rfl, rfl, rfl, rfl⟩ rfl rfl rfl rfl rfl (by kernel_rfl) Tryd.func5 (by kernel_rfl)
    (of_decide_eq_true (by kernel_rfl)) (by unfold Func.isWrapper; first | (rw [if_pos (by decide +kernel)]; kernel_rfl) | (rw [if_neg (by decide +kernel)]; exact ⟨rfl, rfl⟩))
    (fun os started H enc _ => lifted os started H enc)
theorem frameBack_holds : Rows.FrameBackCardSaid :=
  Claim7.holds_tied_plain_at .later [] [.data] true (true, "0dfdb452681147ab36feb87030e359a9ea2d751349dfb2aa735547e11ec60962") false
    over (fun _ h => by cases h) (by kernel_rfl) (fun _ h => by cases h) frameBack_row_tie rfl ⟨rfl, rfl⟩ (by kernel_rfl) rfl
    (fun f fn hf hfn => by
      obtain rfl : f = 5 := Option.some.inj ((show Tryd.prog.funcNamed "jurat/juratlaw11.FrameBack" = some 5 by kernel_rfl).symm.trans hf) |>.symm
      obtain rfl : fn = Tryd.f5 := (Option.some.inj (Tryd.func5.symm.trans hfn)).symm
      exact ⟨by kernel_rfl, fun j t ht => by
        rw [Tryd.params5] at ht
        have hm : t ∈ [32, 22] := by simpa using Array.mem_of_getElem? ht
        have hall : ([32, 22].all fun u => !Tryd.prog.wantsStandIn u) = true := by kernel_rfl
        exact (show Tryd.prog.wantsStandIn t = false by simpa using List.all_eq_true.1 hall t hm)⟩)
    (by kernel_rfl)
#print axioms frameBack_holds
end Go.Proofs.YthiklmdjfcgejaaDoor.frameBack
