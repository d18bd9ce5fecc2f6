/-
  FrameOne, whole, as the tied card (Rows.FrameOneCardSaid): for every slice of bytes (up to 4000 are played) the frames of the records that Scan tells, one behind the other, are just the bytes that it counts; and the example of one record. Conditions: the table sha.constants reads as its initialiser lays it (tied to the program's text).
-/
import Derived.Test.YthiklmdjfcgejaaDoorRows
import Derived.Test.YthiklmdjfcgejaaDoorCards
import Derived.Test.YthiklmdjfcgejaaDoorTie
import Derived.WalkKit
import Derived.ProofKit
import Derived.OpenShut
import Derived.ChangeMaps5
import Derived.ShutString
import Derived.ChangeOld
import Derived.Below
import Derived.SizedLaws
import Derived.SevenTiedAt
import Derived.Lay
import Derived.LaidLaws
import Derived.Test.YthiklmdjfcgejaaDoorFrF
namespace Go.Proofs.YthiklmdjfcgejaaDoor.frameOne
open Go.ChangeShapes Go.WideShapes Go.ChangeAt Go.RowKit
open Go.ChangeMaps (open_string shut_string)
set_option linter.unusedVariables false
theorem own : ownKnob Tryd.prog.godebug = none := by kernel_rfl
theorem laidOut : laidOutB Tryd.prog = true := by kernel_rfl
set_option maxRecDepth 100000 in
set_option maxHeartbeats 2000000 in
theorem walk (w : World) (a0 : Option Addr) (len0 cap0 : Nat) (l0 : List UInt8) (w0 : Bs w a0 len0 l0) (s0 : len0 ≤ cap0 ∧ cap0 ≤ 140737488351232) (hT : Tab 2 w) :
    Calls Tryd.prog 7 #[.slice a0 len0 cap0] w fun e w' => e = .returned (.bool true) ∧ Below w.heap.size w w' := by
  have HT := Lib.hid hT
  have HB := Lib.hid w0
  obtain ⟨s0, -⟩ := s0
  clear hT
  by_cases hn : len0 ≤ 4000
  · have hni : ¬ (4000 : Int) < (len0 : Int) := by omega
    have HO := Lib.hid (own_any a0 len0 cap0 l0 w w0 (by omega))
    have hl := w0.1
    have HLn := Lib.hid hl
    unfold S4NewSlice at HO
    rw [hl] at HO
    clear w0 hl
    go_enter Tryd.func7, Tryd.ntmps7
    go_wp2_with (first
      | (go_at_call 10; refine HO.out.mono ?_; rintro e1 w1 ⟨A1, c1, rfl, hc1, hb1, ho1⟩; have hs1 := hb1.size; have HO1 := Lib.hid ho1; clear ho1)
      | (go_at_call 13; refine (Scan_any A1 len0 c1 l0 w1 HO1.out.bs hc1 (by omega) (HT.out.below hb1)).mono ?_; rintro e2 w2 ⟨L2, k2, s2, A2, c2, rfl, hS2, ho2, hb2⟩; have HS2 := Lib.hid hS2; have HO2 := Lib.hid ho2.bss; have hk2 : k2 ≤ 4000 := (by have h1 := hS2.small.1; have h2 := ho2.length; have h3 := HLn.out; omega); have hss : s2 ≤ len0 := (by have h1 := hS2.small.2.1; have h3 := HLn.out; omega); have HSz := Lib.hid hS2.1.size; have HM2 := Lib.hid hS2.1.2.2; have HK2 := Lib.hid ho2.length; have b2 := hb1.trans (hb2.mono hs1); have hs2 := b2.size; clear hS2 ho2))
    go_loopw [5, 6] (fun o i wr => ∃ (k m1 : Nat) (A1 : Option Addr) (c1 : Nat), k ≤ k2 ∧ i = .int .i64 (k : Int) ∧ o = .slice A1 m1 c1 ∧ Below w2.heap.size w2 wr ∧ Hid (Own wr w2.heap.size 5 (.slice A1 m1 c1) m1 (frsB (L2.take k)))) (fun _ i _ => k2 - (intOf i).toNat)
    case atStart => exact ⟨0, 0, none, 0, Nat.zero_le _, rfl, rfl, Below.refl _ _, Lib.hid (Own.nil _ _ _)⟩
    case round =>
      obtain ⟨k, m1, A3, c3, hk, rfl, rfl, hbel, HO3⟩ := hrel
      have hbs := hbel.size
      have hbw := b2.trans (hbel.mono hs2)
      by_cases hlt : k < k2
      · obtain ⟨b, off, A', c', l, rfl, -, hx, hcell, hlc, hBl⟩ := (HO2.out.below hbel).get hlt
        have hki : (k : Int) < (k2 : Int) := by omega
        have HX := Lib.hid hx
        have HBl := Lib.hid hBl
        have HF := Lib.hid (frsB_take L2 k l hx)
        have hm1 : m1 + (frB l).length ≤ 4000 := by
          have h1 := frsB_take_le L2 (k + 1)
          rw [HF.out, List.length_append, HO3.out.length, HSz.out] at h1
          omega
        have HW := Lib.hid (Wrap_any A' l.length c' l wr hBl (HM2.out l (List.mem_of_getElem? hx)) (HT.out.below hbw))
        unfold NewErr at HW
        generalize frB l = F at *
        obtain ⟨f, hf⟩ : ∃ f, F.length = f := ⟨_, rfl⟩
        rw [hf] at HW hm1
        obtain ⟨m, hm⟩ : ∃ m, l.length = m := ⟨_, rfl⟩
        rw [hm] at hcell HW hlc
        clear hx hBl hf hm
        go_wp2_with (first
          | (go_at_call 9; refine HW.out.mono ?_; rintro e4 w4 ⟨A4, c4, rfl, hc4, hb4, ho4⟩; have hs4 := hb4.size; have HO4 := Lib.hid (own_below HO3.out hb4))
          | (at_builtin; refine wpList_app Tryd.byteTypes rfl (.tmp 35) (.tmp 36) rfl w2.heap.size (.slice A3 m1 c3) m1 (frsB (L2.take k)) rfl HO4.out A4 f c4 F rfl ho4.bs (by omega) (by omega) ?_; intro A5 c5 w5 hown hbel5 _))
        go_roundw
        case rel => exact ⟨k + 1, m1 + f, A5, c5, by omega, by go_num, rfl, (hbel.trans (hb4.mono hbs)).trans hbel5, Lib.hid (by rw [HF.out]; exact hown)⟩
        case measure => simp [intOf]; omega
      · obtain rfl : k = k2 := by omega
        have hall := HO3.out
        rw [List.take_of_length_le (by rw [HK2.out]; exact Nat.le_refl _), HS2.out.1.1] at hall
        have hm1 : m1 = s2 := by rw [← hall.length, List.length_take, HLn.out]; omega
        subst hm1
        have hle : (m1 : Int) ≤ (len0 : Int) := by omega
        obtain ⟨A6, hc6, hB6⟩ := cutI_head a0 len0 cap0 m1 hss s0
        have HA := Lib.hid hall.bs
        have HB6 := Lib.hid (hB6 wr l0 (HB.out.below hbw))
        clear hall hB6 HO3
        go_wp2_with (first
          | (go_at_call 12; refine (Same_yes A3 A6 m1 c3 cap0 _ wr HA.out HB6.out (by omega)).mono ?_; rintro e4 w4 ⟨rfl, m4, rfl⟩)
          | (go_at_call 8; refine (awake_any _ (HT.out.below (below_drewN hbw m4))).mono ?_; rintro e5 w5 ⟨rfl, hb5⟩))
        go_ret
        exact ⟨rfl, (below_drewN hbw m4).trans (hb5.mono hbw.size)⟩
  · have hni : (4000 : Int) < (len0 : Int) := by omega
    clear w0
    go_enter Tryd.func7, Tryd.ntmps7
    go_wp2_with (go_at_call 8; refine (awake_any w HT.out).mono ?_; rintro e5 w5 ⟨rfl, hb5⟩)
    go_ret
    exact ⟨rfl, hb5⟩

set_option maxRecDepth 100000 in
theorem lifted (os : Os) (started : os.Started) (H : Type) (enc : TypeId × Value → H) :
    ReturnsInHanded {} Tryd.checked os 7 .any (fun w args => (Rows.frameOneSpec.pre enc Tryd.prog Tryd.f7 Rows.frameOneRow.domain false w args ∧ laidMetH Tryd.prog lay1 w) ∧ sizedMet enc Tryd.prog Tryd.f7 (OpenSpec.ofChange Rows.frameOneSpec) false w args)
      (Rows.frameOneSpec.post enc Tryd.prog Tryd.f7 false true false false) := by
  refine returnsInHanded_of_change_and (C := Tryd.checked) (X := fun w _ => laidMetH Tryd.prog lay1 w) (fun _ _ _ hh h => h.of_heap hh) own started (by kernel_rfl) Tryd.func7
    (ChangeSpec.witness_shaped (enc := enc) (C := Tryd.checked) (os := os) (X := fun w _ => laidMetH Tryd.prog lay1 w) false (World.laidAll Tryd.prog os lay1) #[.slice none 0 0] 8 rfl (World.shaped_of_ZipB (by kernel_rfl) (by kernel_rfl)) (by kernel_rfl) (by kernel_rfl) (by kernel_rfl) (met1 os _)) ?_
  intro W base args ds gs before hval0 hW hcnd hsz0 hL _
  have hval : ∀ (j : Nat) t v, Tryd.f7.params[j]? = some t → args[j]? = some v → Value.okWide Tryd.prog W .any base t v := hval0
  have hW' := hW
  obtain ⟨p, q, hA0, hV, rfl, hfz, hnd⟩ := hW
  have hA : DataW.TrodAll enc Tryd.prog W 0 (fun _ => true) true Tryd.f7.params.toList args.toList ds p := hA0
  have hsz : (DataW.weightsEach Tryd.prog (Tryd.f7.params.toList ++ Rows.frameOneSpec.plain.varTypes Tryd.prog) (ds ++ gs)).all (· ≤ reachBytes) = true := hsz0
  rw [Tryd.params7] at hA hval hsz
  obtain ⟨v0, vs0, d0, ds0, p0, q0, hargs, rfl, rfl, h0, r0⟩ := trodAll_cons hA
  obtain ⟨rfl, rfl, rfl⟩ := trodAll_nil r0
  obtain rfl : args = #[v0] := by cases args; simp_all
  obtain ⟨rfl, rfl⟩ := trodVars_none hV
  obtain ⟨a0, len0, cap0, rfl⟩ := okWide_slice Tryd.underlying22 (hval 0 22 v0 rfl rfl)
  have k0 := h0
  have lt0 : ∀ x ∈ p0, x.block < W.heap.size := by obtain ⟨m, hm⟩ := k0; exact DataW.trod_lt m _ _ _ hm
  obtain ⟨l0, w0, s0⟩ : ∃ l, Bs W a0 len0 l ∧ len0 ≤ cap0 ∧ cap0 ≤ 140737488351232 := by
    obtain ⟨fuel, hf⟩ := h0
    rcases open_ints Tryd.underlying22 Tryd.underlying5 (by kernel_rfl) hf with ⟨hcs, _⟩ | ⟨x, l, c, zs, hcs, _, hl, hm, hz, hx, hcell, hwz⟩
    · simp [Value.cells] at hcs
      obtain ⟨rfl, rfl, rfl⟩ := hcs
      exact ⟨[], Bs.nil _ _, by omega, by omega⟩
    · simp [Value.cells] at hcs
      obtain ⟨rfl, rfl, rfl⟩ := hcs
      simp only [Prod.mk.injEq] at hx
      obtain ⟨rfl, _⟩ := hx
      have hb := sized_slice hsz (j := 0) (t := 22) (e := 5) rfl rfl Tryd.underlying22
      rw [show Tryd.prog.bytesOf 5 = 1 from by kernel_rfl] at hb
      simp only [lits, List.length_map, List.length_take, List.length_drop, reachBytes] at hb
      have hz' : zs.length = cap0 := by simpa using hz
      exact ⟨_, Bs.of_ints hl hz' hcell hwz, hl, by omega⟩
  have hTab := of_lay1 hL
  clear hA0 hval0
  refine (walk W a0 len0 cap0 l0 w0 s0 hTab).mono fun e W' ⟨he, bel⟩ => ?_
  subst he
  exact ⟨_, rfl, _, _, _, [], _, [], hW', trodAll_mk1 (shut_bool Tryd.underlying4 _), (trodAll_cons_mk (Below.trod laidOut (by kernel_rfl) (of_decide_eq_true (by kernel_rfl)) k0 bel lt0) trodAll_mk0), rfl, bel.frame _, fun h => by cases h⟩
theorem over : Rows.frameOneRow.holds Tryd.pinned (OpenSpec.ofChange Rows.frameOneSpec) :=
  OpenClaim.holds_of_wide 7 Tryd.f7 rfl rfl rfl rfl rfl rfl rfl ⟨rfl, rfl, rfl, rfl, rfl⟩ rfl rfl rfl rfl rfl (by kernel_rfl) Tryd.func7 (by kernel_rfl)
    (of_decide_eq_true (by kernel_rfl)) (by unfold Func.isWrapper; first | (rw [if_pos (by decide +kernel)]; kernel_rfl) | (rw [if_neg (by decide +kernel)]; exact ⟨rfl, rfl⟩))
    (fun os started H enc _ => lifted os started H enc)
theorem frameOne_holds : Rows.FrameOneCardSaid :=
  Claim7.holds_tied_plain_at .later [] [.data] true (true, "0dfdb452681147ab36feb87030e359a9ea2d751349dfb2aa735547e11ec60962") false
    over (fun _ h => by cases h) (by kernel_rfl) (fun _ h => by cases h) frameOne_row_tie rfl ⟨rfl, rfl⟩ (by kernel_rfl) rfl
    (fun f fn hf hfn => by
      obtain rfl : f = 7 := Option.some.inj ((show Tryd.prog.funcNamed "jurat/juratlaw11.FrameOne" = some 7 by kernel_rfl).symm.trans hf) |>.symm
      obtain rfl : fn = Tryd.f7 := (Option.some.inj (Tryd.func7.symm.trans hfn)).symm
      exact ⟨by kernel_rfl, fun j t ht => by
        rw [Tryd.params7] at ht
        have hm : t ∈ [22] := by simpa using Array.mem_of_getElem? ht
        have hall : ([22].all fun u => !Tryd.prog.wantsStandIn u) = true := by kernel_rfl
        exact (show Tryd.prog.wantsStandIn t = false by simpa using List.all_eq_true.1 hall t hm)⟩)
    (by kernel_rfl)
#print axioms frameOne_holds
end Go.Proofs.YthiklmdjfcgejaaDoor.frameOne
