/-
  WireWrites, whole (Rows.WireWritesSaid): the bytes of numbers, texts and lists are the document's. No conditions.
  The frame is the shell of the proof by program (proof-skeleton); the walk is mine.
-/
import Derived.Test.YtjifahocfbbicaaRows
import Derived.WalkKit
import Derived.ProofKit
import Derived.OpenShut
import Derived.ShutString
import Derived.ChangeOld
import Derived.Below
import Derived.SizedLaws
import Derived.Test.YtjifahocfbbicaaOpens
namespace Go.Proofs.Ytjifahocfbbicaa.wireWrites
open Go.ChangeShapes Go.WideShapes Go.ChangeAt Go.RowKit
set_option linter.unusedVariables false
theorem own : ownKnob Try.prog.godebug = none := by kernel_rfl
theorem laidOut : laidOutB Try.prog = true := by kernel_rfl
theorem bs_len {w : World} {A : Option Addr} {n c : Nat} {l : List UInt8} (h : Own w n 5 (.slice A l.length c) l.length l) : Bs w A l.length l := h.bs
set_option maxRecDepth 100000 in
set_option maxHeartbeats 2000000 in
theorem walk (w : World) (a0 : Int) (w0 : (Lit.int .u64 a0).wf = true) (a1 : Option Addr) (len1 cap1 : Nat) (L : List (List UInt8)) (w1 : Bss w a1 len1 L) :
    Calls Try.prog 3 #[.int .u64 a0, .slice a1 len1 cap1] w fun e w' => e = .returned (.bool true) ∧ Below w.heap.size w w' := by
  have HB := Lib.hid w1
  have hbd := bounds_u64 w0
  obtain ⟨N, rfl⟩ := Int.eq_ofNat_of_zero_le hbd.1
  have hN : N < 18446744073709551616 := by have := hbd.2; omega
  have HL := Lib.hid (long_any a1 len1 cap1 L w w1)
  have hlen := w1.1
  clear w1 hbd w0
  by_cases hlong : longL L = true
  · rw [hlong] at HL
    clear hlong
    go_enter Try.func3, Try.ntmps3
    go_wp2_with (first
      | (go_at_call 10; refine HL.out.mono ?_; rintro e w2 ⟨rfl, rfl⟩)
      | (go_at_call 11; refine (awake_any _).mono ?_; rintro e w3 ⟨rfl, hb3⟩))
    go_ret
    exact ⟨rfl, hb3⟩
  · have hlong : longL L = false := by simpa using hlong
    obtain ⟨h100, h500⟩ := longL_no hlong
    rw [hlong] at HL
    have HM := Lib.hid (fun l (h : l ∈ L) => Nat.le_trans (h500 l h) (by omega : 500 ≤ 1000000))
    have H500 := Lib.hid h500
    have hn : len1 ≤ 100 := by omega
    have HLL := Lib.hid (show (listB L).length ≤ 1000010000000 by
      have := texts_take_le (L := L) (by omega) HM.out L.length
      rwa [List.take_of_length_le (Nat.le_refl _)] at this)
    have HLA := Lib.hid (fun A c w h => List_any A len1 c L w h (by omega) HM.out)
    have HRA := Lib.hid (fun A c w h => RefList_any A len1 c L w h (by omega) HM.out)
    have HCO := Lib.hid (fun w h => copies_any a1 len1 cap1 L w h (by omega) HM.out)
    unfold NewList at HCO
    rw [hlen] at HCO
    have HNL := Lib.hid (show (numB N).length ≤ 9 by have := wide8 hN; rw [numB_length]; omega)
    have HN1 := Lib.hid (fun w => Num_any N w hN)
    have HN2 := Lib.hid (fun w => RefNum_any N w hN)
    unfold NewSlice at HN1 HN2 HLA HRA
    generalize numB N = nb at *
    generalize listB L = lb at *
    clear hlong h100 h500 hlen
    go_enter Try.func3, Try.ntmps3
    go_wp2_with (go_at_call 10; refine HL.out.mono ?_; rintro e w2 ⟨rfl, rfl⟩)
    go_loopw [5] (fun i wr => ∃ k : Nat, k ≤ len1 ∧ i = .int .i64 k ∧ Below w.heap.size w wr) (fun i _ => len1 - (intOf i).toNat)
    case atStart => exact ⟨0, Nat.zero_le _, rfl, Below.refl _ _⟩
    case round =>
      obtain ⟨k, hk, rfl, hb1⟩ := hrel
      have hs1 := hb1.size
      by_cases hlt : k < len1
      · obtain ⟨b, off, A', c', l, rfl, hb, hx, hc, hnc, hB'⟩ := (HB.out.below hb1).get hlt
        have hl : l.length ≤ 500 := H500.out l (List.mem_of_getElem? hx)
        have HB' := Lib.hid hB'
        have hi : (k : Int) < (len1 : Int) := by omega
        have HTl := Lib.hid (show (textB l).length ≤ 1000 by have := wide8 (N := l.length) (by omega); rw [textB_length]; omega)
        have HT1 := Lib.hid (fun A c w h => Text_any A l.length c l w h (by omega))
        have HT2 := Lib.hid (fun w h => RefText_any A' l.length c' l w h (by omega))
        unfold NewSlice at HT1 HT2
        generalize textB l = tl at *
        obtain ⟨tn, htn⟩ : ∃ tn, tl.length = tn := ⟨_, rfl⟩
        rw [htn] at HT1 HT2 HTl
        have htn' : tn ≤ 1000 := HTl.out
        clear hx hB' htn
        have K0 : wr.drew.cell? ⟨b, off + k, none⟩ = some (.slice A' l.length c') := hc
        go_wp2
        go_region_held3 (fun w' => w'.cell? ⟨b, off + k, none⟩ = some (.slice A' l.length c')) (first | (with_reducible exact K0) | (with_reducible exact K5) | (with_reducible exact K4) | (with_reducible exact K3) | (with_reducible exact K2))
          (first
            | (go_at_call 14; (refine (own_any A' l.length c' l wr.drew HB'.out (by omega)).mono ?_; rintro e2 w2 ⟨A2, c2, rfl, hc2, hb2, ho2⟩; have B2 : Below wr.heap.size wr w2 := (Below.refl wr.heap.size wr).drew.trans hb2; have K2 : w2.cell? ⟨b, off + k, none⟩ = some (.slice A' l.length c') := (B2.cell (p := ⟨b, off + k, none⟩) hb).trans hc))
            | (go_at_call 13; (refine (HT1.out A2 c2 w2 ho2.bs).mono ?_; rintro e3 w3 ⟨A3, c3, rfl, hc3, hb3, ho3⟩; have B3 : Below wr.heap.size wr w3 := B2.trans (hb3.mono B2.size); have K3 : w3.cell? ⟨b, off + k, none⟩ = some (.slice A' l.length c') := (B3.cell (p := ⟨b, off + k, none⟩) hb).trans hc))
            | (go_at_call 15; (refine (HT2.out w3 (HB'.out.below B3)).mono ?_; rintro e4 w4 ⟨A4, c4, rfl, hc4, hb4, ho4⟩; have B4 : Below wr.heap.size wr w4 := B3.trans (hb4.mono B3.size); have K4 : w4.cell? ⟨b, off + k, none⟩ = some (.slice A' l.length c') := (B4.cell (p := ⟨b, off + k, none⟩) hb).trans hc))
            | (go_at_call 12; (refine (Same_yes A3 A4 tn c3 c4 tl w4 (ho3.bs.below hb4) ho4.bs (by omega)).mono ?_; rintro e5 w5 ⟨rfl, m5, rfl⟩; have K5 : (w4.drewN m5).cell? ⟨b, off + k, none⟩ = some (.slice A' l.length c') := K4)))
        all_goals
          go_wp2
          go_roundw
          case rel => exact ⟨k + 1, by omega, by go_num, below_drewN (hb1.trans (B4.mono hs1)) _⟩
          case measure => simp [intOf]; omega
      · go_wp2_with (first
          | (go_at_call 16; refine (HN1.out _).mono ?_; rintro e2 w2 ⟨A2, c2, rfl, hc2, hb2, ho2⟩; have hs2 := hb2.size)
          | (go_at_call 17; refine (HN2.out _).mono ?_; rintro e3 w3 ⟨A3, c3, rfl, hc3, hb3, ho3⟩; have hs3 := hb3.size; have hbb3 := (hb1.trans (hb2.mono hs1)).trans (hb3.mono (by omega)))
          | (go_at_call 12; have hold := ho6.bs; clear hold; refine (Same_yes A5 A6 lb.length c5 c6 lb _ (ho5.bs.below hb6) ho6.bs (by have := HLL.out; omega)).mono ?_; rintro e7 w7 ⟨rfl, m7, rfl⟩)
          | (go_at_call 12; refine (Same_yes A2 A3 nb.length c2 c3 nb _ (ho2.bs.below hb3) ho3.bs (by have := HNL.out; omega)).mono ?_; rintro e4 w4 ⟨rfl, m4, rfl⟩; have hbb4 := below_drewN hbb3 m4)
          | (go_at_call 19; refine (HCO.out _ (HB.out.below hbb4)).mono ?_; rintro e4 w4 ⟨A4, c4, rfl, hc4, hb4, ho4⟩; have hbb5 := hbb4.trans (hb4.mono hbb4.size))
          | (go_at_call 18; refine (HLA.out _ _ _ ho4.bss).mono ?_; rintro e5 w5 ⟨A5, c5, rfl, hc5, hb5, ho5⟩; have hbb6 := hbb5.trans (hb5.mono hbb5.size))
          | (go_at_call 20; refine (HRA.out _ _ _ (HB.out.below hbb6)).mono ?_; rintro e6 w6 ⟨A6, c6, rfl, hc6, hb6, ho6⟩; have hbb7 := hbb6.trans (hb6.mono hbb6.size))
          | (go_at_call 11; refine (awake_any _).mono ?_; rintro e8 w8 ⟨rfl, hb8⟩))
        go_ret
        exact ⟨rfl, (below_drewN hbb7 m7).trans (hb8.mono hbb7.size)⟩

set_option maxRecDepth 100000 in
theorem lifted (os : Os) (started : os.Started) (H : Type) (enc : TypeId × Value → H) :
    ReturnsInHanded {} Try.checked os 3 .any (Rows.wireWritesSpec.pre6 enc Try.prog Try.f3 Rows.wireWritesRow.domain false) (Rows.wireWritesSpec.post enc Try.prog Try.f3 false true false false) := by
  refine returnsInHanded_of_change_sized (C := Try.checked) own started (by kernel_rfl) Try.func3
    (ChangeSpec.witness6 (enc := enc) (C := Try.checked) false ⟨#[], #[.int .u64 0, .slice none 0 0], []⟩ 8 (by kernel_rfl) (by kernel_rfl) (by kernel_rfl) (by kernel_rfl)) ?_
  intro W base args ds gs before hval0 hW hcnd hsz0 _
  have hval : ∀ (j : Nat) t v, Try.f3.params[j]? = some t → args[j]? = some v → Value.okWide Try.prog W .any base t v := hval0
  have hW' := hW
  obtain ⟨p, q, hA0, hV, rfl, hfz, hnd⟩ := hW
  have hA : DataW.TrodAll enc Try.prog W 0 (fun _ => true) true Try.f3.params.toList args.toList ds p := hA0
  have hsz : (DataW.weightsEach Try.prog (Try.f3.params.toList ++ Rows.wireWritesSpec.plain.varTypes Try.prog) (ds ++ gs)).all (· ≤ reachBytes) = true := hsz0
  rw [Try.params3] at hA hval hsz
  obtain ⟨v0, vs0, d0, ds0, p0, q0, hargs, rfl, rfl, h0, r0⟩ := trodAll_cons hA
  obtain ⟨v1, vs1, d1, ds1, p1, q1, rfl, rfl, rfl, h1, r1⟩ := trodAll_cons r0
  obtain ⟨rfl, rfl, rfl⟩ := trodAll_nil r1
  obtain rfl : args = #[v0, v1] := by cases args; simp_all
  obtain ⟨rfl, rfl⟩ := trodVars_none hV
  obtain ⟨a0, rfl, rfl, rfl, w0⟩ := open_int Try.underlying22 (hval 0 22 v0 rfl rfl) h0
  have k1 := h1
  have lt1 : ∀ x ∈ p1, x.block < W.heap.size := by obtain ⟨m, hm⟩ := k1; exact DataW.trod_lt m _ _ _ hm
  obtain ⟨a1, len1, cap1, l1, rfl, w1⟩ := open_bss (hval 1 23 v1 rfl rfl) h1
  clear hA0 hval0
  refine (walk W a0 w0 a1 len1 cap1 l1 w1).mono fun e W' ⟨he, bel⟩ => ?_
  subst he
  exact ⟨_, rfl, _, _, _, [], _, [], hW', trodAll_mk1 (shut_bool Try.underlying4 _), (trodAll_cons_mk (shut_int Try.underlying22 w0) (trodAll_cons_mk (Below.trod laidOut (by kernel_rfl) (of_decide_eq_true (by kernel_rfl)) k1 bel lt1) trodAll_mk0)), rfl, bel.frame _, fun h => by cases h⟩
theorem over : Rows.wireWritesRow.holds Try.pinned (OpenSpec.ofChange Rows.wireWritesSpec) :=
  OpenClaim.holds_of_wide 3 Try.f3 rfl rfl rfl rfl rfl rfl rfl ⟨rfl, rfl, rfl, rfl, rfl⟩ rfl rfl rfl rfl rfl (by kernel_rfl) Try.func3 (by kernel_rfl)
    (of_decide_eq_true (by kernel_rfl)) (by unfold Func.isWrapper; first | (rw [if_pos (by decide +kernel)]; kernel_rfl) | (rw [if_neg (by decide +kernel)]; exact ⟨rfl, rfl⟩))
    (fun os started H enc _ => lifted os started H enc)
theorem wireWrites_holds : Rows.WireWritesSaid := over
#print axioms wireWrites_holds
end Go.Proofs.Ytjifahocfbbicaa.wireWrites
