/-
  What comes in as a list of texts, the statements' own functions: a copy of bytes, the same bytes, a ledger that is made of leaves, the document's example.
-/
import Derived.Test.YtbpbpdaohganaaaDoorLedF
import Derived.Deep.QuietTactic
import Derived.BigQuiet
import Derived.Deep.Matrix
import Derived.ProofKit
import Derived.ChangeOld
import Derived.Below
namespace Go.Proofs.YtbpbpdaohganaaaDoor
open Go.ChangeShapes Go.WideShapes Go.ChangeAt Go.RowKit
/-- the slice of slices at A holds the texts L -/
def Bss (w : World) (A : Option Addr) (n : Nat) (L : List (List UInt8)) : Prop :=
  L.length = n ∧ ∀ k l, L[k]? = some l → ∃ b off A' c', A = some ⟨b, off, none⟩ ∧ b < w.heap.size ∧ w.cell? ⟨b, off + k, none⟩ = some (.slice A' l.length c') ∧ l.length ≤ c' ∧ Bs w A' l.length l
theorem Bss.nil (w : World) (A : Option Addr) : Bss w A 0 [] := ⟨rfl, fun k l h => by simp at h⟩
theorem Bss.get {w : World} {A : Option Addr} {n k : Nat} {L : List (List UInt8)} (h : Bss w A n L) (hk : k < n) :
    ∃ b off A' c' l, A = some ⟨b, off, none⟩ ∧ b < w.heap.size ∧ L[k]? = some l ∧ w.cell? ⟨b, off + k, none⟩ = some (.slice A' l.length c') ∧ l.length ≤ c' ∧ Bs w A' l.length l := by
  have hl : k < L.length := by rw [h.1]; exact hk
  obtain ⟨b, off, A', c', e, hb, hc, hn, hB⟩ := h.2 k L[k] (List.getElem?_eq_getElem hl)
  exact ⟨b, off, A', c', L[k], e, hb, List.getElem?_eq_getElem hl, hc, hn, hB⟩
theorem Bss.below {w w' : World} {A : Option Addr} {n : Nat} {L : List (List UInt8)} (h : Bss w A n L) (hb : Below w.heap.size w w') : Bss w' A n L :=
  ⟨h.1, fun k l hl => by
    obtain ⟨b, off, A', c', e, hlt, hc, hn, hB⟩ := h.2 k l hl
    exact ⟨b, off, A', c', e, Nat.lt_of_lt_of_le hlt hb.size, (hb.cell (p := ⟨b, off + k, none⟩) hlt).trans hc, hn, hB.below hb⟩⟩
set_option maxRecDepth 100000 in
theorem open_bss {H : Type} {enc : TypeId × Value → H} {W : World} {base : Nat} {v : Value} {d : DataW H} {p : List MemPlace} (hv : Value.okWide Tryd.prog W .any base 27 v)
    (h : DataW.Trod enc Tryd.prog W 0 (fun _ => true) true 27 v d p) : ∃ (a0 : Option Addr) (len cap : Nat) (L : List (List UInt8)), v = .slice a0 len cap ∧ Bss W a0 len L := by
  obtain ⟨a0, len, cap, rfl⟩ := okWide_slice Tryd.underlying27 hv
  obtain ⟨fuel, hf⟩ := h
  rcases Deep.open_int_rows Tryd.underlying27 Tryd.underlying31 Tryd.underlying5 (by kernel_rfl) (by kernel_rfl) hf with ⟨hcs, _⟩ | ⟨a, len', cap', A, L, C, Z, hcs, _, hl, _, _, hr⟩
  · simp [Value.cells] at hcs
    obtain ⟨rfl, rfl, rfl⟩ := hcs
    exact ⟨_, _, _, [], rfl, Bss.nil _ _⟩
  · simp [Value.cells] at hcs
    obtain ⟨rfl, rfl, rfl⟩ := hcs
    refine ⟨_, _, _, (List.range len).map fun r => ((Z r).take (L r)).map fun z => UInt8.ofNat z.toNat, rfl, by simp, fun r l hrl => ?_⟩
    have hlt : r < len := by have := (List.getElem?_eq_some_iff.1 hrl).1; simpa using this
    have hl' : l = ((Z r).take (L r)).map fun z => UInt8.ofNat z.toNat := by simpa [hlt] using hrl.symm
    obtain ⟨hc, hLC, _, hZ, hwf, hnone, hsome⟩ := hr r (by omega)
    have hll : l.length = L r := by rw [hl', List.length_map, List.length_take, hZ]; omega
    obtain ⟨b, off, spot⟩ := a
    have hspot : spot = none := by
      obtain ⟨h0, _⟩ := hr 0 (by omega)
      simpa [Addr.add] using World.cell?_spot h0
    subst hspot
    rw [Addr.add_mid] at hc
    rw [hll]
    refine ⟨b, off, A r, C r, rfl, World.block_lt_of_cell? W _ hc, hc, hLC, ?_⟩
    cases hA : A r with
    | none =>
      have h0 : L r = 0 := by have := hnone hA; omega
      have : l = [] := List.eq_nil_of_length_eq_zero (by rw [hll, h0])
      rw [h0, this]
      exact Bs.nil W none
    | some a' =>
      obtain ⟨_, hcell⟩ := hsome a' hA
      rw [hl']
      exact Bs.of_ints hLC hZ (fun i hi => hcell i (by rw [hZ] at hi; exact hi)) hwf
set_option maxHeartbeats 400000 in
theorem Same_yes (A B : Option Addr) (n c d : Nat) (l : List UInt8) (w : World) (h : Bs w A n l) (h2 : Bs w B n l) (hn : n ≤ 281474976710656) :
    Calls Tryd.prog 17 #[.slice A n c, .slice B n d] w fun e w' => e = .returned (.bool true) ∧ ∃ m, w' = w.drewN m := by
  have hne : ((n : Int) != (n : Int)) = false := by simp
  go_enter Tryd.func17, Tryd.ntmps17
  go_wp2
  go_loopw [5] (fun i wr => ∃ k j : Nat, k ≤ n ∧ i = .int .i64 k ∧ wr = w.drewN j) (fun i _ => n - (intOf i).toNat)
  case atStart => exact ⟨0, 0, Nat.zero_le _, rfl, rfl⟩
  case round =>
    obtain ⟨k, j, hk, rfl, rfl⟩ := hrel
    by_cases hlt : k < n
    · obtain ⟨b, off, x, rfl, hb, hx, hc⟩ := h.get hlt
      obtain ⟨b2, off2, x2, rfl, hb2, hx2, hc2⟩ := h2.get hlt
      obtain rfl : x2 = x := by rw [hx] at hx2; injection hx2 with e; exact e.symm
      have hi : (k : Int) < (n : Int) := by omega
      have hz : ((x2.toNat : Int) != (x2.toNat : Int)) = false := by simp
      clear hx hx2 h h2
      go_wp2
      go_quiet (fail)
      go_wp2
      go_roundw
      case rel => exact ⟨k + 1, _, by omega, by go_num, rfl⟩
      case measure => simp [intOf]; omega
    · go_wp2
      go_ret
      exact ⟨rfl, _, rfl⟩
def longL (L : List (List UInt8)) : Bool := decide (100 < L.length) || L.any fun l => decide (500 < l.length)
theorem longL_no {L : List (List UInt8)} (h : longL L = false) : L.length ≤ 100 ∧ ∀ l ∈ L, l.length ≤ 500 := by
  unfold longL at h
  simp only [Bool.or_eq_false_iff, decide_eq_false_iff_not, List.any_eq_false, decide_eq_true_eq] at h
  exact ⟨by omega, fun l hl => by have := h.2 l hl; omega⟩
set_option maxRecDepth 100000 in
/-- own: a copy of bytes -/
theorem ownB_any (A : Option Addr) (n c : Nat) (l : List UInt8) (w : World) (hB : Bs w A n l) (hn : n ≤ 140737488351232) : Calls Tryd.prog 13 #[.slice A n c] w fun e w' => ∃ A' c', e = .returned (.slice A' n c') ∧ n ≤ c' ∧ Own w' w.heap.size 5 (.slice A' n c') n l ∧ Below w.heap.size w w' := by
  have HB := Lib.hid hB
  clear hB
  go_enter Tryd.func13, Tryd.ntmps13
  go_wp2_with (at_builtin; refine wpList_app Tryd.byteTypes rfl (.tmp 3) (.tmp 4) rfl w.heap.size (.slice (some ⟨w.heap.size, 0, none⟩) 0 0) 0 [] rfl ((Row.new w 5 #[]).own (l := []) (Nat.le_refl _) rfl rfl (by omega) (fun j x h => by simp at h)) A n c l rfl (HB.out.below ((Below.refl _ _).alloc (Nat.le_refl _) _)) (by omega) (by simp) ?_; intro A3 c3 w3 ho3 hb3 hg3)
  go_ret
  rw [Nat.zero_add, List.nil_append] at ho3
  obtain ⟨A', c', e, hc⟩ := ho3.form
  injection e with q1 q2 q3
  subst q1 q3
  exact ⟨_, _, rfl, hc, ho3, ((Below.refl _ _).alloc (Nat.le_refl _) _).trans hb3⟩
theorem Own.fresh {w : World} {base n m c : Nat} {A : Option Addr} {l : List UInt8} (h : Own w base 5 (.slice A n c) m l) : ∀ b off, A = some ⟨b, off, none⟩ → base ≤ b := fun b off e => by subst e; exact (h.lt b rfl).1
/-- a ledger that is made of leaves, in the call's own blocks -/
def MadeL (w : World) (n : Nat) (L : List (List UInt8)) (e : Ending) (w' : World) : Prop :=
  ∃ g, e = .returned (.tuple #[.pointer (some ⟨g, 0, none⟩), .bool (!longL L)]) ∧ Below w.heap.size w w' ∧ (longL L = false → ∃ F : Nat → Prop, (∀ b, F b → w.heap.size ≤ b) ∧ Led w' g F n L)
set_option maxRecDepth 100000 in
set_option maxHeartbeats 1000000 in
theorem made_any (A : Option Addr) (n c : Nat) (L : List (List UInt8)) (w : World) (hB : Bss w A n L) (hT : Tab 1 w) : Calls Tryd.prog 26 #[.slice A n c] w (MadeL w n L) := by
  have HL := Lib.hid hB.1
  have hT1 := hT.1
  have HT := Lib.hid hT
  by_cases h100 : 100 < n
  · have HQ := Lib.hid (show longL L = true by unfold longL; rw [HL.out]; simp [h100])
    have i0 : (100 : Int) < (n : Int) := by omega
    clear hB h100 hT
    unfold MadeL
    generalize longL L = q at *
    go_enter Tryd.func26, Tryd.ntmps26
    go_wp2_with (go_at_call 11; refine (LNew_any _).mono ?_; rintro e1 w1 ⟨g, rfl, hg, hl1, hb1⟩)
    go_ret2
    rw [HQ.out]
    exact ⟨g, rfl, hb1, fun h => by cases h⟩
  · have HB := Lib.hid hB
    have i0 : ¬ (100 : Int) < (n : Int) := by omega
    clear hB hT
    unfold MadeL
    go_enter Tryd.func26, Tryd.ntmps26
    go_wp2_with (go_at_call 11; refine (LNew_any _).mono ?_; rintro e1 w1 ⟨g, rfl, hg, hl1, hb1⟩; have HL1 := Lib.hid hl1; clear hl1)
    go_loopw [5] (fun i wr => ∃ (k : Nat) (F : Nat → Prop), k ≤ n ∧ i = .int .i64 k ∧ Led wr g F k (L.take k) ∧ Hid (∀ b, F b → w.heap.size ≤ b) ∧ Below w.heap.size w wr ∧ Hid (∀ j l, j < k → L[j]? = some l → l.length ≤ 500)) (fun i _ => n - (intOf i).toNat)
    case atStart => exact ⟨0, _, Nat.zero_le _, rfl, HL1.out, Lib.hid (fun b q => by subst q; exact hg), hb1, Lib.hid (fun j l h => by omega)⟩
    case round =>
      obtain ⟨k, F, hk, rfl, hl, HF, hb, HK⟩ := hrel
      have HLd := Lib.hid hl
      have hs := hb.size
      clear hl
      by_cases hlt : k < n
      · obtain ⟨b, off, A', c', l, rfl, hbl, hx, hc, hnc, hB'⟩ := (HB.out.below hb).get hlt
        by_cases h5 : 500 < l.length
        · have HQ := Lib.hid (show longL L = true by
            unfold longL
            rw [Bool.or_eq_true, List.any_eq_true]
            exact .inr ⟨l, List.mem_of_getElem? hx, by simp [h5]⟩)
          have i5 : (500 : Int) < (l.length : Int) := by omega
          clear hx hB' h5
          go_wp2
          go_ret2
          rw [HQ.out]
          exact ⟨g, rfl, hb, fun h => by cases h⟩
        · have HX := Lib.hid hx
          have HTk := Lib.hid (take_snoc hx)
          have HB' := Lib.hid hB'
          have i5 : ¬ (500 : Int) < (l.length : Int) := by omega
          obtain ⟨m, hm⟩ : ∃ m, l.length = m := ⟨_, rfl⟩
          rw [hm] at hc i5 HB' hnc h5
          have HM := Lib.hid hm
          clear hx hB' hm
          go_wp2_with (first
            | (go_at_call 13; refine (ownB_any A' m c' l _ HB'.out (by omega)).mono ?_; rintro e2 w2 ⟨A2, c2, rfl, hc2, ho2, hb2⟩; have HO2 := Lib.hid ho2; have b2 := hb.trans (hb2.mono hs); have HL2 := Lib.hid (HLd.out.below hb2); clear ho2)
            | (go_at_call 12; refine (App_ok g k m c2 A2 F (L.take k) l w2 HL2.out HO2.out.bs (fun b' o' q1 q2 => absurd (HO2.out.fresh b' o' q1) (Nat.not_le_of_lt (HLd.out.2.1 b' q2))) hc2 (by omega) (by omega) (HT.out.below b2) (fun q => absurd (HF.out 1 q) (by omega))).mono ?_; rintro e3 w3 ⟨rfl, ⟨F3, hF3, hl3⟩, ho3⟩; have HF3 := Lib.hid (show ∀ b, F3 b → w.heap.size ≤ b from fun b q => (hF3 b q).elim (HF.out b) (fun q2 => Nat.le_trans b2.size q2)); have HL3 := Lib.hid hl3; have b3 := b2.trans (ho3.below HF.out b2.size); clear hF3 hl3 ho3))
          go_roundw
          case rel => exact ⟨k + 1, F3, by omega, by go_num, by rw [HTk.out]; exact HL3.out, HF3, b3, Lib.hid fun j y hj hy => by
            by_cases hjk : j = k
            · subst hjk
              rw [HX.out] at hy
              injection hy with hy
              subst hy
              have := HM.out
              omega
            · exact HK.out j y (by omega) hy⟩
          case measure => simp [intOf]; omega
      · have HQ := Lib.hid (show longL L = false by
          unfold longL
          rw [Bool.or_eq_false_iff]
          refine ⟨by simp [HL.out]; omega, ?_⟩
          rw [List.any_eq_false]
          intro l hl
          obtain ⟨j, hj⟩ := List.getElem?_of_mem hl
          have := HK.out j l (by have := (List.getElem?_eq_some_iff.1 hj).1; have := HL.out; omega) hj
          simp; omega)
        obtain rfl : k = n := by omega
        have HL9 := Lib.hid (show Led wr g F k L by have q := HLd.out; rwa [List.take_of_length_le (by rw [HL.out]; exact Nat.le_refl _)] at q)
        go_wp2
        go_ret2
        rw [HQ.out]
        exact ⟨g, rfl, hb, fun _ => ⟨F, HF.out, HL9.out⟩⟩
end Go.Proofs.YtbpbpdaohganaaaDoor
