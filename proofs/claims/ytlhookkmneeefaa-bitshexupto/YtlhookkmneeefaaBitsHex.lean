/-
  BitsHex, the second form (Rows.BitsHexUptoSaid): for all bytes and texts that are together of bulk at most 1048576, bits.Hex and bits.Unhex answer as the document's own, there and back. Condition: that bulk.
  The frame follows the shell of the proof by program (proof-skeleton); the walk is mine.
-/
import Derived.Test.YtlhookkmneeefaaRows
import Derived.WalkKit
import Derived.ProofKit
import Derived.OpenShut
import Derived.ShutString
import Derived.ChangeOld
import Derived.Below
import Derived.JoinedCond
import Derived.Test.YtlhookkmneeefaaHex2
import Derived.Test.YtlhookkmneeefaaUnhex2
namespace Go.Proofs.Ytlhookkmneeefaa.bitsHex
open Go.ChangeShapes Go.WideShapes Go.ChangeAt Go.RowKit
open Go.ChangeMaps (open_string shut_string)
set_option linter.unusedVariables false

theorem own : ownKnob Try.prog.godebug = none := by kernel_rfl
theorem laidOut : laidOutB Try.prog = true := by kernel_rfl

theorem lit0aff (w : World) : Bs (w.alloc (.cells #[.int .u8 10, .int .u8 255] 5)) (some ⟨w.heap.size, 0, none⟩) 2 [10, 255] := by
  refine lit_new w 5 _ 2 [10, 255] rfl rfl ?_ (by omega)
  intro j x hx
  rcases j with _ | _ | j
  · simp at hx; subst hx; rfl
  · simp at hx; subst hx; rfl
  · simp at hx
theorem hex0aff : hexL [10, 255] = [48, 97, 102, 102] := by decide
theorem list_of (l : List UInt8) : (⟨l.toArray⟩ : ByteArray).data.toList = l := by simp
theorem size_of (l : List UInt8) : (⟨l.toArray⟩ : ByteArray).size = l.length := by simp [ByteArray.size]
theorem same_str (s : ByteArray) : (⟨s.data.toList.toArray⟩ : ByteArray) = s := by simp
theorem Unhex_back (l : List UInt8) (w : World) (hl : l.length ≤ 1048576) :
    Calls Try.prog 19 #[.string ⟨(hexL l).toArray⟩] w (NewBytesE w 5 l 0) := by
  have h := Unhex_any ⟨(hexL l).toArray⟩ w (by rw [size_of, hexL_length]; omega)
  rw [list_of] at h
  have e1 : unhexV (hexL l) = l := by unfold unhexV; rw [unhexL_hexL]; rfl
  have e2 : unhexE (hexL l) = 0 := by unfold unhexE; rw [unhexL_hexL]; rfl
  rwa [e1, e2] at h
set_option maxHeartbeats 2000000 in
theorem walk (a0 : Option Addr) (len0 cap0 : Nat) (l0 : List UInt8) (a1 : ByteArray) (w : World) (w0 : Bs w a0 len0 l0) (s0 : len0 ≤ cap0 ∧ cap0 ≤ 1048576) (w1 : a1.size ≤ maxLen) (s1 : a1.size ≤ 1048576) :
    Calls Try.prog 7 #[.slice a0 len0 cap0, .string a1] w fun e w' => e = .returned (.bool true) ∧ Below w.heap.size w w' := by
  have HW := Lib.hid w0
  have hl0 : l0.length ≤ 1048576 := by have := w0.1; omega
  obtain ⟨g1, g2⟩ := s0
  clear w0 w1
  rcases hu : unhexL a1.data.toList with _ | r
  · have hE : unhexE a1.data.toList = 1 := by unfold unhexE; rw [hu]; rfl
    have HV := Lib.hid (show unhexV a1.data.toList = [] by unfold unhexV; rw [hu]; rfl)
    clear hu
    go_enter Try.func7, Try.ntmps7
    go_wp2_with (at_builtin; refine wpList_copy Try.byteTypes rfl (.tmp 12) (.tmp 13) rfl rfl a0 len0 cap0 l0 rfl HW.out (by omega) ?_; intro A1 c1 w1 hB1 hc1 hb1 ho1; have H1 := Lib.hid hB1; clear hB1 ho1)
    refine (Hex_any A1 len0 c1 l0 _ H1.out (by omega)).mono ?_
    rintro e w2 ⟨rfl, hb2⟩
    have hb2' := hb1.trans (hb2.mono hb1.size)
    go_wp2_with fail
    refine (Unhex_back l0 _ hl0).mono ?_
    rintro e w3 ⟨A3, n3, c3, rfl, hB3, hc3, hb3, ho3⟩
    have hn3 : n3 ≤ 1048576 := by have := hB3.1; omega
    have H3 := Lib.hid hB3
    have hb3' := hb2'.trans (hb3.mono hb2'.size)
    clear hB3 ho3
    go_wp2_with fail
    refine (Unhex_any a1 _ (by omega)).mono ?_
    rintro e w4 ⟨A4, n4, c4, rfl, hB4, hc4, hb4, ho4⟩
    rw [HV.out] at hB4
    obtain rfl : n4 = 0 := hB4.1.symm
    have H4 := Lib.hid hB4
    have H3a := Lib.hid (H3.out.below hb4)
    have hb4' := hb3'.trans (hb4.mono hb3'.size)
    clear hB4 ho4
    go_wp2_with fail
    refine (RefUnhex_any a1 _ (by omega)).mono ?_
    rintro e w5 ⟨A5, n5, c5, rfl, hB5, hc5, hb5, ho5⟩
    rw [HV.out] at hB5
    have H5 := Lib.hid hB5
    have H4a := Lib.hid (H4.out.below hb5)
    have H3b := Lib.hid (H3a.out.below hb5)
    have hb5' := hb4'.trans (hb5.mono hb4'.size)
    clear hB5 ho5
    go_wp2_with fail
    refine (RefHex_any a0 len0 cap0 l0 _ (HW.out.below hb5') (by omega)).mono ?_
    rintro e w6 ⟨rfl, hb6⟩
    have H5a := Lib.hid (H5.out.below hb6)
    have H4b := Lib.hid (H4a.out.below hb6)
    have H3c := Lib.hid (H3b.out.below hb6)
    have hb6' := hb5'.trans (hb6.mono hb5'.size)
    go_wp2_with fail
    refine (Same_same _ _ _ _ _ _ l0 _ H3c.out (HW.out.below hb6') (by omega)).mono ?_
    rintro e w' ⟨rfl, m1, rfl⟩
    go_wp2_with fail
    refine (Same_same _ _ _ _ _ _ [] _ (H4b.out.drewN _) (H5a.out.drewN _) (by omega)).mono ?_
    rintro e w' ⟨rfl, m2, rfl⟩
    go_wp2_with fail
    refine (Hex_any _ 2 2 [10, 255] _ (lit0aff _) (by omega)).mono ?_
    rintro e w8 ⟨rfl, hb8⟩
    rw [hex0aff]
    go_wp2
    go_ret
    exact ⟨rfl, by
      have h6 := hb6'.size
      refine Below.trans ((below_drewN hb6' (m1 + m2)).alloc h6 _) (hb8.mono ?_)
      simp
      omega⟩
  · have hE : unhexE a1.data.toList = 0 := by unfold unhexE; rw [hu]; rfl
    have HV := Lib.hid (show unhexV a1.data.toList = r by unfold unhexV; rw [hu]; rfl)
    have HX := Lib.hid (hexL_unhexL _ _ hu)
    have hr : r.length ≤ 1048576 := by
      have h1 := unhexL_length _ _ hu
      have h2 : a1.data.toList.length = a1.size := Array.length_toList
      omega
    clear hu
    go_enter Try.func7, Try.ntmps7
    go_wp2_with (at_builtin; refine wpList_copy Try.byteTypes rfl (.tmp 12) (.tmp 13) rfl rfl a0 len0 cap0 l0 rfl HW.out (by omega) ?_; intro A1 c1 w1 hB1 hc1 hb1 ho1; have H1 := Lib.hid hB1; clear hB1 ho1)
    refine (Hex_any A1 len0 c1 l0 _ H1.out (by omega)).mono ?_
    rintro e w2 ⟨rfl, hb2⟩
    have hb2' := hb1.trans (hb2.mono hb1.size)
    go_wp2_with fail
    refine (Unhex_back l0 _ hl0).mono ?_
    rintro e w3 ⟨A3, n3, c3, rfl, hB3, hc3, hb3, ho3⟩
    have hn3 : n3 ≤ 1048576 := by have := hB3.1; omega
    have H3 := Lib.hid hB3
    have hb3' := hb2'.trans (hb3.mono hb2'.size)
    clear hB3 ho3
    go_wp2_with fail
    refine (Unhex_any a1 _ (by omega)).mono ?_
    rintro e w4 ⟨A4, n4, c4, rfl, hB4, hc4, hb4, ho4⟩
    rw [HV.out] at hB4
    have hn4 : n4 ≤ 1048576 := by have := hB4.1; omega
    have H4 := Lib.hid hB4
    have H3a := Lib.hid (H3.out.below hb4)
    have hb4' := hb3'.trans (hb4.mono hb3'.size)
    clear hB4 ho4
    go_wp2_with fail
    refine (RefUnhex_any a1 _ (by omega)).mono ?_
    rintro e w5 ⟨A5, n5, c5, rfl, hB5, hc5, hb5, ho5⟩
    rw [HV.out] at hB5
    have H5 := Lib.hid hB5
    have H4a := Lib.hid (H4.out.below hb5)
    have H3b := Lib.hid (H3a.out.below hb5)
    have hb5' := hb4'.trans (hb5.mono hb4'.size)
    clear hB5 ho5
    go_wp2_with fail
    refine (RefHex_any a0 len0 cap0 l0 _ (HW.out.below hb5') (by omega)).mono ?_
    rintro e w6 ⟨rfl, hb6⟩
    have H5a := Lib.hid (H5.out.below hb6)
    have H4b := Lib.hid (H4a.out.below hb6)
    have H3c := Lib.hid (H3b.out.below hb6)
    have hb6' := hb5'.trans (hb6.mono hb5'.size)
    go_wp2_with fail
    refine (Same_same _ _ _ _ _ _ l0 _ H3c.out (HW.out.below hb6') (by omega)).mono ?_
    rintro e w' ⟨rfl, m1, rfl⟩
    go_wp2_with fail
    refine (Same_same _ _ _ _ _ _ r _ (H4b.out.drewN _) (H5a.out.drewN _) (by omega)).mono ?_
    rintro e w' ⟨rfl, m2, rfl⟩
    go_wp2_with fail
    refine (Hex_any _ _ _ r _ (H4b.out.drewN _) (by omega)).mono ?_
    rintro e w7 ⟨rfl, hb7⟩
    rw [HX.out, same_str]
    have hb7' : Below w.heap.size w w7 := (below_drewN hb6' (m1 + m2)).trans (hb7.mono hb6'.size)
    go_wp2_with fail
    refine (Hex_any _ 2 2 [10, 255] _ (lit0aff _) (by omega)).mono ?_
    rintro e w8 ⟨rfl, hb8⟩
    rw [hex0aff]
    go_wp2
    go_ret
    exact ⟨rfl, by
      have h7 := hb7'.size
      refine Below.trans (hb7'.alloc h7 _) (hb8.mono ?_)
      simp
      omega⟩


theorem bulk_one {H : Type} (d : DataW H) : 1 ≤ Rows.uptoBulk d := by
  cases d with
  | lit l => cases l <;> simp [Rows.uptoBulk]
  | _ => simp [Rows.uptoBulk]
theorem bulk_length {H : Type} : ∀ l : List (DataW H), l.length ≤ Rows.uptoBulkAll l
  | [] => by simp
  | d :: l => by
    have h1 := bulk_one d
    have h2 := bulk_length l
    simp only [Rows.uptoBulkAll, List.length_cons]
    omega
theorem bulk_at {H : Type} : ∀ {ds : List (DataW H)} {j : Nat} {d : DataW H}, ds[j]? = some d → Rows.uptoBulk d ≤ Rows.uptoBulkAll ds
  | [], _, _, h => by simp at h
  | e :: l, 0, d, h => by
    simp at h
    subst h
    simp only [Rows.uptoBulkAll]
    omega
  | e :: l, j + 1, d, h => by
    have := bulk_at (ds := l) (j := j) (d := d) (by simpa using h)
    simp only [Rows.uptoBulkAll]
    omega
theorem slice_bulk {H : Type} {ds : List (DataW H)} (h : Rows.uptoBulkAll ds ≤ 1048576) {j : Nat} {elems spare : List (DataW H)} (hd : ds[j]? = some (.slice elems spare)) : elems.length + spare.length ≤ 1048576 := by
  have h1 := bulk_at hd
  have h2 := bulk_length elems
  have h3 := bulk_length spare
  simp only [Rows.uptoBulk] at h1
  omega
theorem string_bulk {H : Type} {ds : List (DataW H)} (h : Rows.uptoBulkAll ds ≤ 1048576) {j : Nat} {s : ByteArray} (hd : ds[j]? = some (.lit (.string s.data.toList))) : s.size ≤ 1048576 := by
  have h1 := bulk_at hd
  simp only [Rows.uptoBulk] at h1
  have e : s.data.toList.length = s.size := Array.length_toList
  omega

set_option maxRecDepth 100000 in
theorem contract (H : Type) (enc : TypeId × Value → H) (W : World) (base : Nat) (args : Array Value) (ds gs : List (DataW H)) (before : List MemPlace)
    (hval0 : ∀ (j : Nat) t v, Try.f7.params[j]? = some t → args[j]? = some v → Value.okWide Try.prog W .any base t v)
    (hW : DataW.Whole enc Try.prog Try.f7.params.toList Rows.bitsHexSpec.vars false W args.toList ds gs before) (hk : Rows.uptoSmall H (ds ++ gs) = true) :
    Calls Try.prog 7 args W fun e W' => ∃ v, e = .returned v ∧ Rows.bitsHexSpec.post enc Try.prog Try.f7 false true false false W args v W' := by
  have hbk : Rows.uptoBulkAll (ds ++ gs) ≤ 1048576 := of_decide_eq_true hk
  have hval : ∀ (j : Nat) t v, Try.f7.params[j]? = some t → args[j]? = some v → Value.okWide Try.prog W .any base t v := hval0
  have hW' := hW
  obtain ⟨p, q, hA0, hV, rfl, hfz, hnd⟩ := hW
  have hA : DataW.TrodAll enc Try.prog W 0 (fun _ => true) true Try.f7.params.toList args.toList ds p := hA0
  rw [Try.params7] at hA hval
  obtain ⟨v0, vs0, d0, ds0, p0, q0, hargs, rfl, rfl, h0, r0⟩ := trodAll_cons hA
  obtain ⟨v1, vs1, d1, ds1, p1, q1, rfl, rfl, rfl, h1, r1⟩ := trodAll_cons r0
  obtain ⟨rfl, rfl, rfl⟩ := trodAll_nil r1
  obtain rfl : args = #[v0, v1] := by cases args; simp_all
  obtain ⟨rfl, rfl⟩ := trodVars_none hV
  obtain ⟨a0, len0, cap0, rfl⟩ := okWide_slice Try.underlying26 (hval 0 26 v0 rfl rfl)
  have k0 := h0
  have lt0 : ∀ x ∈ p0, x.block < W.heap.size := by obtain ⟨m, hm⟩ := k0; exact DataW.trod_lt m _ _ _ hm
  obtain ⟨l0, w0, s0⟩ : ∃ l, Bs W a0 len0 l ∧ len0 ≤ cap0 ∧ cap0 ≤ 1048576 := by
    obtain ⟨fuel, hf⟩ := h0
    rcases open_ints Try.underlying26 Try.underlying5 (by kernel_rfl) hf with ⟨hcs, _⟩ | ⟨x, l, c, zs, hcs, _, hl, hm, hz, hx, hcell, hwz⟩
    · simp [Value.cells] at hcs
      obtain ⟨rfl, rfl, rfl⟩ := hcs
      exact ⟨[], Bs.nil _ _, by omega, by omega⟩
    · simp [Value.cells] at hcs
      obtain ⟨rfl, rfl, rfl⟩ := hcs
      simp only [Prod.mk.injEq] at hx
      obtain ⟨rfl, _⟩ := hx
      have hb := slice_bulk (ds := _ ++ _) hbk (j := 0) rfl
      simp only [lits, List.length_map, List.length_take, List.length_drop] at hb
      have hz' : zs.length = cap0 := by simpa using hz
      exact ⟨_, Bs.of_ints hl hz' hcell hwz, hl, by omega⟩
  obtain ⟨a1, rfl, rfl, rfl, w1⟩ := open_string Try.underlying9 (hval 1 9 v1 rfl rfl) h1
  have s1 : a1.size ≤ 1048576 := string_bulk (ds := _ ++ _) hbk (j := 1) rfl
  clear hA0 hval0 hbk hk
  refine (walk a0 len0 cap0 l0 a1 W w0 s0 w1 s1).mono fun e W' ⟨he, bel⟩ => ?_
  subst he
  exact ⟨_, rfl, _, _, _, [], _, [], hW', trodAll_mk1 (shut_bool Try.underlying4 _), (trodAll_cons_mk (Below.trod laidOut (by kernel_rfl) (of_decide_eq_true (by kernel_rfl)) k0 bel lt0) (trodAll_cons_mk (shut_string Try.underlying9 w1) trodAll_mk0)), rfl, bel.frame _, fun h => by cases h⟩

set_option maxRecDepth 100000 in
theorem lifted (os : Os) (started : os.Started) (H : Type) (enc : TypeId × Value → H) (F : Stop.Interp) :
    ReturnsInHanded {} Try.checked os 7 .any ((Rows.OpenSpec.upto Rows.bitsHexSpec).pre6 enc Try.prog Try.f7 Rows.bitsHexUptoRow.domain false) (((Rows.OpenSpec.upto Rows.bitsHexSpec).at F).post enc Try.prog Try.f7 false true false false) := by
  refine returnsInHanded_of_cond (C := Try.checked) (s := Rows.OpenSpec.upto Rows.bitsHexSpec) (k := Rows.uptoSmall) rfl own started (by kernel_rfl) Try.func7
    (OpenSpec.witness (enc := enc) (C := Try.checked) (s := Rows.OpenSpec.upto Rows.bitsHexSpec) (k := Rows.uptoSmall) rfl false ⟨#[], #[.slice none 0 0, .string ByteArray.empty], []⟩ 8 (by kernel_rfl) (by kernel_rfl) (by kernel_rfl)
      (x := ([.nil, .lit (.string [])], [], [])) (by kernel_rfl) rfl (by kernel_rfl)) ?_
  intro W base args ds gs before hval hW _ hk _
  exact contract H enc W base args ds gs before hval hW hk

theorem over : Rows.bitsHexUptoRow.holds Try.pinned (Rows.OpenSpec.upto Rows.bitsHexSpec) :=
  OpenClaim.holds_of_cond 7 Try.f7 rfl rfl rfl rfl rfl rfl rfl ⟨rfl, rfl, rfl, rfl, rfl⟩ rfl rfl rfl rfl rfl (by kernel_rfl) Try.func7 (by kernel_rfl)
    (of_decide_eq_true (by kernel_rfl)) (by unfold Func.isWrapper; first | (rw [if_pos (by decide +kernel)]; kernel_rfl) | (rw [if_neg (by decide +kernel)]; exact ⟨rfl, rfl⟩))
    (fun os started H enc _ F => lifted os started H enc F)

theorem bitsHexUpto_holds : Rows.BitsHexUptoSaid := over
#print axioms bitsHexUpto_holds
end Go.Proofs.Ytlhookkmneeefaa.bitsHex
