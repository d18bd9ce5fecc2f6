/-
  What came in, opened: a list of texts, a list of numbers. What the laws' awake answers, and juratref04.Same of the same texts.
-/
import Derived.Test.YtjifahocfbbicaaFill
import Derived.Deep.Matrix
import Derived.ProofKit
import Derived.ChangeOld
import Derived.Below
namespace Go.Proofs.Ytjifahocfbbicaa
open Go.ChangeShapes Go.WideShapes Go.ChangeAt Go.RowKit
theorem open_bss {H : Type} {enc : TypeId × Value → H} {W : World} {base : Nat} {v : Value} {d : DataW H} {p : List MemPlace} (hv : Value.okWide Try.prog W .any base 23 v)
    (h : DataW.Trod enc Try.prog W 0 (fun _ => true) true 23 v d p) : ∃ (a0 : Option Addr) (len cap : Nat) (L : List (List UInt8)), v = .slice a0 len cap ∧ Bss W a0 len L := by
  obtain ⟨a0, len, cap, rfl⟩ := okWide_slice Try.underlying23 hv
  obtain ⟨fuel, hf⟩ := h
  rcases Deep.open_int_rows Try.underlying23 Try.underlying27 Try.underlying5 (by kernel_rfl) (by kernel_rfl) hf with ⟨hcs, _⟩ | ⟨a, len', cap', A, L, C, Z, hcs, _, hl, _, _, hr⟩
  · simp [Value.cells] at hcs
    obtain ⟨rfl, rfl, rfl⟩ := hcs
    exact ⟨_, _, _, [], rfl, Bss.nil _ _⟩
  · simp [Value.cells] at hcs
    obtain ⟨rfl, rfl, rfl⟩ := hcs
    refine ⟨_, _, _, (List.range len).map fun r => ((Z r).take (L r)).map fun z => UInt8.ofNat z.toNat, rfl, by simp, fun r l hrl => ?_⟩
    have hlt : r < len := by have := (List.getElem?_eq_some_iff.1 hrl).1; simpa using this
    have hl' : l = ((Z r).take (L r)).map fun z => UInt8.ofNat z.toNat := by simpa [hlt] using hrl.symm
    obtain ⟨hc, hLC, _, hZ, hwf, hnone, hsome⟩ := hr r (by omega)
    have hll : l.length = L r := by rw [hl', List.length_map, List.length_take, hZ]; omega
    obtain ⟨b, off, spot⟩ := a
    have hspot : spot = none := by
      obtain ⟨h0, _⟩ := hr 0 (by omega)
      simpa [Addr.add] using World.cell?_spot h0
    subst hspot
    rw [Addr.add_mid] at hc
    rw [hll]
    refine ⟨b, off, A r, C r, rfl, World.block_lt_of_cell? W _ hc, hc, hLC, ?_⟩
    cases hA : A r with
    | none =>
      have h0 : L r = 0 := by have := hnone hA; omega
      have : l = [] := List.eq_nil_of_length_eq_zero (by rw [hll, h0])
      rw [h0, this]
      exact Bs.nil W none
    | some a' =>
      obtain ⟨_, hcell⟩ := hsome a' hA
      rw [hl']
      exact Bs.of_ints hLC hZ (fun i hi => hcell i (by rw [hZ] at hi; exact hi)) hwf
/-- a slice of numbers -/
def Is (w : World) (A : Option Addr) (n : Nat) (zs : List Int) : Prop :=
  zs.length = n ∧ ∀ k z, zs[k]? = some z → ∃ b off, A = some ⟨b, off, none⟩ ∧ b < w.heap.size ∧ w.cell? ⟨b, off + k, none⟩ = some (.int .i64 z) ∧ -9223372036854775808 ≤ z ∧ z < 9223372036854775808
theorem Is.nil (w : World) (A : Option Addr) : Is w A 0 [] := ⟨rfl, fun k z h => by simp at h⟩
theorem Is.get {w : World} {A : Option Addr} {n k : Nat} {zs : List Int} (h : Is w A n zs) (hk : k < n) :
    ∃ b off z, A = some ⟨b, off, none⟩ ∧ b < w.heap.size ∧ zs[k]? = some z ∧ w.cell? ⟨b, off + k, none⟩ = some (.int .i64 z) ∧ -9223372036854775808 ≤ z ∧ z < 9223372036854775808 := by
  have hl : k < zs.length := by rw [h.1]; exact hk
  obtain ⟨b, off, e, hb, hc, h1, h2⟩ := h.2 k zs[k] (List.getElem?_eq_getElem hl)
  exact ⟨b, off, zs[k], e, hb, List.getElem?_eq_getElem hl, hc, h1, h2⟩
theorem Is.below {w w' : World} {A : Option Addr} {n : Nat} {zs : List Int} (h : Is w A n zs) (hb : Below w.heap.size w w') : Is w' A n zs :=
  ⟨h.1, fun k z hz => by
    obtain ⟨b, off, e, hlt, hc, h1⟩ := h.2 k z hz
    exact ⟨b, off, e, Nat.lt_of_lt_of_le hlt hb.size, (hb.cell (p := ⟨b, off + k, none⟩) hlt).trans hc, h1⟩⟩
theorem open_is {H : Type} {enc : TypeId × Value → H} {W : World} {base : Nat} {v : Value} {d : DataW H} {p : List MemPlace} (hv : Value.okWide Try.prog W .any base 33 v)
    (h : DataW.Trod enc Try.prog W 0 (fun _ => true) true 33 v d p) : ∃ (a0 : Option Addr) (len cap : Nat) (zs : List Int), v = .slice a0 len cap ∧ Is W a0 len zs := by
  obtain ⟨a0, len, cap, rfl⟩ := okWide_slice Try.underlying33 hv
  obtain ⟨fuel, hf⟩ := h
  rcases open_ints Try.underlying33 Try.underlying3 (by kernel_rfl) hf with ⟨hcs, _⟩ | ⟨x, l, c, zs, hcs, _, hl, hm, hz, hx, hcell, hwz⟩
  · simp [Value.cells] at hcs
    obtain ⟨rfl, rfl, rfl⟩ := hcs
    exact ⟨_, _, _, [], rfl, Is.nil _ _⟩
  · simp [Value.cells] at hcs
    obtain ⟨rfl, rfl, rfl⟩ := hcs
    simp only [Prod.mk.injEq] at hx
    obtain ⟨rfl, _⟩ := hx
    have hz' : zs.length = cap := by simpa using hz
    refine ⟨_, _, _, zs.take len, rfl, by rw [List.length_take]; omega, fun k z hk => ?_⟩
    rw [List.getElem?_take] at hk
    split at hk
    · rename_i hkl
      have hkz : k < zs.length := by omega
      have e2 : zs.getD k 0 = z := by rw [List.getD_eq_getElem?_getD, hk]; rfl
      have h0 := hcell 0 (by omega)
      have hc := hcell k hkz
      rw [e2] at hc
      have hw := bounds_i64 (hwz z (List.mem_of_getElem? hk))
      obtain ⟨b, off, spot⟩ := x
      have hspot : spot = none := by simpa [Addr.add] using World.cell?_spot h0
      subst hspot
      rw [Addr.add_mid] at hc
      exact ⟨b, off, rfl, World.block_lt_of_cell? W _ hc, hc, by have := hw.1; omega, by have := hw.2; omega⟩
    · cases hk
theorem quiet_drew {P : Program} {f : FuncId} {args : Array Value} {w : World} {n : Nat} {v : Value}
    (h : Calls P f args (w.drewN n) fun e w' => e = .returned v ∧ ∃ m, w' = (w.drewN n).drewN m) : Calls P f args (w.drewN n) fun e w'' => e = .returned v ∧ ∃ m, w'' = w.drewN m :=
  h.mono fun _ _ ⟨he, _, hm⟩ => ⟨he, _, hm.trans (World.drewN_drewN _ _ _)⟩
set_option maxHeartbeats 1000000 in
theorem LSame_yes (A B : Option Addr) (n c d : Nat) (L : List (List UInt8)) (w : World) (h : Bss w A n L) (h2 : Bss w B n L) (hn : n ≤ 1000000000000) (hM : ∀ l ∈ L, l.length ≤ 1000000) :
    Calls Try.prog 26 #[.slice A n c, .slice B n d] w fun e w' => e = .returned (.bool true) ∧ ∃ m, w' = w.drewN m := by
  have hne : ((n : Int) != (n : Int)) = false := by simp
  have HM := Lib.hid hM
  clear hM
  go_enter Try.func26, Try.ntmps26
  go_wp2
  go_loopw [5] (fun i wr => ∃ k j : Nat, k ≤ n ∧ i = .int .i64 k ∧ wr = w.drewN j) (fun i _ => n - (intOf i).toNat)
  case atStart => exact ⟨0, 0, Nat.zero_le _, rfl, rfl⟩
  case round =>
    obtain ⟨k, j, hk, rfl, hw⟩ := hrel
    have h' : Bss wr A n L := hw ▸ h.drewN j
    have h2' : Bss wr B n L := hw ▸ h2.drewN j
    have HW := Lib.hid hw
    clear hw h h2
    by_cases hlt : k < n
    · obtain ⟨b, off, A', c', l, rfl, hb, hx, hc, hnc, hB'⟩ := h'.get hlt
      obtain ⟨b2, off2, A2, c2, l2, rfl, hb2, hx2, hc2, hnc2, hB2⟩ := h2'.get hlt
      obtain rfl : l2 = l := by rw [hx] at hx2; injection hx2 with e; exact e.symm
      have hi : (k : Int) < (n : Int) := by omega
      have hl : l2.length ≤ 1000000 := HM.out l2 (List.mem_of_getElem? hx)
      have HB := Lib.hid hB'
      have HB2 := Lib.hid hB2
      clear hx hx2 h' h2' hB' hB2
      go_wp2
      go_quiet ((go_at_call 12; exact quiet_drew (Same_yes _ _ _ _ _ l2 _ HB.out HB2.out (by omega))))
      go_wp2
      go_roundw
      case rel => exact ⟨k + 1, _, by omega, by go_num, by rw [HW.out]; exact World.drewN_drewN _ _ _⟩
      case measure => simp [intOf]; omega
    · clear h' h2'
      go_wp2
      go_ret
      exact ⟨rfl, _, HW.out⟩
set_option maxRecDepth 100000 in
set_option maxHeartbeats 1000000 in
theorem awake_any (w : World) : Calls Try.prog 11 #[] w fun e w' => e = .returned (.bool true) ∧ Below w.heap.size w w' := by
  have HN := Lib.hid (fun w => Num_any 256 w (by omega))
  have HR : ∀ (g b : Nat) (w : World), Rdr w 61 g b 0 [2, 1, 0] → Calls Try.prog 22 #[.pointer (some ⟨g, 0, none⟩), .int .u64 999] w fun e w' => e = .returned (.int .u64 256) ∧ Rdr w' 61 g b 0 [] ∧ Only g w w' := fun g b w h => by
    have h1 := RNum_any g b 0 [2, 1, 0] 999 w h (by decide) (by omega) (by omega)
    exact h1.mono fun e w' h2 => h2
  have HR := Lib.hid HR
  have HE : ∀ (g b : Nat) (w : World), Rdr w 61 g b 0 [] → Calls Try.prog 33 #[.pointer (some ⟨g, 0, none⟩)] w fun e w' => e = .returned (.int .i64 0) ∧ Rdr w' 61 g b 0 [] ∧ Only g w w' := fun g b w h => by
    exact (REnd_any g b 0 [] w h).mono fun e w' h2 => h2
  have HE := Lib.hid HE
  have HRD := Lib.hid (fun A c w h => Read_any A 3 c [2, 1, 0] w h (by omega))
  have HSM := Lib.hid (fun A B c d w h1 h2 => Same_yes A B 3 c d [2, 1, 0] w h1 h2 (by omega))
  rw [num256] at HN
  have HL := Lib.hid (fun w => lit_new w 5 #[.int .u8 2, .int .u8 1, .int .u8 0] 3 [2, 1, 0] rfl rfl (fun j x hx => by
    rcases j with _ | _ | _ | j <;> simp at hx
    · subst hx; rfl
    · subst hx; rfl
    · subst hx; rfl) (by omega))
  obtain ⟨q, hq⟩ : ∃ q : List UInt8, [2, 1, 0] = q := ⟨_, rfl⟩
  have hql : q.length = 3 := by rw [← hq]; rfl
  unfold NewSlice at HN
  rw [hq, hql] at HN
  rw [hq] at HR HRD HSM HL
  clear hq hql
  go_enter Try.func11, Try.ntmps11
  go_wp2_with (first
    | (go_at_call 16; have hq3 := H3.out; clear hq3; refine (HN.out _).mono ?_; rintro e w5 ⟨A5, c5, rfl, hc5, hb5, ho5⟩; have hs5 := hb5.size)
    | (go_at_call 16; refine (HN.out _).mono ?_; rintro e w1 ⟨A1, c1, rfl, hc1, hb1, ho1⟩; have hs1 := hb1.size)
    | (go_at_call 21; refine (HRD.out A1 c1 _ ho1.bs).mono ?_; rintro e w2 ⟨g, b, rfl, hg, hb, hr2, hb2⟩; have H2 := Lib.hid hr2; clear hr2)
    | (go_at_call 22; refine (HR.out g b _ H2.out).mono ?_; rintro e w3 ⟨rfl, hr3, ho3⟩; have H3 := Lib.hid hr3; clear hr3)
    | (go_at_call 33; refine (HE.out g b _ H3.out).mono ?_; rintro e w4 ⟨rfl, hr4, ho4⟩; have hs4 := (ho3.trans ho4).size)
    | (go_at_call 12; refine (HSM.out A5 _ c5 _ _ (ho5.bs.below ((Below.refl _ _).alloc (Nat.le_refl _) _)) (HL.out _)).mono ?_; rintro e w6 ⟨rfl, m, rfl⟩))
  go_ret
  have hb12 : Below w.heap.size w w2 := hb1.trans (hb2.mono hs1)
  have hb4 : Below w.heap.size w w4 := hb12.trans ((ho3.trans ho4).below (Nat.le_trans hs1 hg) hb12.size)
  have hb55 : Below w.heap.size w w5 := hb4.trans (hb5.mono hb4.size)
  exact ⟨rfl, below_drewN (hb55.alloc hb55.size _) _⟩
end Go.Proofs.Ytjifahocfbbicaa
