/-
  A list of texts that came in, with its room.
-/
import Derived.Test.YthiklmdjfcgejaaDoorFrF
namespace Go.Proofs.YthiklmdjfcgejaaDoor
open Go.RowKit
open Go.ChangeShapes Go.WideShapes Go.ChangeAt in
theorem open_bssc {H : Type} {enc : TypeId × Value → H} {W : World} {base : Nat} {v : Value} {d : DataW H} {p : List MemPlace} (hv : Value.okWide Tryd.prog W .any base 32 v)
    (h : DataW.Trod enc Tryd.prog W 0 (fun _ => true) true 32 v d p) : ∃ (a0 : Option Addr) (len cap : Nat) (L : List (List UInt8)), v = .slice a0 len cap ∧ Bss W a0 len L ∧ len ≤ cap := by
  obtain ⟨a0, len, cap, rfl⟩ := okWide_slice Tryd.underlying32 hv
  obtain ⟨fuel, hf⟩ := h
  rcases Deep.open_int_rows Tryd.underlying32 Tryd.underlying22 Tryd.underlying5 (by kernel_rfl) (by kernel_rfl) hf with ⟨hcs, _⟩ | ⟨a, len', cap', A, L, C, Z, hcs, _, hl, _, _, hr⟩
  · simp [Value.cells] at hcs
    obtain ⟨rfl, rfl, rfl⟩ := hcs
    exact ⟨_, _, _, [], rfl, Bss.nil _ _, Nat.le_refl _⟩
  · simp [Value.cells] at hcs
    obtain ⟨rfl, rfl, rfl⟩ := hcs
    refine ⟨_, _, _, (List.range len).map fun r => ((Z r).take (L r)).map fun z => UInt8.ofNat z.toNat, rfl, ⟨by simp, fun r l hrl => ?_⟩, hl⟩
    have hlt : r < len := by have := (List.getElem?_eq_some_iff.1 hrl).1; simpa using this
    have hl' : l = ((Z r).take (L r)).map fun z => UInt8.ofNat z.toNat := by simpa [hlt] using hrl.symm
    obtain ⟨hc, hLC, _, hZ, hwf, hnone, hsome⟩ := hr r (by omega)
    have hll : l.length = L r := by rw [hl', List.length_map, List.length_take, hZ]; omega
    obtain ⟨b, off, spot⟩ := a
    have hspot : spot = none := by
      obtain ⟨h0, _⟩ := hr 0 (by omega)
      simpa [Addr.add] using World.cell?_spot h0
    subst hspot
    rw [Addr.add_mid] at hc
    rw [hll]
    refine ⟨b, off, A r, C r, rfl, World.block_lt_of_cell? W _ hc, hc, hLC, ?_⟩
    cases hA : A r with
    | none =>
      have h0 : L r = 0 := by have := hnone hA; omega
      have : l = [] := List.eq_nil_of_length_eq_zero (by rw [hll, h0])
      rw [h0, this]
      exact Bs.nil W none
    | some a' =>
      obtain ⟨_, hcell⟩ := hsome a' hA
      rw [hl']
      exact Bs.of_ints hLC hZ (fun i hi => hcell i (by rw [hZ] at hi; exact hi)) hwf
end Go.Proofs.YthiklmdjfcgejaaDoor
