/-
  A list of digests that came in, opened.
-/
import Derived.Test.YtiidcnjhjojhoaaDoorDig
import Derived.Deep.Slices
import Derived.ProofKit
import Derived.ChangeOld
import Derived.Below
namespace Go.Proofs.YtiidcnjhjojhoaaDoor
open Go.ChangeShapes Go.WideShapes Go.ChangeAt Go.RowKit
theorem bytes_of_trod {H : Type} {enc : TypeId × Value → H} {W : World} {fuel : Nat} {cs : List Value} {x : DataW H × List MemPlace} (h : DataW.trod enc Tryd.prog W 0 (fun _ => true) true fuel 24 cs = some x) : ∃ l : List UInt8, l.length = 32 ∧ cs = l.map bcell := by
  obtain ⟨xs, m, rfl, hx, hlen, hxl, hel⟩ := DataW.trod_array Tryd.under23 h
  have c5 : Tryd.prog.cellsOf 5 = 1 := by kernel_rfl
  have c23 : Tryd.prog.cellsOf 24 = 32 := by kernel_rfl
  rw [c23] at hlen
  obtain ⟨l, hl, hg⟩ := cells_bytes cs.toArray 32 (by simp; omega) (fun i hi => by
    have hi' := hel i hi
    rw [c5, Nat.mul_one] at hi'
    obtain ⟨y, hy⟩ : ∃ y, xs[i]? = some y := ⟨_, List.getElem?_eq_getElem (by omega)⟩
    rw [hy] at hi'
    obtain ⟨k, e1, e2, hw⟩ := DataW.trod_int Tryd.underlying5 hi'
    have e3 := congrArg (·[0]?) e1
    simp [List.getElem?_drop] at e3
    obtain ⟨z, rfl⟩ := byte_of hw
    exact ⟨z, by simpa [bcell] using e3⟩)
  refine ⟨l, hl, ?_⟩
  apply List.ext_getElem?
  intro j
  rw [List.getElem?_map]
  by_cases hj : j < 32
  · have := hg j hj
    simpa using this
  · rw [List.getElem?_eq_none (by omega), List.getElem?_eq_none (by omega)]; rfl
theorem open_ds {H : Type} {enc : TypeId × Value → H} {W : World} {base : Nat} {v : Value} {d : DataW H} {p : List MemPlace} (hv : Value.okWide Tryd.prog W .any base 22 v)
    (h : DataW.Trod enc Tryd.prog W 0 (fun _ => true) true 22 v d p) : ∃ (a0 : Option Addr) (len cap : Nat) (L : List (List UInt8)), v = .slice a0 len cap ∧ Ds W a0 len L ∧ len ≤ cap := by
  obtain ⟨a0, len, cap, rfl⟩ := okWide_slice Tryd.under24 hv
  obtain ⟨fuel, hf⟩ := h
  rcases Deep.open_slice Tryd.under24 hf with ⟨hcs, _⟩ | ⟨a, len', cap', m, n, D, Pl, hcs, _, hl, _, hmm, _, hel⟩
  · simp [Value.cells] at hcs
    obtain ⟨rfl, rfl, rfl⟩ := hcs
    exact ⟨_, _, _, [], rfl, Ds.nil _ _, Nat.le_refl _⟩
  · simp [Value.cells] at hcs
    obtain ⟨rfl, rfl, rfl⟩ := hcs
    simp only [if_true] at hmm
    subst hmm
    have c23 : Tryd.prog.cellsOf 24 = 32 := by kernel_rfl
    rw [c23] at hel
    by_cases h0 : len = 0
    · subst h0; exact ⟨_, _, _, [], rfl, Ds.nil _ _, hl⟩
    obtain ⟨b, off, spot⟩ := a
    have hspot : spot = none := by
      obtain ⟨cs', h1, h2⟩ := hel 0 (by omega)
      obtain ⟨l, hl32, rfl⟩ := bytes_of_trod h2
      obtain ⟨_, _, hcell⟩ := World.cells?_some h1
      have hq := hcell 0 (by omega)
      rw [List.getElem?_map, List.getElem?_eq_getElem (by omega)] at hq
      simpa [Addr.add] using World.cell?_spot hq
    subst hspot
    have key : ∀ k, k ≤ len → ∃ L : List (List UInt8), L.length = k ∧ Digs L ∧ ∀ j x, (flat L)[j]? = some x → b < W.heap.size ∧ W.cell? ⟨b, off + j, none⟩ = some (bcell x) := by
      intro k
      induction k with
      | zero => exact fun _ => ⟨[], rfl, Digs.nil, fun j x hj => by simp [flat] at hj⟩
      | succ k ih =>
        intro hk
        obtain ⟨L, hL, hD, hc⟩ := ih (by omega)
        obtain ⟨cs', h1, h2⟩ := hel k (by omega)
        obtain ⟨l, hl32, rfl⟩ := bytes_of_trod h2
        obtain ⟨_, _, hcell⟩ := World.cells?_some h1
        have hfl : (flat L).length = 32 * k := by rw [flat_length hD, hL]
        refine ⟨L ++ [l], by simp [hL], hD.app (fun d hd => by simp at hd; subst hd; exact hl32), fun j x hj => ?_⟩
        rw [flat_app, show flat [l] = l by simp [flat]] at hj
        by_cases hlt : j < 32 * k
        · rw [List.getElem?_append_left (by omega)] at hj
          exact hc j x hj
        · obtain ⟨q, rfl⟩ : ∃ q, j = 32 * k + q := ⟨j - 32 * k, by omega⟩
          rw [List.getElem?_append_right (by omega), hfl, Nat.add_sub_cancel_left] at hj
          have hj2 : q < 32 := by have := (List.getElem?_eq_some_iff.1 hj).1; rw [hl32] at this; exact this
          have hq := hcell q hj2
          rw [List.getElem?_map, hj, Addr.add_mid, Addr.add_mid, Nat.mul_comm k 32, Nat.add_assoc] at hq
          exact ⟨World.block_lt_of_cell? W _ hq, hq⟩
    obtain ⟨L, hL, hD, hc⟩ := key len (Nat.le_refl _)
    refine ⟨_, _, _, L, rfl, ⟨hL, hD, by rw [flat_length hD, hL], fun j x hj => ?_⟩, hl⟩
    obtain ⟨hb, hcell⟩ := hc j x hj
    exact ⟨b, off, rfl, hb, hcell⟩
end Go.Proofs.YtiidcnjhjojhoaaDoor
