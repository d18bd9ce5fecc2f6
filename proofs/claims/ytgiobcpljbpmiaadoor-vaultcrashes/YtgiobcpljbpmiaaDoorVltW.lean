/-
  Memory of one's own, into which one may write.
-/
import Derived.Test.YtgiobcpljbpmiaaDoorVltS
namespace Go.Proofs.YtgiobcpljbpmiaaDoor
open Go.RowKit
/-- the first n cells are bytes -/
def U8s (cs : Array Value) (n : Nat) : Prop := n ≤ cs.size ∧ ∀ j, j < n → ∃ y : Int, cs[j]? = some (.int .u8 y)
theorem U8s.set {cs : Array Value} {n : Nat} (h : U8s cs n) (k : Nat) (y : Int) : U8s (cs.setIfInBounds k (.int .u8 y)) n := by
  refine ⟨by rw [Array.size_setIfInBounds]; exact h.1, fun j hj => ?_⟩
  rw [Array.getElem?_setIfInBounds]
  by_cases hk : k = j
  · rw [if_pos hk, if_pos (by have := h.1; omega)]; exact ⟨y, rfl⟩
  · rw [if_neg hk]; exact h.2 j hj
theorem own_u8 {w : World} {base : Nat} {A : Option Addr} {n c : Nat} {l : List UInt8} (h : Own w base 5 (.slice A n c) n l) : n = 0 ∨ ∃ g cs, A = some ⟨g, 0, none⟩ ∧ base ≤ g ∧ Row w g 5 cs ∧ U8s cs n := by
  have hl := h.length
  rcases h.2 with ⟨_, hn⟩ | ⟨g, cap, cur, hv, hge, hg, hnc, _, hcs, ht⟩
  · exact .inl hn
  · injection hv with h1 _ h3
    subst h1 h3
    refine .inr ⟨g, cur, rfl, hge, hg, by omega, fun j hj => ?_⟩
    have hj2 : j < l.length := by omega
    have e := congrArg (fun m => m[j]?) ht
    simp only [List.getElem?_take, List.getElem?_map] at e
    rw [if_pos (by omega), List.getElem?_eq_getElem hj2] at e
    exact ⟨_, by simpa using e⟩
/-- bytes into which one may write, in a block for which X holds -/
def WrB (w : World) (A : Option Addr) (m : Nat) (X : Nat → Prop) : Prop := m = 0 ∨ ∃ g cs, A = some ⟨g, 0, none⟩ ∧ Row w g 5 cs ∧ U8s cs m ∧ X g
theorem WrB.of {w : World} {base : Nat} {A : Option Addr} {n c : Nat} {l : List UInt8} {X : Nat → Prop} (h : Own w base 5 (.slice A n c) n l) (hX : ∀ g, base ≤ g → g < w.heap.size → X g) : WrB w A n X := by
  rcases own_u8 h with h0 | ⟨g, cs, h1, h2, h3, h4⟩
  · exact .inl h0
  · exact .inr ⟨g, cs, h1, h3, h4, hX g h2 h3.lt⟩
theorem WrB.off {w w' : World} {A : Option Addr} {n : Nat} {X Y G : Nat → Prop} (h : WrB w A n X) (ho : Off G w w') (hX : ∀ g, X g → ¬ G g) (hY : ∀ g, X g → Y g) : WrB w' A n Y := by
  rcases h with h0 | ⟨g, cs, h1, h2, h3, h4⟩
  · exact .inl h0
  · exact .inr ⟨g, cs, h1, h2.off ho (hX g h4), h3, hY g h4⟩
theorem WrB.write {w : World} {A : Option Addr} {m g k : Nat} {X : Nat → Prop} {cs : Array Value} {y : Int} (h : WrB w A m X) (hr : Row w g 5 cs) : WrB (w.setCell ⟨g, k, none⟩ (.int .u8 y)) A m X := by
  rcases h with h0 | ⟨gi, cs2, e2, hr2, hu, hx⟩
  · exact .inl h0
  · by_cases hgg : gi = g
    · subst hgg
      exact .inr ⟨gi, _, e2, hr2.set k _, hu.set k y, hx⟩
    · exact .inr ⟨gi, cs2, e2, hr2.only (Only.setCell g k w _) hgg, hu, hx⟩
/-- texts into which one may write -/
def Fst (w : World) (base : Nat) (A : Option Addr) (n : Nat) : Prop :=
  ∀ i, i < n → ∃ gf A' m c cur, A = some ⟨gf, 0, none⟩ ∧ base ≤ gf ∧ w.heap[gf]? = some (.cells cur 32 (0, 0)) ∧ w.cell? ⟨gf, i, none⟩ = some (.slice A' m c) ∧ m ≤ 1000000 ∧ (m = 0 ∨ ∃ gi cs, A' = some ⟨gi, 0, none⟩ ∧ base ≤ gi ∧ Row w gi 5 cs ∧ U8s cs m)
theorem ownL_fst {w : World} {base : Nat} {A : Option Addr} {n c : Nat} {L : List (List UInt8)} (h : OwnL w base (.slice A n c) n L) (h5 : ∀ l ∈ L, l.length ≤ 1000000) : Fst w base A n := by
  have hlen := h.length
  obtain ⟨vs, h1, h2, h3⟩ := h
  intro i hi
  have hiv : i < vs.length := by omega
  have hil : i < L.length := by omega
  have ho := h3 i _ _ (List.getElem?_eq_getElem hiv) (List.getElem?_eq_getElem hil)
  have hm := h5 _ (List.getElem_mem hil)
  rcases h1.2 with ⟨_, hn⟩ | ⟨g, cap, cur, hv, hge, hg, hnc, _, hcs, ht⟩
  · omega
  · injection hv with q1 _ q3
    subst q1 q3
    obtain ⟨A', c', hv', hc'⟩ := ho.form
    refine ⟨g, A', L[i].length, c', cur, rfl, hge, hg, ?_, hm, ?_⟩
    · rw [cell_of_row w g i cur 32 (0, 0) hg, ← hv', ← List.getElem?_eq_getElem hiv, ← ht, List.getElem?_take, if_pos (by omega)]; simp
    · rw [hv'] at ho; exact own_u8 ho
theorem Fst.only {w w' : World} {base k : Nat} {A : Option Addr} {n : Nat} (h : Fst w base A n) (ho : Only k w w') (hk : k < base) : Fst w' base A n := by
  intro i hi
  obtain ⟨gf, A', m, c, cur, e, hge, hg, hc, hm, ht⟩ := h i hi
  have hlt := (Array.getElem?_eq_some_iff.1 hg).1
  have hb := ho.block gf hlt (by omega)
  refine ⟨gf, A', m, c, cur, e, hge, hb.trans hg, (World.cell?_of_block (w := w) (a := ⟨gf, i, none⟩) hb).trans hc, hm, ?_⟩
  rcases ht with h0 | ⟨gi, cs, e2, hgi, hr, hu⟩
  · exact .inl h0
  · exact .inr ⟨gi, cs, e2, hgi, hr.only ho (by omega), hu⟩
theorem Fst.below {w w' : World} {base : Nat} {A : Option Addr} {n : Nat} (h : Fst w base A n) (hb' : Below w.heap.size w w') : Fst w' base A n := by
  intro i hi
  obtain ⟨gf, A', m, c, cur, e, hge, hg, hc, hm, ht⟩ := h i hi
  have hb := hb'.block gf (Array.getElem?_eq_some_iff.1 hg).1
  refine ⟨gf, A', m, c, cur, e, hge, hb.trans hg, (World.cell?_of_block (w := w) (a := ⟨gf, i, none⟩) hb).trans hc, hm, ?_⟩
  rcases ht with h0 | ⟨gi, cs, e2, hgi, hr, hu⟩
  · exact .inl h0
  · exact .inr ⟨gi, cs, e2, hgi, hr.below hb' hr.lt, hu⟩
theorem Fst.write {w : World} {base : Nat} {A : Option Addr} {n g k : Nat} {cs : Array Value} {y : Int} (h : Fst w base A n) (hr : Row w g 5 cs) : Fst (w.setCell ⟨g, k, none⟩ (.int .u8 y)) base A n := by
  intro i hi
  obtain ⟨gf, A', m, c, cur, e, hge, hg, hc, hm, ht⟩ := h i hi
  have hne : gf ≠ g := by
    rintro rfl
    unfold Row at hr
    rw [hr] at hg
    injection hg with q
    injection q with _ q
    cases q
  have ho := Only.setCell g k w (.int .u8 y)
  have hb := ho.block gf ((Array.getElem?_eq_some_iff.1 hg).1) hne
  refine ⟨gf, A', m, c, cur, e, hge, hb.trans hg, (World.cell?_of_block (w := w) (a := ⟨gf, i, none⟩) hb).trans hc, hm, ?_⟩
  rcases ht with h0 | ⟨gi, cs2, e2, hgi, hr2, hu⟩
  · exact .inl h0
  · by_cases hgg : gi = g
    · subst hgg
      exact .inr ⟨gi, _, e2, hgi, hr2.set k _, hu.set k y⟩
    · exact .inr ⟨gi, cs2, e2, hgi, hr2.only ho hgg, hu⟩
theorem Pair.write {w : World} {v g m b k : Nat} {P D : Nat → Prop} {S : Tp} {V : Vs} {u : Value} (h : Pair w v g m P D S V) (h1 : ¬ P b) (h2 : ¬ D b) : Pair (w.setCell ⟨b, k, none⟩ u) v g m P D S V :=
  ⟨h.1.off (Off.setCell (F := fun x => x = b) w b k u rfl) (fun x q e => h1 (by rw [← e]; exact q)), h.2.1.off (Off.setCell (F := fun x => x = b) w b k u rfl) (fun x q e => h2 (by rw [← e]; exact q)), h.2.2⟩
end Go.Proofs.YtgiobcpljbpmiaaDoor
