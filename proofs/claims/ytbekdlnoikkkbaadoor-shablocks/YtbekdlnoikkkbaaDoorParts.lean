/-
  A list of lists of bytes that came in, opened; what stays of a hash and of a row of the call's own when others are written. No conditions.
-/
import Derived.Test.YtbekdlnoikkkbaaDoorRefJoin
import Derived.Deep.Matrix
namespace Go.Proofs.YtbekdlnoikkkbaaDoor
open Go.ChangeShapes Go.WideShapes Go.ChangeAt Go.RowKit
/-- each of the first n cells holds a slice of bytes -/
def Parts (w : World) (a0 : Option Addr) (n : Nat) : Prop :=
  ∀ r, r < n → ∃ (b off : Nat) (A : Option Addr) (k c : Nat) (l : List UInt8), a0 = some ⟨b, off, none⟩ ∧ b < w.heap.size ∧ w.cell? ⟨b, off + r, none⟩ = some (.slice A k c) ∧ k ≤ c ∧ Bs w A k l
theorem Parts.below {w w' : World} {a0 : Option Addr} {n : Nat} (h : Parts w a0 n) (hb : Below w.heap.size w w') : Parts w' a0 n := fun r hr => by
  obtain ⟨b, off, A, k, c, l, e, hlt, hc, hk, hB⟩ := h r hr
  exact ⟨b, off, A, k, c, l, e, Nat.lt_of_lt_of_le hlt hb.size, (hb.cell (p := ⟨b, off + r, none⟩) hlt).trans hc, hk, hB.below hb⟩
theorem open_parts {H : Type} {enc : TypeId × Value → H} {W : World} {base : Nat} {v : Value} {d : DataW H} {p : List MemPlace} (hv : Value.okWide Tryd.prog W .any base 40 v)
    (h : DataW.Trod enc Tryd.prog W 0 (fun _ => true) true 40 v d p) : ∃ (a0 : Option Addr) (len cap : Nat), v = .slice a0 len cap ∧ Parts W a0 len := by
  obtain ⟨a0, len, cap, rfl⟩ := okWide_slice Tryd.underlying40 hv
  refine ⟨a0, len, cap, rfl, ?_⟩
  obtain ⟨fuel, hf⟩ := h
  rcases Deep.open_int_rows Tryd.underlying40 Tryd.underlying22 Tryd.underlying5 (by kernel_rfl) (by kernel_rfl) hf with ⟨hcs, _⟩ | ⟨a, len', cap', A, L, C, Z, hcs, _, hl, _, _, hr⟩
  · simp [Value.cells] at hcs
    obtain ⟨rfl, rfl, rfl⟩ := hcs
    intro r hr; omega
  · simp [Value.cells] at hcs
    obtain ⟨rfl, rfl, rfl⟩ := hcs
    intro r hrl
    obtain ⟨hc, hLC, _, hZ, hwf, hnone, hsome⟩ := hr r (by omega)
    obtain ⟨b, off, spot⟩ := a
    have hspot : spot = none := by
      obtain ⟨h0, _⟩ := hr 0 (by omega)
      simpa [Addr.add] using World.cell?_spot h0
    subst hspot
    rw [Addr.add_mid] at hc
    refine ⟨b, off, A r, L r, C r, ((Z r).take (L r)).map fun z => UInt8.ofNat z.toNat, rfl, World.block_lt_of_cell? W _ hc, hc, hLC, ?_⟩
    cases hA : A r with
    | none =>
      have h0 : L r = 0 := by have := hnone hA; omega
      rw [h0]
      simpa using Bs.nil W none
    | some a' =>
      obtain ⟨_, hcell⟩ := hsome a' hA
      exact Bs.of_ints hLC hZ (fun i hi => hcell i (by rw [hZ] at hi; exact hi)) hwf
theorem HashAt.belowB {w w' : World} {g B : Nat} {m : List UInt8} (h : HashAt w g m) (hb : Below B w w') (hg : g < B) : HashAt w' g m := by
  obtain ⟨P, hp, hr, ht⟩ := h; exact ⟨P, hp, hr.below hb hg, ht⟩
theorem own_only {w w' : World} {base g : Nat} {e : TypeId} {v : Value} {n : Nat} {l : List UInt8} (h : Own w base e v n l) (ho : Only g w w') (hg : g < base) : Own w' base e v n l := by
  refine ⟨h.1, ?_⟩
  rcases h.2 with h0 | ⟨b, cap, cur, hv, hge, hb, hr⟩
  · exact .inl h0
  · exact .inr ⟨b, cap, cur, hv, hge, (ho.block b ((Array.getElem?_eq_some_iff.1 hb).1) (by omega)).trans hb, hr⟩
/-- append([]byte{}, x...) under a guard that says yes -/
theorem wpList_copyG {P : Program} {t e : TypeId} (T : ByteTypes P t e) {w : World} {ops : Array Oper} {rest : List Oper} {o : Oper} {a : Act} {Q : Exit → Act → World → Prop} (hw : Region.wanted o (yielded ops a.tmps) = true) (s x : Operand)
    (ho : o.op = .call { callee := .builtin .append, args := #[s, x], argTypes := #[t, t] })
    (hs : a.eval s = .slice (some ⟨w.heap.size, 0, none⟩) 0 0)
    (A : Option Addr) (m c : Nat) (l : List UInt8) (hx : a.eval x = .slice A m c) (hr : Bs w A m l) (hb : m ≤ 140737488355328)
    (h : ∀ A' c' w', Bs w' A' m l → m ≤ c' → Below w.heap.size w w' → wpList P ops Q rest (a.put o.dst (.slice A' m c')) w') :
    wpList P ops Q (o :: rest) a (w.alloc (.cells #[] e)) := by
  have hbel0 : Below w.heap.size w (w.alloc (.cells #[] e)) := (Below.refl _ _).alloc (Nat.le_refl _) _
  refine wpList_step fun K hK => ?_
  rw [if_pos hw]
  obtain ⟨A', c', w', hrun, h2, h3, h4⟩ := run_app T o.type (w.alloc (.cells #[] e)) w.heap.size _ 0 [] (empty_new w e) A m c l (hr.below hbel0) (by omega) (by simp)
  rw [Nat.zero_add] at h2 hrun
  obtain ⟨A2, c2, hv, hc⟩ := h2.form
  injection hv with q1 q2 q3
  subst q1 q3
  unfold Oper.wp execOp
  simp only [ho, resolve, invoke, builtin, Sem.run_bind, Sem.run_pure, Result.andThen_ok, List.map_toArray, List.map_cons, List.map_nil, hs, hx, hrun]
  exact hK _ _ (h A' c' w' (by simpa using h2.bs) hc (hbel0.trans h3))
end Go.Proofs.YtbekdlnoikkkbaaDoor
