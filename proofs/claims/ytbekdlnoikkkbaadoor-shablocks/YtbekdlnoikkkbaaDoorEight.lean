/-
  Eight words that came in by value, opened; sha.Block and the document's own in the form that a law's walk wants.
-/
import Derived.Test.YtbekdlnoikkkbaaDoorParts
import Derived.Test.YtbekdlnoikkkbaaDoorBlock
namespace Go.Proofs.YtbekdlnoikkkbaaDoor
open Go.ChangeShapes Go.WideShapes Go.ChangeAt Go.RowKit
theorem open_words8 {H : Type} {enc : TypeId × Value → H} {W : World} {base : Nat} {v : Value} {d : DataW H} {p : List MemPlace} (hv : Value.okWide Tryd.prog W .any base 29 v)
    (h : DataW.Trod enc Tryd.prog W 0 (fun _ => true) true 29 v d p) : ∃ s : S8, s.ok ∧ v = v8 s := by
  obtain ⟨cs, rfl, hsz⟩ : ∃ cs, v = .agg cs ∧ cs.size = Tryd.prog.cellsOf 29 := by
    simp only [Value.okWide, Tryd.underlying29] at hv
    obtain ⟨cs, h1, h2, _⟩ := hv
    exact ⟨cs, h1, h2⟩
  obtain ⟨fuel, hf⟩ := h
  obtain ⟨xs, m, rfl, hx, hlen, hxl, hel⟩ := DataW.trod_array Tryd.underlying29 hf
  have c28 : Tryd.prog.cellsOf 28 = 1 := by kernel_rfl
  have c29 : Tryd.prog.cellsOf 29 = 8 := by kernel_rfl
  rw [c29] at hsz
  have each : ∀ i, i < 8 → ∃ z, cs[i]? = some (.int .u32 z) ∧ W32 z := by
    intro i hi
    have hi' := hel i hi
    rw [c28, Nat.mul_one] at hi'
    obtain ⟨x, hx'⟩ : ∃ x, xs[i]? = some x := ⟨_, List.getElem?_eq_getElem (by omega)⟩
    rw [hx'] at hi'
    obtain ⟨k, e1, e2, hw⟩ := DataW.trod_int Tryd.underlying28 hi'
    have e3 := congrArg (·[0]?) e1
    simp [Value.cells, List.getElem?_drop] at e3
    have hb := bounds_u32 hw
    exact ⟨k, e3, hb.1, by omega⟩
  obtain ⟨z0, c0, o0⟩ := each 0 (by omega)
  obtain ⟨z1, c1, o1⟩ := each 1 (by omega)
  obtain ⟨z2, c2, o2⟩ := each 2 (by omega)
  obtain ⟨z3, c3, o3⟩ := each 3 (by omega)
  obtain ⟨z4, c4, o4⟩ := each 4 (by omega)
  obtain ⟨z5, c5, o5⟩ := each 5 (by omega)
  obtain ⟨z6, c6, o6⟩ := each 6 (by omega)
  obtain ⟨z7, c7, o7⟩ := each 7 (by omega)
  refine ⟨⟨z0, z1, z2, z3, z4, z5, z6, z7⟩, ⟨o0, o1, o2, o3, o4, o5, o6, o7⟩, ?_⟩
  unfold v8
  congr 1
  apply Array.ext_getElem?
  intro j
  by_cases hj : j < 8
  · match j, hj with
    | 0, _ => exact c0
    | 1, _ => exact c1
    | 2, _ => exact c2
    | 3, _ => exact c3
    | 4, _ => exact c4
    | 5, _ => exact c5
    | 6, _ => exact c6
    | 7, _ => exact c7
  · rw [Array.getElem?_eq_none (by omega), Array.getElem?_eq_none (by simp; omega)]
/-- append(v, x...) at a step of a region that draws its order -/
theorem step_app {P : Program} {t e : TypeId} (T : ByteTypes P t e) {w : World} {ops : Array Oper} {o : Oper} {a : Act} {K : Act → World → Prop} {Q : Exit → Act → World → Prop} {E : Prop} (hgd : o.guard = none) (s x : Operand)
    (ho : o.op = .call { callee := .builtin .append, args := #[s, x], argTypes := #[t, t] })
    (base : Nat) (v : Value) (n : Nat) (xs : List UInt8) (hs : a.eval s = v) (hown : Own w base e v n xs)
    (A : Option Addr) (m c : Nat) (l : List UInt8) (hx : a.eval x = .slice A m c) (hr : Bs w A m l) (hb : n + m ≤ 140737488355328) (hbase : base ≤ w.heap.size)
    (h : ∀ A' c' w', Own w' base e (.slice A' (n + m) c') (n + m) (xs ++ l) → Below base w w' → K (a.put o.dst (.slice A' (n + m) c')) w') :
    if Region.wanted o (yielded ops a.tmps) = true then Oper.wp P o a w K Q else E := by
  have hw : Region.wanted o (yielded ops a.tmps) = true := by simp [Region.wanted, hgd]
  rw [if_pos hw]
  obtain ⟨A', c', w', hrun, h2, h3, _⟩ := run_app T o.type w base v n xs hown A m c l hr hb hbase
  unfold Oper.wp execOp
  simp only [ho, resolve, invoke, builtin, Sem.run_bind, Sem.run_pure, Result.andThen_ok, List.map_toArray, List.map_cons, List.map_nil, hs, hx, hrun]
  exact h A' c' w' h2 h3
/-- eight words and no error are answered: s, under a name of their own -/
def RetWordsE (w : World) (s : S8) (e : Ending) (w' : World) : Prop := ∃ a b c d e2 f g h : Int, Hid (s = ⟨a, b, c, d, e2, f, g, h⟩) ∧ e = .returned (.tuple #[.agg #[.int .u32 a, .int .u32 b, .int .u32 c, .int .u32 d, .int .u32 e2, .int .u32 f, .int .u32 g, .int .u32 h], .int .i64 0]) ∧ Below w.heap.size w w'
theorem Block_ex (a b c d e f g h : Int) (A : Option Addr) (cap : Nat) (l : List UInt8) (w : World) (hB : Bs w A 64 l) (hcap : 64 ≤ cap) (hT : Tab 2 w) (hok : S8.ok ⟨a, b, c, d, e, f, g, h⟩) :
    Calls Tryd.prog 12 #[.agg #[.int .u32 a, .int .u32 b, .int .u32 c, .int .u32 d, .int .u32 e, .int .u32 f, .int .u32 g, .int .u32 h], .slice A 64 cap] w (RetWordsE w (blockS ⟨a, b, c, d, e, f, g, h⟩ l)) := by
  refine (Block_ok a b c d e f g h A cap l w hB hcap hT hok).mono ?_
  intro en w' ⟨he, hb⟩
  generalize blockS ⟨a, b, c, d, e, f, g, h⟩ l = R at *
  exact ⟨R.a, R.b, R.c, R.d, R.e, R.f, R.g, R.h, Lib.hid rfl, he, hb⟩
theorem RefBlock_is (a b c d e f g h ra rb rc rd re rf rg rh : Int) (A : Option Addr) (cap : Nat) (l : List UInt8) (w : World) (hB : Bs w A 64 l) (hT : Tab 1 w) (hok : S8.ok ⟨a, b, c, d, e, f, g, h⟩) (hR : blockS ⟨a, b, c, d, e, f, g, h⟩ l = ⟨ra, rb, rc, rd, re, rf, rg, rh⟩) :
    Calls Tryd.prog 13 #[.agg #[.int .u32 a, .int .u32 b, .int .u32 c, .int .u32 d, .int .u32 e, .int .u32 f, .int .u32 g, .int .u32 h], .slice A 64 cap] w fun en w' => en = .returned (.agg #[.int .u32 ra, .int .u32 rb, .int .u32 rc, .int .u32 rd, .int .u32 re, .int .u32 rf, .int .u32 rg, .int .u32 rh]) ∧ Below w.heap.size w w' := by
  refine (RefBlock_any a b c d e f g h A cap l w hB hT hok).mono ?_
  intro en w' ⟨he, hb⟩
  rw [hR] at he
  exact ⟨he, hb⟩
theorem Block_noL (a b c d e f g h : Int) (A : Option Addr) (n cap : Nat) (w : World) (hn : n ≠ 64) :
    Calls Tryd.prog 12 #[.agg #[.int .u32 a, .int .u32 b, .int .u32 c, .int .u32 d, .int .u32 e, .int .u32 f, .int .u32 g, .int .u32 h], .slice A n cap] w fun en w' => en = .returned (.tuple #[.agg #[.int .u32 0, .int .u32 0, .int .u32 0, .int .u32 0, .int .u32 0, .int .u32 0, .int .u32 0, .int .u32 0], .int .i64 1]) ∧ Below w.heap.size w w' := Block_no a b c d e f g h A n cap w hn
theorem eq_wordsL (a b c d e f g h : Int) (w : World) : (Op.equalIn 10000 29 (.agg #[.int .u32 a, .int .u32 b, .int .u32 c, .int .u32 d, .int .u32 e, .int .u32 f, .int .u32 g, .int .u32 h]) (.agg #[.int .u32 a, .int .u32 b, .int .u32 c, .int .u32 d, .int .u32 e, .int .u32 f, .int .u32 g, .int .u32 h])).run Tryd.prog w = .ok true w := eq_words ⟨a, b, c, d, e, f, g, h⟩ w
theorem cells8_of_row {w : World} {G : Nat} {t : TypeId} {a b c d e f g h : Int} (r : Row w G t #[.int .u32 a, .int .u32 b, .int .u32 c, .int .u32 d, .int .u32 e, .int .u32 f, .int .u32 g, .int .u32 h]) : w.cell? ⟨G, 0, none⟩ = some (.int .u32 a) ∧ w.cell? ⟨G, 1, none⟩ = some (.int .u32 b) ∧ w.cell? ⟨G, 2, none⟩ = some (.int .u32 c) ∧ w.cell? ⟨G, 3, none⟩ = some (.int .u32 d) ∧ w.cell? ⟨G, 4, none⟩ = some (.int .u32 e) ∧ w.cell? ⟨G, 5, none⟩ = some (.int .u32 f) ∧ w.cell? ⟨G, 6, none⟩ = some (.int .u32 g) ∧ w.cell? ⟨G, 7, none⟩ = some (.int .u32 h) :=
  ⟨r.cell 0, r.cell 1, r.cell 2, r.cell 3, r.cell 4, r.cell 5, r.cell 6, r.cell 7⟩
end Go.Proofs.YtbekdlnoikkkbaaDoor
