/-
  append at a step of a region that draws its order, with what it leaves of the other blocks; the four places where a variable's memory may be made beside it. No conditions.
-/
import Derived.Test.YtbekdlnoikkkbaaDoorEight
namespace Go.Proofs.YtbekdlnoikkkbaaDoor
open Go.RowKit
abbrev z8o : Obj := .cells z8 29
abbrev e0o : Obj := .cells #[] 5
theorem step_appG {P : Program} {t e : TypeId} (T : ByteTypes P t e) {w : World} {ops : Array Oper} {o : Oper} {a : Act} {K : Act → World → Prop} {Q : Exit → Act → World → Prop} {E : Prop} (hgd : o.guard = none) (s x : Operand)
    (ho : o.op = .call { callee := .builtin .append, args := #[s, x], argTypes := #[t, t] })
    (base : Nat) (v : Value) (n : Nat) (xs : List UInt8) (hs : a.eval s = v) (hown : Own w base e v n xs)
    (A : Option Addr) (m c : Nat) (l : List UInt8) (hx : a.eval x = .slice A m c) (hr : Bs w A m l) (hb : n + m ≤ 140737488355328) (hbase : base ≤ w.heap.size)
    (h : ∀ A' c' w', Own w' base e (.slice A' (n + m) c') (n + m) (xs ++ l) → Below base w w' → w.grownBy w' v.ownBlock → K (a.put o.dst (.slice A' (n + m) c')) w') :
    if Region.wanted o (yielded ops a.tmps) = true then Oper.wp P o a w K Q else E := by
  have hw : Region.wanted o (yielded ops a.tmps) = true := by simp [Region.wanted, hgd]
  rw [if_pos hw]
  obtain ⟨A', c', w', hrun, h2, h3, h4⟩ := run_app T o.type w base v n xs hown A m c l hr hb hbase
  unfold Oper.wp execOp
  simp only [ho, resolve, invoke, builtin, Sem.run_bind, Sem.run_pure, Result.andThen_ok, List.map_toArray, List.map_cons, List.map_nil, hs, hx, hrun]
  exact h A' c' w' h2 h3 h4
/-- what is known behind the append -/
structure AppFacts (w w1 w2 : World) (cs : Array Value) (A : Option Addr) (n c : Nat) (l : List UInt8) : Prop where
  row : Row w2 w.heap.size 29 cs
  bel : Below w.heap.size w w2
  bs : Bs w2 A n l
  cap : n ≤ c
  size : w1.heap.size ≤ w2.heap.size
theorem app_form {w2 : World} {base n c : Nat} {A : Option Addr} {l : List UInt8} (ho : Own w2 base 5 (.slice A (0 + n) c) (0 + n) ([] ++ l)) : Bs w2 A n l ∧ n ≤ c := by
  rw [Nat.zero_add, List.nil_append] at ho
  obtain ⟨A2, c2, hv, hc⟩ := ho.form
  injection hv with h1 h2 h3
  subst h3
  exact ⟨ho.bs, hc⟩
section
variable {w w1 w2 : World} {cs : Array Value} {A : Option Addr} {n c : Nat} {l : List UInt8}
theorem app1 (hr : Row w1 w.heap.size 29 cs) (hb : Below w.heap.size w w1) (ho : Own w2 w1.heap.size 5 (.slice A (0 + n) c) (0 + n) ([] ++ l)) (h2 : Below w1.heap.size (w1.alloc e0o).drew w2) : AppFacts w w1 w2 cs A n c l := by
  obtain ⟨q1, q2⟩ := app_form ho
  have hs := h2.size
  exact ⟨Row.below (w := (w1.alloc e0o).drew) (hr.alloc e0o) h2 hr.lt, (hb.alloc hb.size e0o).drew.trans (h2.mono hb.size), q1, q2, by simp at hs; omega⟩
theorem app3 (hr : Row w1 w.heap.size 29 cs) (hb : Below w.heap.size w w1) (ho : Own w2 w1.heap.size 5 (.slice A (0 + n) c) (0 + n) ([] ++ l)) (h2 : Below w1.heap.size ((w1.alloc e0o).alloc z8o).drew w2)
    (hg : ((w1.alloc e0o).alloc z8o).drew.grownBy w2 (some w1.heap.size)) : AppFacts w w1 w2 cs A n c l ∧ Row w2 (w1.heap.size + 1) 29 z8 := by
  obtain ⟨q1, q2⟩ := app_form ho
  have hs := h2.size
  refine ⟨⟨Row.below (w := ((w1.alloc e0o).alloc z8o).drew) ((hr.alloc e0o).alloc z8o) h2 hr.lt, ((hb.alloc hb.size e0o).alloc (by simp; have := hb.size; omega) z8o).drew.trans (h2.mono hb.size), q1, q2, by simp at hs; omega⟩, ?_⟩
  have hz : Row ((w1.alloc e0o).alloc z8o) (w1.heap.size + 1) 29 z8 := Row.new1 w1 _ 29 z8
  exact (hg.block (w1.heap.size + 1) hz.lt (by simp)).trans hz
theorem app4 (hr : Row w1 w.heap.size 29 cs) (hb : Below w.heap.size w w1) (ho : Own w2 w1.heap.size 5 (.slice A (0 + n) c) (0 + n) ([] ++ l)) (h2 : Below w1.heap.size ((w1.alloc z8o).alloc e0o).drew w2)
    (hg : ((w1.alloc z8o).alloc e0o).drew.grownBy w2 (some (w1.heap.size + 1))) : AppFacts w w1 w2 cs A n c l ∧ Row w2 w1.heap.size 29 z8 := by
  obtain ⟨q1, q2⟩ := app_form ho
  have hs := h2.size
  refine ⟨⟨Row.below (w := ((w1.alloc z8o).alloc e0o).drew) ((hr.alloc z8o).alloc e0o) h2 hr.lt, ((hb.alloc hb.size z8o).alloc (by simp; have := hb.size; omega) e0o).drew.trans (h2.mono hb.size), q1, q2, by simp at hs; omega⟩, ?_⟩
  have hz : Row ((w1.alloc z8o).alloc e0o) w1.heap.size 29 z8 := (Row.new w1 29 z8).alloc e0o
  exact (hg.block w1.heap.size hz.lt (by simp)).trans hz
theorem own4 (w1 : World) : Own ((w1.alloc z8o).alloc e0o) w1.heap.size 5 (.slice (some ⟨w1.heap.size + 1, 0, none⟩) 0 0) 0 [] := by
  have h := (empty_new (w1.alloc z8o) 5).mono (base' := w1.heap.size) (by simp)
  rwa [show (w1.alloc z8o).heap.size = w1.heap.size + 1 by simp] at h
end
theorem zfacts {w : World} {X : Nat} (r : Row w X 29 z8) : (w.cell? ⟨X, 0, none⟩ = some (.int .u32 0) ∧ w.cell? ⟨X, 1, none⟩ = some (.int .u32 0) ∧ w.cell? ⟨X, 2, none⟩ = some (.int .u32 0) ∧ w.cell? ⟨X, 3, none⟩ = some (.int .u32 0) ∧ w.cell? ⟨X, 4, none⟩ = some (.int .u32 0) ∧ w.cell? ⟨X, 5, none⟩ = some (.int .u32 0) ∧ w.cell? ⟨X, 6, none⟩ = some (.int .u32 0) ∧ w.cell? ⟨X, 7, none⟩ = some (.int .u32 0)) ∧
    (w.frozen? ⟨X, 0, none⟩ = false ∧ w.frozen? ⟨X, 1, none⟩ = false ∧ w.frozen? ⟨X, 2, none⟩ = false ∧ w.frozen? ⟨X, 3, none⟩ = false ∧ w.frozen? ⟨X, 4, none⟩ = false ∧ w.frozen? ⟨X, 5, none⟩ = false ∧ w.frozen? ⟨X, 6, none⟩ = false ∧ w.frozen? ⟨X, 7, none⟩ = false) :=
  ⟨cells8_of_row r, r.frozen 0, r.frozen 1, r.frozen 2, r.frozen 3, r.frozen 4, r.frozen 5, r.frozen 6, r.frozen 7⟩
end Go.Proofs.YtbekdlnoikkkbaaDoor
