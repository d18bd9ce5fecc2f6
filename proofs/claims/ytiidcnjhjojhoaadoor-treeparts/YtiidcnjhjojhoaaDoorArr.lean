/-
  Whole arrays by value: out of a block, into a block, as a result; what a call leaves that writes one block alone. Nothing of the program is named here. No conditions.
-/
import Derived.Test.YtiidcnjhjojhoaaDoorWords
import Derived.Deep.WholeRow
import Derived.Deep.MidRow
import Derived.Deep.QuietTactic
import Derived.BigQuiet
namespace Go.Proofs.YtiidcnjhjojhoaaDoor
open Go.RowKit
theorem below_drewN' {B : Nat} {a w : World} (h : Below B a w) (n : Nat) : Below B a (w.drewN n) := ⟨h.os, h.tape, h.output, h.size, h.block⟩
theorem quiet_same {P : Program} {f : FuncId} {args : Array Value} {w : World} {n : Nat} {v : Value}
    (h : Calls P f args (w.drewN n) fun e w' => e = .returned v ∧ w.drewN n = w') : Calls P f args (w.drewN n) fun e w'' => e = .returned v ∧ ∃ m, w'' = w.drewN m :=
  h.mono fun _ _ ⟨he, hm⟩ => ⟨he, n, hm.symm⟩
theorem Row.new1 (w : World) (o : Obj) (t : TypeId) (cs : Array Value) : Row ((w.alloc o).alloc (.cells cs t)) (w.heap.size + 1) t cs := by
  have := Row.new (w.alloc o) t cs
  rwa [show (w.alloc o).heap.size = w.heap.size + 1 by simp] at this
theorem Row.new2 (w : World) (o o' : Obj) (t : TypeId) (cs : Array Value) : Row (((w.alloc o).alloc o').alloc (.cells cs t)) (w.heap.size + 1 + 1) t cs := by
  have := Row.new1 (w.alloc o) o' t cs
  rwa [show (w.alloc o).heap.size = w.heap.size + 1 by simp] at this
section
variable {P : Program}
/-- a type whose values are n cells: an array or a struct -/
def AggType (P : Program) (ty : TypeId) (n : Nat) : Prop := ∃ d, P.underlying ty = some d ∧ d.isRow = true ∧ (P.info? ty).map (·.size) = some n
theorem run_load_row {w : World} {g : Nat} {t ty : TypeId} {cs : Array Value} {n : Nat} (T : AggType P ty n) (h : Row w g t cs) (hn : cs.size = n) :
    (loadVar ty ⟨g, 0, none⟩).run P w = .ok (.agg cs) w := by
  obtain ⟨d, hu, hd, hi⟩ := T
  cases d <;> first | exact run_loadVar_row w g t ty cs (0, 0) _ h hu rfl (by rw [hi, hn]) | cases hd
theorem results_row1 {fn : Func} {tmps : Array Value} {w : World} {a g : Nat} {t ty : TypeId} {cs : Array Value} {n : Nat} (T : AggType P ty n) (hf : fn.results = #[.cell a ty])
    (ha : tmps.getD a undef = .pointer (some ⟨g, 0, none⟩)) (h : Row w g t cs) (hn : cs.size = n) : (results fn tmps).run P w = .ok (.agg cs) w := by
  rw [Array.getD_eq_getD_getElem?] at ha
  unfold results
  rw [hf]
  simp [ha, asAddr, run_load_row T h hn]
theorem results_row2 {fn : Func} {tmps : Array Value} {w : World} {a b g : Nat} {t ty : TypeId} {cs : Array Value} {n : Nat} {v : Value} (T : AggType P ty n) (hf : fn.results = #[.cell a ty, .tmp b])
    (ha : tmps.getD a undef = .pointer (some ⟨g, 0, none⟩)) (hb : tmps.getD b undef = v) (h : Row w g t cs) (hn : cs.size = n) : (results fn tmps).run P w = .ok (.tuple #[.agg cs, v]) w := by
  rw [Array.getD_eq_getD_getElem?] at ha hb
  unfold results
  rw [hf]
  simp [ha, hb, asAddr, run_load_row T h hn]
theorem wpList_load_row {n : Nat} {ty : TypeId} (T : AggType P ty n) {ops : Array Oper} {rest : List Oper} {op : Oper} {a : Act} {w : World} {Q : Exit → Act → World → Prop} (hgd : op.guard = none) (x : Operand) (ho : op.op = .load ty x)
    (g : Nat) (hx : a.eval x = .pointer (some ⟨g, 0, none⟩)) (t : TypeId) (cs : Array Value) (hr : Row w g t cs) (hn : cs.size = n)
    (h : wpList P ops Q rest (a.put op.dst (.agg cs)) w) : wpList P ops Q (op :: rest) a w := by
  refine wpList_plain hgd fun K hK => ?_
  unfold Oper.wp execOp
  simp only [ho, hx, Instr.loadAt, Instr.sureAddr, Sem.run_bind, Sem.run_pure, Result.andThen_ok, run_load_row T hr hn]
  exact hK _ _ h
theorem Row.setRow {w : World} {g : Nat} {t : TypeId} {old : Array Value} (h : Row w g t old) (cs : Array Value) : Row (w.setRow g cs) g t cs := setRow_heap w g old cs t (0, 0) h
theorem heap_setRow (w : World) (g : Nat) (cs : Array Value) (k : Nat) (h : k ≠ g) : (w.setRow g cs).heap[k]? = w.heap[k]? := by
  simp only [World.setRow, Array.getElem?_modify]
  rw [if_neg (by omega)]
/-- but for block g the world is as it was -/
structure Only (g : Nat) (w w' : World) : Prop where
  os : w'.os = w.os
  tape : w'.tape = w.tape
  output : w'.output = w.output
  size : w.heap.size ≤ w'.heap.size
  block : ∀ k, k < w.heap.size → k ≠ g → w'.heap[k]? = w.heap[k]?
theorem Only.refl (g : Nat) (w : World) : Only g w w := ⟨rfl, rfl, rfl, Nat.le_refl _, fun _ _ _ => rfl⟩
theorem Only.trans {g : Nat} {a b c : World} (h : Only g a b) (k : Only g b c) : Only g a c :=
  ⟨k.os.trans h.os, k.tape.trans h.tape, k.output.trans h.output, Nat.le_trans h.size k.size, fun i hi hg => (k.block i (Nat.lt_of_lt_of_le hi h.size) hg).trans (h.block i hi hg)⟩
theorem Only.of_below {g : Nat} {w w' : World} (h : Below w.heap.size w w') : Only g w w' := ⟨h.os, h.tape, h.output, h.size, fun k hk _ => h.block k hk⟩
theorem Only.below {g B : Nat} {w w' : World} (h : Only g w w') (hg : B ≤ g) (hB : B ≤ w.heap.size) : Below B w w' := ⟨h.os, h.tape, h.output, h.size, fun k hk => h.block k (by omega) (by omega)⟩
theorem Only.drewN {g : Nat} {a w : World} (h : Only g a w) (n : Nat) : Only g a (w.drewN n) := ⟨h.os, h.tape, h.output, h.size, h.block⟩
theorem Only.drew {g : Nat} {a w : World} (h : Only g a w) : Only g a w.drew := ⟨h.os, h.tape, h.output, h.size, h.block⟩
theorem Only.setRow (g : Nat) (w : World) (cs : Array Value) : Only g w (w.setRow g cs) := ⟨rfl, rfl, rfl, by simp [World.setRow], fun k _ hg => heap_setRow w g cs k hg⟩
theorem Only.setCell (g o : Nat) (w : World) (u : Value) : Only g w (w.setCell ⟨g, o, none⟩ u) := ⟨rfl, rfl, rfl, by simp [World.setCell], fun _ _ hg => Below.heap_setCell _ _ _ _ hg⟩
theorem Row.only {g k : Nat} {t : TypeId} {cs : Array Value} {w w' : World} (h : Row w k t cs) (ho : Only g w w') (hk : k ≠ g) : Row w' k t cs := (ho.block k h.lt hk).trans h
/-- a slice that does not lie in block g -/
def Apart (A : Option Addr) (n g : Nat) : Prop := n = 0 ∨ ∃ b off, A = some ⟨b, off, none⟩ ∧ b ≠ g
theorem Bs.apart {w : World} {A : Option Addr} {n g : Nat} {l : List UInt8} (h : Bs w A n l) (hg : w.heap.size ≤ g) : Apart A n g := by
  by_cases hn : n = 0
  · exact .inl hn
  · obtain ⟨b, off, x, hA, hb, _⟩ := h.get (k := 0) (by omega)
    exact .inr ⟨b, off, hA, by omega⟩
theorem Bs.only {w w' : World} {A : Option Addr} {n g : Nat} {l : List UInt8} (h : Bs w A n l) (ha : Apart A n g) (ho : Only g w w') : Bs w' A n l := by
  refine ⟨h.1, fun k x hx => ?_⟩
  obtain ⟨b, off, hA, hb, hc⟩ := h.2 k x hx
  have hk : k < n := by rw [← h.1]; exact (List.getElem?_eq_some_iff.1 hx).1
  rcases ha with h0 | ⟨b', off', hA', hne⟩
  · omega
  · rw [hA] at hA'
    injection hA' with e
    injection e with e1 e2
    subst e1
    exact ⟨b, off, hA, Nat.lt_of_lt_of_le hb ho.size, (World.cell?_of_block (w := w) (a := ⟨b, off + k, none⟩) (ho.block b hb hne)).trans hc⟩
theorem wpList_store_row {n : Nat} {ty : TypeId} (T : AggType P ty n) {ops : Array Oper} {rest : List Oper} {op : Oper} {a : Act} {w : World} {Q : Exit → Act → World → Prop} (hgd : op.guard = none) (x y : Operand) (ho : op.op = .store ty x y)
    (g : Nat) (cells : Array Value) (hx : a.eval x = .pointer (some ⟨g, 0, none⟩)) (hy : a.eval y = .agg cells) (t : TypeId) (old : Array Value) (hr : Row w g t old) (hn : cells.size = n) (hold : old.size = n) (h1 : cells.all (·.oneCell') = true)
    (h : ∀ w', Row w' g t cells → Only g w w' → wpList P ops Q rest (a.put op.dst undef) w') : wpList P ops Q (op :: rest) a w := by
  obtain ⟨d, hu, hd, hi⟩ := T
  refine wpList_plain hgd fun K hK => ?_
  refine wp_store_row ty x y ho g cells hx hy t old hr (by rw [hi, hn]) (by rw [hold, hn]) h1 ?_
  exact hK _ _ (h _ (hr.setRow cells) (Only.setRow g w cells))
end
end Go.Proofs.YtiidcnjhjojhoaaDoor
