/-
  Laws at an operation under a guard: a head is loaded, a zero head is built, heads that are the same are the same; a slice of texts is indexed and loaded.
-/
import Derived.Test.YtbpbpdaohganaaaDoorLedH
namespace Go.Proofs.YtbpbpdaohganaaaDoor
open Go.RowKit
theorem wpList_loadHG {ops : Array Oper} {rest : List Oper} {o : Oper} {a : Act} {w : World} {Q : Exit → Act → World → Prop} (hw : Region.wanted o (yielded ops a.tmps) = true) (x : Operand) (ho : o.op = .load 48 x) (g : Nat) (n : Int) (d : List UInt8)
    (hx : a.eval x = .pointer (some ⟨g, 0, none⟩)) (hr : Row w g 48 (headC n d)) (hd : (headC n d).size = 33) (h : wpList Tryd.prog ops Q rest (a.put o.dst (.agg (headC n d))) w) : wpList Tryd.prog ops Q (o :: rest) a w :=
  wpList_of hw fun _ hK => by
    unfold Oper.wp execOp
    simp only [ho, hx, Instr.loadAt, Instr.sureAddr, Sem.run_bind, Sem.run_pure, Result.andThen_ok, run_load_row Tryd.aggHead hr hd]
    exact hK _ _ h
theorem wpList_buildH0G {ops : Array Oper} {rest : List Oper} {o : Oper} {a : Act} {w : World} {Q : Exit → Act → World → Prop} (hw : Region.wanted o (yielded ops a.tmps) = true) (ho : o.op = .build 48 #[])
    (k : wpList Tryd.prog ops Q rest (a.put o.dst (.agg (headC 0 zero32))) w) : wpList Tryd.prog ops Q (o :: rest) a w := by
  have e : Tryd.prog.built 48 ((#[] : Array (Nat × Operand)).map fun (i, x) => (i, a.eval x)).toList = some (headC 0 zero32) := by simp only [List.map_toArray, List.map_nil]; exact builtH0
  refine wpList_of hw fun _ hK => wp_build 48 _ ho (by rw [e]; rfl) ?_
  rw [e]
  exact hK _ _ k
theorem run_eqlH (n : Int) (d : List UInt8) (hd : d.length = 32) (w : World) : (binOp .eql 48 (.agg (headC n d)) (.agg (headC n d))).run Tryd.prog w = .ok (.bool true) w := by
  rw [run_eql_struct, eqH n d hd w]
  rfl
theorem run_neqH (n : Int) (d : List UInt8) (hd : d.length = 32) (w : World) : (binOp .neq 48 (.agg (headC n d)) (.agg (headC n d))).run Tryd.prog w = .ok (.bool false) w := by
  rw [run_neq_struct, eqH n d hd w]
  rfl
theorem guardH (op : BinOp) (x y : Operand) (xs ys : Array Value) (w : World) : (eqGuard op 48 x y (.agg xs) (.agg ys)).run Tryd.prog w = .ok () w := run_eqGuard_agg w op 48 x y xs ys (by kernel_rfl)
theorem wp_eqH {o : Oper} {a : Act} {w : World} {K : Act → World → Prop} {Q : Exit → Act → World → Prop} (x y : Operand) (ho : o.op = .binOp .eql 48 x y 48) (n : Int) (d : List UInt8)
    (hx : a.eval x = .agg (headC n d)) (hy : a.eval y = .agg (headC n d)) (hd : d.length = 32) (h : K (a.put o.dst (.bool true)) w) : o.wp Tryd.prog a w K Q := by
  have h1 := run_eqlH n d hd w
  have h2 := guardH .eql x y (headC n d) (headC n d) w
  generalize headC n d = H at *
  unfold Oper.wp execOp
  simp only [ho, hx, hy]
  simp only [Sem.run_bind, h1, h2, Result.andThen_ok, Sem.run_pure]
  exact h
theorem wp_neH {o : Oper} {a : Act} {w : World} {K : Act → World → Prop} {Q : Exit → Act → World → Prop} (x y : Operand) (ho : o.op = .binOp .neq 48 x y 48) (n : Int) (d : List UInt8)
    (hx : a.eval x = .agg (headC n d)) (hy : a.eval y = .agg (headC n d)) (hd : d.length = 32) (h : K (a.put o.dst (.bool false)) w) : o.wp Tryd.prog a w K Q := by
  have h1 := run_neqH n d hd w
  have h2 := guardH .neq x y (headC n d) (headC n d) w
  generalize headC n d = H at *
  unfold Oper.wp execOp
  simp only [ho, hx, hy]
  simp only [Sem.run_bind, h1, h2, Result.andThen_ok, Sem.run_pure]
  exact h
theorem wpList_eqHG {ops : Array Oper} {rest : List Oper} {o : Oper} {a : Act} {w : World} {Q : Exit → Act → World → Prop} (hw : Region.wanted o (yielded ops a.tmps) = true) (x y : Operand) (ho : o.op = .binOp .eql 48 x y 48) (n : Int) (d : List UInt8)
    (hx : a.eval x = .agg (headC n d)) (hy : a.eval y = .agg (headC n d)) (hd : d.length = 32) (h : wpList Tryd.prog ops Q rest (a.put o.dst (.bool true)) w) : wpList Tryd.prog ops Q (o :: rest) a w :=
  wpList_of hw fun _ hK => wp_eqH x y ho n d hx hy hd (hK _ _ h)
theorem wpList_neHG {ops : Array Oper} {rest : List Oper} {o : Oper} {a : Act} {w : World} {Q : Exit → Act → World → Prop} (hw : Region.wanted o (yielded ops a.tmps) = true) (x y : Operand) (ho : o.op = .binOp .neq 48 x y 48) (n : Int) (d : List UInt8)
    (hx : a.eval x = .agg (headC n d)) (hy : a.eval y = .agg (headC n d)) (hd : d.length = 32) (h : wpList Tryd.prog ops Q rest (a.put o.dst (.bool false)) w) : wpList Tryd.prog ops Q (o :: rest) a w :=
  wpList_of hw fun _ hK => wp_neH x y ho n d hx hy hd (hK _ _ h)
end Go.Proofs.YtbpbpdaohganaaaDoor
