/-
  What the program's ledger tells: a head, a leaf, the proof of a place, of a beginning; and a head's own equality.
-/
import Derived.Test.YtbpbpdaohganaaaDoorLedB
namespace Go.Proofs.YtbpbpdaohganaaaDoor
open Go.RowKit
/-- a head's cells -/
def headC (n : Int) (d : List UInt8) : Array Value := #[.int .i64 n] ++ bcells d
def head0 : Array Value := headC 0 zero32
theorem headC_size (n : Int) (d : List UInt8) (h : d.length = 32) : (headC n d).size = 33 := by simp [headC, bcells_size, h]
theorem headC_one (n : Int) (d : List UInt8) : (headC n d).all (·.oneCell') = true := by
  have h1 := bcells_one d
  have h2 : (#[Value.int .i64 n] : Array Value).all (·.oneCell') = true := by simp [Value.oneCell']
  rw [headC, Array.all_append, h1, h2]
  rfl
theorem head0_size : head0.size = 33 := headC_size 0 zero32 zero32_length
theorem Tryd.aggHead : AggType Tryd.prog 48 33 := ⟨_, Tryd.underlying48, rfl, by kernel_rfl⟩
theorem builtH : ∀ (n : Int) (d : List UInt8), d.length = 32 → Tryd.prog.built 48 [(0, .int .i64 n), (1, .agg (bcells d))] = some (headC n d)
  | n, [b0, b1, b2, b3, b4, b5, b6, b7, b8, b9, b10, b11, b12, b13, b14, b15, b16, b17, b18, b19, b20, b21, b22, b23, b24, b25, b26, b27, b28, b29, b30, b31], _ => by kernel_rfl
theorem builtH0 : Tryd.prog.built 48 [] = some head0 := by kernel_rfl
theorem zeroH : (Tryd.prog.info? 48).map (fun i => (i.zero, i.size)) = some (some (.agg head0), 33) := by kernel_rfl
theorem wpList_buildH {ops : Array Oper} {rest : List Oper} {o : Oper} {a : Act} {w : World} {Q : Exit → Act → World → Prop} (hgd : o.guard = none) (x y : Operand) (ho : o.op = .build 48 #[(0, x), (1, y)]) (n : Int) (d : List UInt8) (hd : d.length = 32)
    (hx : a.eval x = .int .i64 n) (hy : a.eval y = .agg (bcells d)) (k : wpList Tryd.prog ops Q rest (a.put o.dst (.agg (headC n d))) w) : wpList Tryd.prog ops Q (o :: rest) a w := by
  have e : Tryd.prog.built 48 ((#[(0, x), (1, y)] : Array (Nat × Operand)).map fun (i, x) => (i, a.eval x)).toList = some (headC n d) := by
    rw [List.map_toArray]
    simp only [List.map_cons, List.map_nil, hx, hy]
    exact builtH n d hd
  refine wpList_build hgd 48 _ ho (by rw [e]; rfl) ?_
  rw [e]
  exact k
theorem wpList_buildH0 {ops : Array Oper} {rest : List Oper} {o : Oper} {a : Act} {w : World} {Q : Exit → Act → World → Prop} (hgd : o.guard = none) (ho : o.op = .build 48 #[])
    (k : wpList Tryd.prog ops Q rest (a.put o.dst (.agg head0)) w) : wpList Tryd.prog ops Q (o :: rest) a w := by
  have e : Tryd.prog.built 48 ((#[] : Array (Nat × Operand)).map fun (i, x) => (i, a.eval x)).toList = some head0 := by simp only [List.map_toArray, List.map_nil]; exact builtH0
  refine wpList_build hgd 48 _ ho (by rw [e]; rfl) ?_
  rw [e]
  exact k
theorem run_allocH (w : World) : (Instr.alloc 48 true (.tuple #[])).run Tryd.prog w = .ok (.pointer (some ⟨w.heap.size, 0, none⟩)) (w.alloc (.cells head0 48)) := by
  have hz := (zero_of_info zeroH).1 w
  simp [Instr.alloc, hz, newVar, newRow, Value.cells]
theorem wpList_allocH {ops : Array Oper} {rest : List Oper} {o : Oper} {a : Act} {w : World} {Q : Exit → Act → World → Prop} (hgd : o.guard = none) (ho : o.op = .alloc 48)
    (h : ∀ g w', g = w.heap.size → Row w' g 48 head0 → Below w.heap.size w w' → wpList Tryd.prog ops Q rest (a.put o.dst (.pointer (some ⟨g, 0, none⟩))) w') : wpList Tryd.prog ops Q (o :: rest) a w := by
  refine wpList_plain hgd fun K hK => ?_
  unfold Oper.wp execOp
  simp only [ho, Sem.run_bind, run_allocH, Result.andThen_ok]
  exact hK _ _ (h _ _ rfl (Row.new w 48 head0) ((Below.refl _ _).alloc (Nat.le_refl _) _))
theorem eqD9 (l r : List UInt8) (hl : l.length = 32) (hr : r.length = 32) (w : World) : (Op.equalIn 9999 46 (.agg (bcells l)) (.agg (bcells r))).run Tryd.prog w = .ok (decide (l = r)) w := by
  obtain ⟨i, hi⟩ := Tryd.info5
  rw [run_equalIn_array w 9998 _ _ Tryd.under23 hi, run_items_dec w 9997 _ _ l r _ (fun j hj => ?_), all_getD l r hl hr]
  have hj' : j < 32 := by simpa using hj
  exact ⟨bcells_get l j (by omega), bcells_get r j (by omega)⟩
/-- an equal head is equal -/
theorem part_root : ∀ (d : List UInt8) (n : Int) (w : World), d.length = 32 → (part 46 (headC n d) 1).run Tryd.prog w = .ok (.agg (bcells d)) w
  | [b0, b1, b2, b3, b4, b5, b6, b7, b8, b9, b10, b11, b12, b13, b14, b15, b16, b17, b18, b19, b20, b21, b22, b23, b24, b25, b26, b27, b28, b29, b30, b31], n, w, _ => by kernel_rfl
theorem part_size : ∀ (d : List UInt8) (n : Int) (w : World), d.length = 32 → (part 3 (headC n d) 0).run Tryd.prog w = .ok (.int .i64 n) w
  | [b0, b1, b2, b3, b4, b5, b6, b7, b8, b9, b10, b11, b12, b13, b14, b15, b16, b17, b18, b19, b20, b21, b22, b23, b24, b25, b26, b27, b28, b29, b30, b31], n, w, _ => by kernel_rfl
theorem ite_no {α : Type} (x y : α) : (if (!true) = true then x else y) = y := rfl
theorem fields48 : ∃ f g : Field, (Tryd.prog.fieldsOf 48).toList = [f, g] ∧ f.name = "Size" ∧ f.type = 3 ∧ f.offset = 0 ∧ g.name = "Root" ∧ g.type = 46 ∧ g.offset = 1 := by
  have hf : (Tryd.prog.fieldsOf 48).toList.map (fun f => (f.name, f.type, f.offset)) = [("Size", 3, 0), ("Root", 46, 1)] := by kernel_rfl
  obtain ⟨fs, hfs⟩ : ∃ fs, (Tryd.prog.fieldsOf 48).toList = fs := ⟨_, rfl⟩
  rw [hfs] at hf ⊢
  clear hfs
  rcases fs with _ | ⟨f, _ | ⟨g, _ | ⟨h, t⟩⟩⟩
  · simp at hf
  · simp at hf
  · simp at hf
    exact ⟨f, g, rfl, hf.1.1, hf.1.2.1, hf.1.2.2, hf.2.1, hf.2.2.1, hf.2.2.2⟩
  · simp at hf
theorem eqH (n : Int) (d : List UInt8) (hd : d.length = 32) (w : World) : (Op.equalIn 10000 48 (.agg (headC n d)) (.agg (headC n d))).run Tryd.prog w = .ok true w := by
  have e1 := part_size d n w hd
  have e2 := part_root d n w hd
  have e3 : (Op.equalIn 9999 3 (.int .i64 n) (.int .i64 n)).run Tryd.prog w = .ok true w := by
    have q := run_equalIn_int (P := Tryd.prog) w 9998 3 .i64 .i64 n n Tryd.underlying3
    rw [beq_self_eq_true] at q
    exact q
  have e4 : (Op.equalIn 9999 46 (.agg (bcells d)) (.agg (bcells d))).run Tryd.prog w = .ok true w := by
    have q := eqD9 d d hd hd w
    rwa [decide_eq_true rfl] at q
  obtain ⟨f, g, h1, q1, q2, q3, q4, q5, q6⟩ := fields48
  rw [run_equalIn_struct w 9999 48 _ _ (by kernel_rfl) (by kernel_rfl), h1]
  generalize headC n d = H at *
  generalize bcells d = D at *
  simp only [Op.eqFields, q1, q2, q3, q4, q5, q6]
  have s1 : "Size" ≠ "_" := by simp
  have s2 : "Root" ≠ "_" := by simp
  rw [if_pos s1, if_pos s2]
  simp only [Sem.run_bind, e1, e3, Result.andThen_ok]
  rw [ite_no]
  rw [Sem.run_bind, e2, Result.andThen_ok]
  rw [Sem.run_bind, e2, Result.andThen_ok]
  rw [Sem.run_bind, e4, Result.andThen_ok]
  exact id (Eq.trans (congrArg (fun x => Sem.run Tryd.prog x w) (ite_no _ _)) (Sem.run_pure ..))
/-- what a head is answered as -/
def HeadR (w : World) (n : Int) (d : List UInt8) (E : Int) (e : Ending) (w' : World) : Prop := e = .returned (.tuple #[.agg (headC n d), .int .i64 E]) ∧ Below w.heap.size w w'
end Go.Proofs.YtbpbpdaohganaaaDoor
