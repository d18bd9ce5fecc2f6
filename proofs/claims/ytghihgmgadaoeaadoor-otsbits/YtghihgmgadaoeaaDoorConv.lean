/-
  '[]byte(s)' and 'append(b, s...)' of a string s, at the operation, for a walk. Nothing of the program's functions is named here. No conditions.
-/
import Derived.Test.YtghihgmgadaoeaaDoorMark
namespace Go.Proofs.YtghihgmgadaoeaaDoor
open Go.RowKit
section
variable {P : Program}
theorem wpList_bytes {t e u : TypeId} (T : ByteTypes P t e) (hu : P.underlying u = some .string) (he : P.underlying e = some (.int .u8)) {w : World} {ops : Array Oper} {rest : List Oper} {o : Oper} {a : Act} {Q : Exit → Act → World → Prop} (hgd : o.guard = none) (x : Operand)
    (ho : o.op = .convert u t x) (s : ByteArray) (hx : a.eval x = .string s) (hs : s.size ≤ 9223372036854775807)
    (h : ∀ A c w', OwnM w' w.heap.size e (.slice A s.size c) s.size s.data.toList → s.size ≤ c → Below w.heap.size w w' → wpList P ops Q rest (a.put o.dst (.slice A s.size c)) w') :
    wpList P ops Q (o :: rest) a w := by
  refine wpList_plain hgd fun K hK => ?_
  have hrun := run_bytes_of_string (P := P) w u t e s hu T.ht he
  have ho1 := bytes_new w s e hs
  unfold Oper.wp
  simp only [execOp, ho, hx, hrun, Sem.run_bind, Sem.run_pure, Result.andThen_ok]
  exact hK _ _ (h _ _ _ ho1 (grownCap_ge w s.size 0 e) ((Below.refl _ w).drew.alloc (Nat.le_refl _) _))
theorem wpList_appS {t e u : TypeId} (T : ByteTypes P t e) (hu : P.underlying u = some .string) {w : World} {ops : Array Oper} {rest : List Oper} {o : Oper} {a : Act} {Q : Exit → Act → World → Prop} (hgd : o.guard = none) (sl x : Operand)
    (ho : o.op = .call { callee := .builtin .append, args := #[sl, x], argTypes := #[t, u] })
    (base : Nat) (v : Value) (n : Nat) (xs : List UInt8) (hs : a.eval sl = v) (hown : Own w base e v n xs) (s : ByteArray) (hx : a.eval x = .string s)
    (hb : n + s.size ≤ 140737488355328) (hbase : base ≤ w.heap.size)
    (h : ∀ A' c' w', Own w' base e (.slice A' (n + s.size) c') (n + s.size) (xs ++ s.data.toList) → Below base w w' → wpList P ops Q rest (a.put o.dst (.slice A' (n + s.size) c')) w') :
    wpList P ops Q (o :: rest) a w := by
  obtain ⟨i, hi, hz, hsize, hby⟩ := info_parts T.hi
  refine Lib.wpList_append_own_string (w := w) hgd sl x t u ho base e i T.ht hu hi hz hsize hby v n _ hs hown s hx (by simp only [maxLen]; omega) hb hbase ?_
  intro v' w' h2 h3 _
  have h2' : Own w' base e v' (n + s.size) (xs ++ s.data.toList) := by
    unfold Own
    rw [List.map_append]
    have e : Lib.strCells s = s.data.toList.map fun x => Value.int .u8 (x.toNat : Int) := by simp [Lib.strCells]
    rw [← e]; exact h2
  obtain ⟨A', c', rfl, _⟩ := h2'.form
  exact h A' c' w' h2' ((Below.refl base w).grown h3 hbase fun k hk => (hown.lt k hk).1)
end
end Go.Proofs.YtghihgmgadaoeaaDoor
