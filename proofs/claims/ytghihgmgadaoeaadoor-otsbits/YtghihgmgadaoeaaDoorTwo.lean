/-
  Two slices of the call's own that grow side by side: append onto the one leaves the other. Nothing of the program's functions is named here. No conditions.
-/
import Derived.Test.YtghihgmgadaoeaaDoorMark
import Derived.Maps.AppendAt
namespace Go.Proofs.YtghihgmgadaoeaaDoor
open Go.RowKit
/-- they lie in blocks of their own -/
def Sep (u v : Value) : Prop := ∀ g, u.ownBlock = some g → v.ownBlock ≠ some g
theorem Sep.symm {u v : Value} (h : Sep u v) : Sep v u := fun g h1 h2 => h g h2 h1
theorem Sep.nil (v : Value) : Sep (.slice none 0 0) v := fun g h => by cases h
theorem bs_cells {w : World} {b off m : Nat} {l : List UInt8} (hr : Bs w (some ⟨b, off, none⟩) m l) (j : Nat) (u : Value) (hu : (l.map fun x => Value.int .u8 (x.toNat : Int))[j]? = some u) : w.cell? ((⟨b, off, none⟩ : Addr).add j) = some u := by
  rw [List.getElem?_map] at hu
  rcases hj : l[j]? with _ | y
  · rw [hj] at hu; cases hu
  · rw [hj] at hu
    simp only [Option.map_some, Option.some.injEq] at hu
    obtain ⟨b', off', e', _, hc'⟩ := hr.2 j y hj
    simp only [Option.some.injEq, Addr.mk.injEq, and_true] at e'
    obtain ⟨rfl, rfl⟩ := e'
    have e : (⟨b, off, none⟩ : Addr).add j = ⟨b, off + j, none⟩ := by
      unfold Addr.add; split
      · rename_i h; subst h; rfl
      · rfl
    rw [e, hc', hu]
section
variable {P : Program}
theorem run_app2 {t e : TypeId} (T : ByteTypes P t e) (ty : TypeId) (w : World) (base : Nat) (v : Value) (n : Nat) (xs : List UInt8) (hown : Own w base e v n xs) (u : Value) (k : Nat) (ys : List UInt8) (hu : Own w base e u k ys) (hsep : Sep u v)
    (b off m c : Nat) (l : List UInt8) (hr : Bs w (some ⟨b, off, none⟩) m l) (hb : n + m ≤ 140737488355328) (hbase : base ≤ w.heap.size) :
    ∃ A' c' w', (Builtin.append_ #[t, t] ty #[v, .slice (some ⟨b, off, none⟩) m c]).run P w = .ok (.slice A' (n + m) c') w' ∧ Own w' base e (.slice A' (n + m) c') (n + m) (xs ++ l) ∧ Own w' base e u k ys ∧ Sep u (.slice A' (n + m) c') ∧ Below base w w' := by
  obtain ⟨i, hi, hz, hsize, hby⟩ := info_parts T.hi
  obtain ⟨v', w', hrun, h2, h3, _, h5⟩ := run_append_own_at (P := P) w base t ty e i (.int .u8 0) 1 1 T.ht hi hz hsize hby rfl (by omega) v n _ hown ⟨b, off, none⟩ m c _ (by simp [hr.1]) (bs_cells hr)
    (by intro u hu; simp only [List.mem_map] at hu; obtain ⟨y, _, rfl⟩ := hu; rfl) (by simp only [maxLen]; omega) (by omega) hbase
  have h2' : Own w' base e v' (n + m) (xs ++ l) := by unfold Own; rw [List.map_append]; exact h2
  obtain ⟨A', c', rfl, _⟩ := h2'.form
  refine ⟨A', c', w', hrun, h2', hu.kept h3 ?_, ?_, (Below.refl base w).grown h3 hbase fun k hk => (hown.lt k hk).1⟩
  · rcases hub : u.ownBlock with _ | g
    · exact .inl rfl
    · exact .inr fun h => hsep g hub h.symm
  · intro g hg h
    rcases h5 with h5 | h5
    · exact hsep g hg (h5 ▸ h)
    · rw [h5] at h
      have := (hu.lt g hg).2
      simp only [Option.some.injEq] at h
      omega
theorem wpList_app2 {t e : TypeId} (T : ByteTypes P t e) {w : World} {ops : Array Oper} {rest : List Oper} {o : Oper} {a : Act} {Q : Exit → Act → World → Prop} (hgd : o.guard = none) (s x : Operand)
    (ho : o.op = .call { callee := .builtin .append, args := #[s, x], argTypes := #[t, t] })
    (base : Nat) (v : Value) (n : Nat) (xs : List UInt8) (hs : a.eval s = v) (hown : Own w base e v n xs) (u : Value) (k : Nat) (ys : List UInt8) (hu : Own w base e u k ys) (hsep : Sep u v)
    (b off m c : Nat) (l : List UInt8) (hx : a.eval x = .slice (some ⟨b, off, none⟩) m c) (hr : Bs w (some ⟨b, off, none⟩) m l) (hb : n + m ≤ 140737488355328) (hbase : base ≤ w.heap.size)
    (h : ∀ A' c' w', Own w' base e (.slice A' (n + m) c') (n + m) (xs ++ l) → Own w' base e u k ys → Sep u (.slice A' (n + m) c') → Below base w w' → wpList P ops Q rest (a.put o.dst (.slice A' (n + m) c')) w') :
    wpList P ops Q (o :: rest) a w := by
  refine wpList_plain hgd fun K hK => ?_
  obtain ⟨A', c', w', hrun, h2, h3, h4, h5⟩ := run_app2 T o.type w base v n xs hown u k ys hu hsep b off m c l hr hb hbase
  unfold Oper.wp execOp
  simp only [ho, resolve, invoke, builtin, Sem.run_bind, Sem.run_pure, Result.andThen_ok, List.map_toArray, List.map_cons, List.map_nil, hs, hx, hrun]
  exact hK _ _ (h A' c' w' h2 h3 h4 h5)
end
end Go.Proofs.YtghihgmgadaoeaaDoor
