/-
  Bytes made out of a string ('[]byte(s)'): a row of the call's own that bears the run-time's mark behind its last cell; append onto it. Nothing of the program's functions is named here. No conditions.
-/
import Derived.Test.YtiidcnjhjojhoaaDoorCalls
import Derived.Test.YtiidcnjhjojhoaaDoorArr
import Derived.Test.YtiidcnjhjojhoaaDoorCopy
import Derived.Laws.IdiomStrings
import Derived.Lib.AppendStr
namespace Go.Proofs.YtiidcnjhjojhoaaDoor
open Go.RowKit
/-- no cell of k cells is in the range -/
def Free (fz : Nat × Nat) (k : Nat) : Prop := ∀ j, j < k → ¬ (fz.1 ≤ j ∧ j < fz.2)
theorem storeCells_free (P : Program) (g o : Nat) (t : TypeId) (fz : Nat × Nat) : ∀ (vs : List Value) (i : Nat) (cur : Array Value) (w : World), w.heap[g]? = some (.cells cur t fz) → Free fz cur.size → o + i + vs.length ≤ cur.size → (∀ v ∈ vs, v.oneCell' = true) →
    (storeCells ⟨g, o, none⟩ vs i).run P w = .ok () (w.setRow g (cur.toList.take (o + i) ++ vs ++ cur.toList.drop (o + i + vs.length)).toArray)
  | [], i, cur, w, hg, _, _, _ => by
    have e : w.setRow g (cur.toList.take (o + i) ++ [] ++ cur.toList.drop (o + i + 0)).toArray = w := by
      rw [List.append_nil, Nat.add_zero, List.take_append_drop, Array.toArray_toList]; exact setRow_self w g cur t fz hg
    rw [List.length_nil, e]; rfl
  | v :: rest, i, cur, w, hg, hfz, hl, h1 => by
    have hlt : o + i < cur.size := by simp at hl; omega
    have ha : (⟨g, o, none⟩ : Addr).add i = ⟨g, o + i, none⟩ := by unfold Addr.add; split <;> simp_all
    have hc : w.cell? ⟨g, o + i, none⟩ = some cur[o + i] := by simp [World.cell?, hg, hlt]
    have hf : w.frozen? ⟨g, o + i, none⟩ = false := by
      have := hfz _ hlt
      obtain ⟨lo, hi⟩ := fz
      simp only [World.frozen?, hg, Bool.and_eq_false_iff, decide_eq_false_iff_not]
      simp only at this
      omega
    have hst : (store ((⟨g, o, none⟩ : Addr).add i) v).run P w = .ok () (w.setRow g (cur.setIfInBounds (o + i) v)) := by
      rw [ha, run_store P w _ v _ (h1 v (by simp)), hc]
      simp [hf, setCell_eq_setRow w g (o + i) cur t fz v hg]
    have ih := storeCells_free P g o t fz rest (i + 1) (cur.setIfInBounds (o + i) v) (w.setRow g (cur.setIfInBounds (o + i) v)) (setRow_heap w g cur _ t _ hg) (by simpa using hfz) (by simp at hl ⊢; omega) (fun x hx => h1 x (by simp [hx]))
    simp only [storeCells, Sem.run_bind, hst, Result.andThen_ok, ih, setRow_setRow]
    congr 3
    have e := list_seg_step cur.toList (o + i) v rest (by simp at hl ⊢; omega)
    simpa [Array.toList_setIfInBounds, Nat.add_assoc] using e
/-- a row of the call's own, of which no cell is frozen -/
def OwnM (w : World) (base : Nat) (e : TypeId) (v : Value) (n : Nat) (l : List UInt8) : Prop :=
  l.length = n ∧ ∃ g cap cur fz, v = .slice (some ⟨g, 0, none⟩) n cap ∧ base ≤ g ∧ w.heap[g]? = some (.cells cur e fz) ∧ Free fz cur.size ∧ n ≤ cap ∧ cap ≤ maxLen ∧ cur.size = cap ∧ cur.toList.take n = l.map bcell
theorem OwnM.form {w : World} {base : Nat} {e : TypeId} {v : Value} {n : Nat} {l : List UInt8} (h : OwnM w base e v n l) : ∃ A c, v = .slice A n c ∧ n ≤ c := by
  obtain ⟨_, g, cap, cur, fz, rfl, _, _, _, hn, _⟩ := h; exact ⟨_, _, rfl, hn⟩
theorem OwnM.mono {w : World} {base base' : Nat} {e : TypeId} {v : Value} {n : Nat} {l : List UInt8} (h : OwnM w base e v n l) (hb : base' ≤ base) : OwnM w base' e v n l := by
  obtain ⟨hl, g, cap, cur, fz, hv, hg, r⟩ := h; exact ⟨hl, g, cap, cur, fz, hv, by omega, r⟩
theorem OwnM.cells {w : World} {base : Nat} {e : TypeId} {g n cap : Nat} {l : List UInt8} (h : OwnM w base e (.slice (some ⟨g, 0, none⟩) n cap) n l) (k : Nat) (x : UInt8) (hx : l[k]? = some x) : w.cell? ⟨g, k, none⟩ = some (bcell x) := by
  obtain ⟨hl, g', cap', cur, fz, hv, _, hg, _, _, _, _, ht⟩ := h
  simp only [Value.slice.injEq, Option.some.injEq, Addr.mk.injEq, and_true, true_and] at hv
  obtain ⟨rfl, rfl⟩ := hv
  rw [cell_of_row w g k cur e fz hg]
  have hk : k < l.length := (List.getElem?_eq_some_iff.1 hx).1
  have := congrArg (fun m => m[k]?) ht
  simp only [List.getElem?_take, List.getElem?_map, hx, Option.map_some] at this
  rw [if_pos (by omega)] at this
  simpa using this
theorem OwnM.bs {w : World} {base : Nat} {e : TypeId} {A : Option Addr} {n c : Nat} {l : List UInt8} (h : OwnM w base e (.slice A n c) n l) : Bs w A n l := by
  have h0 := h
  obtain ⟨hl, g, cap, cur, fz, hv, hb, hg, r⟩ := h
  simp only [Value.slice.injEq, true_and] at hv
  obtain ⟨rfl, rfl⟩ := hv
  refine ⟨hl, fun k x hx => ⟨g, 0, rfl, (Array.getElem?_eq_some_iff.1 hg).1, ?_⟩⟩
  rw [Nat.zero_add]; exact h0.cells k x hx
theorem OwnM.below {w w' : World} {base : Nat} {e : TypeId} {v : Value} {n : Nat} {l : List UInt8} (h : OwnM w base e v n l) (hb : Below w.heap.size w w') : OwnM w' base e v n l := by
  obtain ⟨hl, g, cap, cur, fz, hv, hg, hh, r⟩ := h
  exact ⟨hl, g, cap, cur, fz, hv, hg, (hb.block g (Array.getElem?_eq_some_iff.1 hh).1).trans hh, r⟩
theorem bytes_new (w : World) (s : ByteArray) (e : TypeId) (hs : s.size ≤ 9223372036854775807) :
    OwnM (w.drew.alloc (.cells (bytesRow s (grownCap w s.size 0 e)) e ((bytesRow s (grownCap w s.size 0 e)).size, (bytesRow s (grownCap w s.size 0 e)).size + 1))) w.heap.size e (.slice (some ⟨w.heap.size, 0, none⟩) s.size (grownCap w s.size 0 e)) s.size s.data.toList := by
  have hge := grownCap_ge w s.size 0 e
  have hcm : grownCap w s.size 0 e ≤ maxLen := grownCap_le_maxLen w s.size 0 e (by simp only [maxLen]; omega)
  refine ⟨by rfl, w.heap.size, _, _, _, rfl, Nat.le_refl _, heap_alloc_new w.drew _, fun j hj h => by simp only at h; omega, hge, hcm, ?_, ?_⟩
  · have : s.data.size = s.size := rfl
    simp [bytesRow]; omega
  · have : s.data.size = s.size := rfl
    simp only [bytesRow, Array.toList_append, Array.toList_map]
    rw [List.take_append_of_le_length (by simp), List.take_of_length_le (by simp)]
    rfl
section
variable {P : Program}
theorem run_appM {t e : TypeId} (T : ByteTypes P t e) (ty : TypeId) (w : World) (base : Nat) (v : Value) (n : Nat) (xs : List UInt8) (hown : OwnM w base e v n xs)
    (b off m c : Nat) (l : List UInt8) (hr : Bs w (some ⟨b, off, none⟩) m l) (hb : n + m ≤ 140737488355328) (hbase : base ≤ w.heap.size) :
    ∃ A' c' w', (Builtin.append_ #[t, t] ty #[v, .slice (some ⟨b, off, none⟩) m c]).run P w = .ok (.slice A' (n + m) c') w' ∧ OwnM w' base e (.slice A' (n + m) c') (n + m) (xs ++ l) ∧ Below base w w' := by
  obtain ⟨i, hi, hz, hsize, hby⟩ := info_parts T.hi
  have hcells : ∀ j u, (l.map bcell)[j]? = some u → w.cell? ((⟨b, off, none⟩ : Addr).add j) = some u := by
    intro j u hu
    rw [List.getElem?_map] at hu
    rcases hj : l[j]? with _ | y
    · rw [hj] at hu; cases hu
    · rw [hj] at hu
      simp only [Option.map_some, Option.some.injEq] at hu
      obtain ⟨b', off', e', _, hc'⟩ := hr.2 j y hj
      simp only [Option.some.injEq, Addr.mk.injEq, and_true] at e'
      obtain ⟨rfl, rfl⟩ := e'
      have e : (⟨b, off, none⟩ : Addr).add j = ⟨b, off + j, none⟩ := by
        unfold Addr.add; split
        · rename_i h; subst h; rfl
        · rfl
      rw [e, hc', ← hu]; rfl
  have h1 : ∀ u ∈ l.map bcell, u.oneCell' = true := by
    intro u hu; simp only [List.mem_map] at hu; obtain ⟨y, _, rfl⟩ := hu; rfl
  have hown0 := hown
  obtain ⟨hl, g, cap, cur, fz, rfl, hbg, hg, hfree, hnc, hcm, hcs, htake⟩ := hown
  have hll : (l.map bcell).length = m * i.size := by rw [List.length_map, hr.1, hsize, Nat.mul_one]
  have hlm : (l.map bcell).length = m := by rw [List.length_map, hr.1]
  by_cases hroom : n + m ≤ cap
  · have hf := run_firstCells_some (P := P) w i.size m ⟨b, off, none⟩ m c (l.map bcell) hll hcells
    have hst := storeCells_free P g (n * i.size) e fz (l.map bcell) 0 cur w hg hfree (by rw [hsize, hlm, hcs]; omega) h1
    simp only [Nat.add_zero] at hst
    refine ⟨some ⟨g, 0, none⟩, cap, w.setRow g (cur.toList.take (n * i.size) ++ l.map bcell ++ cur.toList.drop (n * i.size + (l.map bcell).length)).toArray, ?_, ?_, ?_⟩
    · simp [Builtin.append_, run_underlying T.ht, sizeOf, typeInfo, hi, Builtin.lenOf, hroom, hf, Addr.add_lit, hst]
    · have hsz : (cur.toList.take (n * i.size) ++ l.map bcell ++ cur.toList.drop (n * i.size + (l.map bcell).length)).length = cap := by
        rw [hsize, hlm]
        simp only [List.length_append, List.length_take, List.length_drop, Array.length_toList, hlm, hcs]; omega
      refine ⟨by rw [List.length_append, hl, hr.1], g, cap, _, fz, rfl, hbg, setRow_heap w g cur _ e fz hg, ?_, hroom, hcm, ?_, ?_⟩
      · rw [List.size_toArray, hsz, ← hcs]; exact hfree
      · rw [List.size_toArray, hsz]
      · simp only [hsize, Nat.mul_one, hlm]
        rw [htake, List.map_append]
        exact List.take_left' (by simp [hl, hr.1])
    · exact below_setRow (Below.refl _ _) hbg _
  · have hxs : (xs.map bcell).length = n * i.size := by rw [List.length_map, hl, hsize, Nat.mul_one]
    have holds : ∀ j u, (xs.map bcell)[j]? = some u → w.cell? ((⟨g, 0, none⟩ : Addr).add j) = some u := by
      intro j u hu
      rw [List.getElem?_map] at hu
      rcases hj : xs[j]? with _ | y
      · rw [hj] at hu; cases hu
      · rw [hj] at hu
        simp only [Option.map_some, Option.some.injEq] at hu
        have e : (⟨g, 0, none⟩ : Addr).add j = ⟨g, j, none⟩ := by unfold Addr.add; split <;> simp_all
        rw [e, hown0.cells j y hj, hu]
    have hrun := run_append_grow (P := P) w t ty e i (.int .u8 0) T.ht hi hz ⟨g, 0, none⟩ n cap (xs.map bcell) hxs holds ⟨b, off, none⟩ m c (l.map bcell) hll hcells (by omega) (by omega) (growslice_fits (by omega) (by rw [hby]; omega))
    have hge := grownCap_ge w (n + m) cap e
    have hcm' : grownCap w (n + m) cap e ≤ maxLen := grownCap_le_maxLen w (n + m) cap e (by simp only [maxLen]; omega)
    refine ⟨_, _, _, hrun, ?_, (Below.refl base w).drew.alloc hbase _⟩
    refine ⟨by rw [List.length_append, hl, hr.1], w.heap.size, _, _, (0, 0), rfl, hbase, heap_alloc_new w.drew _, fun j _ h => by simp at h, hge, hcm', ?_, ?_⟩
    · simp only [Array.size_append, List.size_toArray, size_zeroCells, List.length_map, hl, hr.1, Value.cells]
      simp; omega
    · simp only [Array.toList_append, List.append_assoc]
      rw [← List.append_assoc]
      rw [List.take_append_of_le_length (by simp [hl, hr.1]), List.take_of_length_le (by simp [hl, hr.1]), List.map_append]
theorem wpList_appM {t e : TypeId} (T : ByteTypes P t e) {w : World} {ops : Array Oper} {rest : List Oper} {o : Oper} {a : Act} {Q : Exit → Act → World → Prop} (hgd : o.guard = none) (s x : Operand)
    (ho : o.op = .call { callee := .builtin .append, args := #[s, x], argTypes := #[t, t] })
    (base : Nat) (v : Value) (n : Nat) (xs : List UInt8) (hs : a.eval s = v) (hown : OwnM w base e v n xs)
    (b off m c : Nat) (l : List UInt8) (hx : a.eval x = .slice (some ⟨b, off, none⟩) m c) (hr : Bs w (some ⟨b, off, none⟩) m l) (hb : n + m ≤ 140737488355328) (hbase : base ≤ w.heap.size)
    (h : ∀ A' c' w', OwnM w' base e (.slice A' (n + m) c') (n + m) (xs ++ l) → Below base w w' → wpList P ops Q rest (a.put o.dst (.slice A' (n + m) c')) w') :
    wpList P ops Q (o :: rest) a w := by
  refine wpList_plain hgd fun K hK => ?_
  obtain ⟨A', c', w', hrun, h2, h3⟩ := run_appM T o.type w base v n xs hown b off m c l hr hb hbase
  unfold Oper.wp execOp
  simp only [ho, resolve, invoke, builtin, Sem.run_bind, Sem.run_pure, Result.andThen_ok, List.map_toArray, List.map_cons, List.map_nil, hs, hx, hrun]
  exact hK _ _ (h A' c' w' h2 h3)
end
end Go.Proofs.YtiidcnjhjojhoaaDoor
