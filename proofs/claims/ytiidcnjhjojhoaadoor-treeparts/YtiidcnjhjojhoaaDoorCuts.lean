/-
  Pieces of slices of digests (x[k:], x[:k]), and the builtin copy of digests into a block that is known whole. Nothing of the program's functions is named here. No conditions.
-/
import Derived.Test.YtiidcnjhjojhoaaDoorDig
namespace Go.Proofs.YtiidcnjhjojhoaaDoor
open Go.RowKit
theorem Ds.take {w : World} {A : Option Addr} {n k : Nat} {L : List (List UInt8)} (h : Ds w A n L) (hk : k ≤ n) : Ds w A k (L.take k) := by
  obtain ⟨h1, h2, h3⟩ := h
  refine ⟨by rw [List.length_take]; omega, h2.take k, ?_⟩
  have e : flat (L.take k) = (flat L).take (32 * k) := by
    have q : flat L = flat (L.take k) ++ flat (L.drop k) := by rw [← flat_app, List.take_append_drop]
    have ql : (flat (L.take k)).length = 32 * k := by rw [flat_length (h2.take k), List.length_take]; congr 1; omega
    rw [q, ← ql, List.take_left]
  rw [e]
  exact h3.take (by omega)
theorem Digs.drop {L : List (List UInt8)} (h : Digs L) (n : Nat) : Digs (L.drop n) := fun d hd => h d (List.mem_of_mem_drop hd)
theorem Ds.dropAt {w : World} {b off n k : Nat} {L : List (List UInt8)} (h : Ds w (some ⟨b, off, none⟩) n L) : Ds w (some ⟨b, off + k * 32, none⟩) (n - k) (L.drop k) := by
  obtain ⟨h1, h2, h3⟩ := h
  refine ⟨by rw [List.length_drop]; omega, h2.drop k, ?_⟩
  have := h3.drop (m := 32 * k)
  rw [flat_drop h2, show 32 * n - 32 * k = 32 * (n - k) by omega, Nat.mul_comm 32 k] at this
  exact this
theorem cutD_from (A : Option Addr) (n c k : Nat) (z : Int) (hz : z = k) (hk : k ≤ n) (hnc : n ≤ c) :
    ∃ A', (∀ w, (Instr.sliceAt 22 (.slice A n c) (some (.int .i64 z)) none none).run Tryd.prog w = .ok (.slice A' (n - k) (c - k)) w) ∧ (∀ w L, Ds w A n L → Ds w A' (n - k) (L.drop k)) ∧ (∀ g, Apart A (32 * n) g → Apart A' (32 * (n - k)) g) := by
  subst hz
  refine ⟨if c = k then A else A.map (·.add (k * 32)), fun w => ?_, fun w L hb => ?_, fun g ha => ?_⟩
  · have h1 : (k : Int) ≤ n := by omega
    simp [Instr.sliceAt, Instr.slice, run_underlying Tryd.under24, Instr.sliceBounds, run_sliceBound, h1]
  · by_cases hck : c = k
    · obtain rfl : n = k := by omega
      rw [List.drop_eq_nil_of_le (by rw [hb.1]; exact Nat.le_refl _), Nat.sub_self]
      exact Ds.nil _ _
    · rw [if_neg hck]
      by_cases hn : n = 0
      · subst hn
        obtain rfl : k = 0 := by omega
        obtain rfl : L = [] := List.eq_nil_of_length_eq_zero hb.1
        exact Ds.nil _ _
      · obtain ⟨b, off, d, rfl, _⟩ := hb.get (k := 0) (by omega)
        rw [Option.map_some, Addr.add_mid]
        exact hb.dropAt
  · rcases ha with h0 | ⟨b, off, rfl, hne⟩
    · exact .inl (by omega)
    · by_cases hck : c = k
      · exact .inl (by omega)
      · rw [if_neg hck, Option.map_some, Addr.add_mid]
        exact .inr ⟨b, _, rfl, hne⟩
theorem wpList_fromD {ops : Array Oper} {rest : List Oper} {o : Oper} {a : Act} {w : World} {Q : Exit → Act → World → Prop} (hgd : o.guard = none) (x y : Operand) (ho : o.op = .slice 22 x (some y) none none)
    (A : Option Addr) (n c k : Nat) (z : Int) (hx : a.eval x = .slice A n c) (hy : a.eval y = .int .i64 z) (hz : z = k) (hk : k ≤ n) (hnc : n ≤ c)
    (h : ∀ A', (∀ w L, Ds w A n L → Ds w A' (n - k) (L.drop k)) → (∀ g, Apart A (32 * n) g → Apart A' (32 * (n - k)) g) → wpList Tryd.prog ops Q rest (a.put o.dst (.slice A' (n - k) (c - k))) w) : wpList Tryd.prog ops Q (o :: rest) a w := by
  obtain ⟨A', hrun, h1, h2⟩ := cutD_from A n c k z hz hk hnc
  refine wpList_plain hgd fun K hK => ?_
  unfold Oper.wp execOp
  simp [ho, hx, hy, hrun, Result.andThen]
  exact hK _ _ (h A' h1 h2)
theorem cutD_head (A : Option Addr) (n c k : Nat) (z : Int) (hz : z = k) (hk : k ≤ n) (hnc : n ≤ c) :
    ∃ A', (∀ w, (Instr.sliceAt 22 (.slice A n c) none (some (.int .i64 z)) none).run Tryd.prog w = .ok (.slice A' k c) w) ∧ (∀ w L, Ds w A n L → Ds w A' k (L.take k)) ∧ (∀ g, Apart A (32 * n) g → Apart A' (32 * k) g) := by
  subst hz
  refine ⟨if c = 0 then A else A.map (·.add (0 * 32)), fun w => ?_, fun w L hb => ?_, fun g ha => ?_⟩
  · have h2 : (k : Int) ≤ c := by omega
    simp [Instr.sliceAt, Instr.slice, run_underlying Tryd.under24, Instr.sliceBounds, run_sliceBound, h2]
  · by_cases hc : c = 0
    · rw [if_pos hc]; exact hb.take hk
    · rw [if_neg hc]
      by_cases hn : n = 0
      · subst hn
        obtain rfl : k = 0 := by omega
        obtain rfl : L = [] := List.eq_nil_of_length_eq_zero hb.1
        exact Ds.nil _ _
      · obtain ⟨b, off, d, rfl, _⟩ := hb.get (k := 0) (by omega)
        rw [Option.map_some, Addr.add_mid, Nat.zero_mul, Nat.add_zero]
        exact hb.take hk
  · rcases ha with h0 | ⟨b, off, rfl, hne⟩
    · exact .inl (by omega)
    · by_cases hc : c = 0
      · exact .inl (by omega)
      · rw [if_neg hc, Option.map_some, Addr.add_mid]
        exact .inr ⟨b, _, rfl, hne⟩
theorem wpList_headD {ops : Array Oper} {rest : List Oper} {o : Oper} {a : Act} {w : World} {Q : Exit → Act → World → Prop} (hgd : o.guard = none) (x y : Operand) (ho : o.op = .slice 22 x none (some y) none)
    (A : Option Addr) (n c k : Nat) (z : Int) (hx : a.eval x = .slice A n c) (hy : a.eval y = .int .i64 z) (hz : z = k) (hk : k ≤ n) (hnc : n ≤ c)
    (h : ∀ A', (∀ w L, Ds w A n L → Ds w A' k (L.take k)) → (∀ g, Apart A (32 * n) g → Apart A' (32 * k) g) → wpList Tryd.prog ops Q rest (a.put o.dst (.slice A' k c)) w) : wpList Tryd.prog ops Q (o :: rest) a w := by
  obtain ⟨A', hrun, h1, h2⟩ := cutD_head A n c k z hz hk hnc
  refine wpList_plain hgd fun K hK => ?_
  unfold Oper.wp execOp
  simp [ho, hx, hy, hrun, Result.andThen]
  exact hK _ _ (h A' h1 h2)
/-- copy(dst, src) of digests, k of them -/
theorem run_copyD (rt : TypeId) (w : World) (g off dLen dCap : Nat) (A : Option Addr) (m c : Nat) (M : List (List UInt8)) (ty : TypeId) (cur : Array Value)
    (hr : Row w g ty cur) (hb : Ds w A m M) (k : Nat) (hk : Nat.min m dLen = k) (hfit : off + 32 * k ≤ cur.size) :
    ∃ w', (Builtin.copy_ #[22, 22] rt #[.slice (some ⟨g, off, none⟩) dLen dCap, .slice A m c]).run Tryd.prog w = .ok (goInt (k : Nat)) w' ∧ Row w' g ty (spl cur off (flat (M.take k))) ∧ Only g w w' := by
  obtain ⟨i, hi, hz, hsize, hby⟩ := info_parts Tryd.infoD
  have hkm : k ≤ m := by rw [← hk]; exact Nat.min_le_left _ _
  have hbk := hb.take hkm
  by_cases h0 : k = 0
  · subst h0
    have e : spl cur off (flat (M.take 0)) = cur := by
      rw [List.take_zero, show flat ([] : List (List UInt8)) = [] from rfl]
      unfold spl splice
      simp
    refine ⟨w, ?_, by rw [e]; exact hr, Only.refl _ _⟩
    rcases A with _ | a
    · simp [Builtin.copy_, run_underlying Tryd.under24, Builtin.lenOf, Builtin.firstCells, sizeOf, typeInfo, hi, hk, storeCells]
    · simp [Builtin.copy_, run_underlying Tryd.under24, Builtin.lenOf, Builtin.firstCells, sizeOf, typeInfo, hi, hk, storeCells, loadCells, loadCellsFrom]
  · obtain ⟨b, o, x, rfl, _⟩ := hbk.get (k := 0) (by omega)
    have hlen : ((flat (M.take k)).map bcell).length = k * 32 := by rw [List.length_map, hbk.2.2.1, Nat.mul_comm]
    have hl := run_loadCells_list (P := Tryd.prog) w ⟨b, o, none⟩ ((flat (M.take k)).map bcell) (fun j v hv => by rw [Addr.add_mid]; exact hbk.2.2.range j v hv)
    have hst := storeCells_free Tryd.prog g off ty (0, 0) ((flat (M.take k)).map bcell) 0 cur w hr (fun j _ => by simp) (by rw [hlen]; omega) (fun v hv => by obtain ⟨x, _, rfl⟩ := List.mem_map.1 hv; rfl)
    have e : spl cur off (flat (M.take k)) = (cur.toList.take (off + 0) ++ (flat (M.take k)).map bcell ++ cur.toList.drop (off + 0 + ((flat (M.take k)).map bcell).length)).toArray := by
      unfold spl splice; simp
    rw [← e] at hst
    rw [hlen] at hl
    refine ⟨_, ?_, hr.setRow _, Only.setRow g w _⟩
    simp [Builtin.copy_, run_underlying Tryd.under24, Builtin.lenOf, Builtin.firstCells, sizeOf, typeInfo, hi, hsize, hk, hl, hst]
theorem wpList_copyDs {ops : Array Oper} {rest : List Oper} {o : Oper} {a : Act} {w : World} {Q : Exit → Act → World → Prop} (hgd : o.guard = none) (d s : Operand) (ho : o.op = .call { callee := .builtin .copy, args := #[d, s], argTypes := #[22, 22] })
    (g off dLen dCap : Nat) (A : Option Addr) (m c : Nat) (hd : a.eval d = .slice (some ⟨g, off, none⟩) dLen dCap) (hs : a.eval s = .slice A m c) (M : List (List UInt8)) (ty : TypeId) (cur : Array Value)
    (hr : Row w g ty cur) (hb : Ds w A m M) (k : Nat) (hk : Nat.min m dLen = k) (hfit : off + 32 * k ≤ cur.size)
    (h : ∀ w', Row w' g ty (spl cur off (flat (M.take k))) → Only g w w' → wpList Tryd.prog ops Q rest (a.put o.dst (.int .i64 (k : Int))) w') : wpList Tryd.prog ops Q (o :: rest) a w := by
  refine wpList_plain hgd fun K hK => ?_
  obtain ⟨w', hrun, h1, h2⟩ := run_copyD o.type w g off dLen dCap A m c M ty cur hr hb k hk hfit
  unfold Oper.wp
  simp [execOp, ho, resolve, invoke, builtin, hd, hs, hrun, Result.andThen]
  exact hK _ _ (h w' h1 h2)
end Go.Proofs.YtiidcnjhjojhoaaDoor
