/-
  More laws for a region that draws its order: an empty list of digests and append onto it, with what else stays; loads and comparisons under a guard. Nothing of the program's functions is named here.
-/
import Derived.Test.YtghihgmgadaoeaaDoorAlive
namespace Go.Proofs.YtghihgmgadaoeaaDoor
open Go.RowKit
theorem run_appDO (ty : TypeId) (w : World) (base g c0 : Nat) (hown : OwnD w base (.slice (some ⟨g, 0, none⟩) 0 c0) 0 [])
    (A : Option Addr) (m c : Nat) (M : List (List UInt8)) (hr : Ds w A m M) (hb : m ≤ 1000000) (hbase : base ≤ w.heap.size) :
    ∃ A' c' w', (Builtin.append_ #[24, 24] ty #[.slice (some ⟨g, 0, none⟩) 0 c0, .slice A m c]).run Tryd.prog w = .ok (.slice A' m c') w' ∧ OwnD w' base (.slice A' m c') m M ∧ Only g w w' := by
  obtain ⟨i, hi, hz, hsize, hby⟩ := info_parts Tryd.infoD
  rcases Nat.eq_zero_or_pos m with h0 | h0
  · subst h0
    obtain rfl : M = [] := List.eq_nil_of_length_eq_zero hr.1
    refine ⟨_, _, w, ?_, hown, Only.refl g w⟩
    rcases A with _ | a
    · simp [Builtin.append_, run_underlying Tryd.under24, sizeOf, typeInfo, hi, Builtin.lenOf, Builtin.firstCells, storeCells]
    · simp [Builtin.append_, run_underlying Tryd.under24, sizeOf, typeInfo, hi, Builtin.lenOf, Builtin.firstCells, storeCells, loadCells, loadCellsFrom]
  · obtain ⟨b, off, x, rfl, hblt, hx, hc⟩ := hr.2.2.get (k := 0) (by omega)
    obtain ⟨v', w', hrun, h2, h3, _, h5⟩ := run_append_own_at (P := Tryd.prog) w base 24 ty 23 i (.agg (bcells zero32)) 32 32 Tryd.under24 hi hz hsize hby rfl (by omega) _ 0 _ hown.2 ⟨b, off, none⟩ m c ((flat M).map bcell) (by rw [List.length_map, hr.2.2.1]; omega)
      (fun j u hu => by rw [Addr.add_mid]; exact hr.2.2.range j u hu)
      (by intro u hu; simp only [List.mem_map] at hu; obtain ⟨y, _, rfl⟩ := hu; rfl) (by simp only [maxLen]; omega) (by omega) hbase
    rw [Nat.zero_add] at h2
    have h2' : OwnD w' base v' m M := ⟨hr.2.1, by simpa [flat] using h2⟩
    obtain ⟨A', c', rfl, _⟩ := h2'.form
    exact ⟨A', c', w', hrun, h2', ⟨h3.os, h3.tape, h3.output, h3.size, fun k hk hne => h3.block k hk (by simp [Value.ownBlock, hne])⟩⟩
theorem wp_appDO {o : Oper} {a : Act} {w : World} {K : Act → World → Prop} {Q : Exit → Act → World → Prop} (s x : Operand) (ho : o.op = .call { callee := .builtin .append, args := #[s, x], argTypes := #[24, 24] })
    (base g c0 : Nat) (hs : a.eval s = .slice (some ⟨g, 0, none⟩) 0 c0) (hown : OwnD w base (.slice (some ⟨g, 0, none⟩) 0 c0) 0 [])
    (A : Option Addr) (m c : Nat) (M : List (List UInt8)) (hx : a.eval x = .slice A m c) (hr : Ds w A m M) (hb : m ≤ 1000000) (hbase : base ≤ w.heap.size)
    (h : ∀ A' c' w', Ds w' A' m M → Only g w w' → K (a.put o.dst (.slice A' m c')) w') : o.wp Tryd.prog a w K Q := by
  obtain ⟨A', c', w', hrun, h2, h3⟩ := run_appDO o.type w base g c0 hown A m c M hr hb hbase
  unfold Oper.wp execOp
  simp only [ho, resolve, invoke, builtin, Sem.run_bind, Sem.run_pure, Result.andThen_ok, List.map_toArray, List.map_cons, List.map_nil, hs, hx, hrun]
  exact h A' c' w' h2.ds h3
/-- []Digest{} -/
theorem run_emptyD (w : World) : (Instr.buildSlice 24 0 #[]).run Tryd.prog w = .ok (.slice (some ⟨w.heap.size, 0, none⟩) 0 0) (w.alloc (.cells #[] 23)) := by
  obtain ⟨i, hi, hz, hsize, hby⟩ := info_parts Tryd.infoD
  simp [Instr.buildSlice, run_underlying Tryd.under24, sizeOf, typeInfo, hi, Instr.fill, newRow]
  have e : Array.map (fun _ => (default : Value)) (Array.range 0) = #[] := by apply Array.ext <;> simp
  rw [e]
theorem wp_emptyD {o : Oper} {a : Act} {w : World} {K : Act → World → Prop} {Q : Exit → Act → World → Prop} (ho : o.op = .buildSlice 24 0 #[])
    (h : ∀ g w', g = w.heap.size → g < w'.heap.size → OwnD w' w.heap.size (.slice (some ⟨g, 0, none⟩) 0 0) 0 [] → Below w.heap.size w w' → K (a.put o.dst (.slice (some ⟨g, 0, none⟩) 0 0)) w') : o.wp Tryd.prog a w K Q := by
  unfold Oper.wp execOp
  simp only [ho, List.map_toArray, List.map_nil, Sem.run_bind, run_emptyD, Result.andThen_ok]
  exact h _ _ rfl (by simp) (emptyD_new w) ((Below.refl _ _).alloc (Nat.le_refl _) _)
theorem yields_loadW {ops : Array Oper} {S : World → Prop} {o : Oper} {a : Act} (hw : Region.wanted o (yielded ops a.tmps) = true) (x : Operand) (ho : o.op = .load 23 x) (b off : Nat) (d : List UInt8)
    (hx : a.eval x = .pointer (some ⟨b, off, none⟩)) (hS : ∀ w, S w → w.rangeAt b off (d.map bcell)) (hd : d.length = 32) : YieldsIf Tryd.prog ops S o (.agg (bcells d)) a :=
  yieldsIf_load_mid hw 23 x ho b off hx _ _ hS Tryd.under23 rfl (by rw [List.length_map, hd]; exact Tryd.sizeD)
theorem yields_eqlW {ops : Array Oper} {S : World → Prop} {o : Oper} {a : Act} (hw : Region.wanted o (yielded ops a.tmps) = true) (x y : Operand) (ho : o.op = .binOp .eql 23 x y 23) (d r : List UInt8)
    (b : Bool) (hx : a.eval x = .agg (bcells d)) (hy : a.eval y = .agg (bcells r)) (hd : d.length = 32) (hr : r.length = 32) (hb : decide (d = r) = b) : YieldsIf Tryd.prog ops S o (.bool b) a :=
  .inl ⟨hw, fun w _ => by
    have he := eqD d r hd hr w
    rw [hb] at he
    unfold execOp
    simp only [ho, hx, hy]
    go_simp⟩
theorem yields_neqW {ops : Array Oper} {S : World → Prop} {o : Oper} {a : Act} (hw : Region.wanted o (yielded ops a.tmps) = true) (x y : Operand) (ho : o.op = .binOp .neq 23 x y 23) (d : List UInt8)
    (hx : a.eval x = .agg (bcells d)) (hy : a.eval y = .agg (bcells d)) (hd : d.length = 32) : YieldsIf Tryd.prog ops S o (.bool false) a :=
  .inl ⟨hw, fun w _ => by
    have he := eqD d d hd hd w
    unfold execOp
    simp only [ho, hx, hy]
    go_simp⟩
theorem yields_eqI {ops : Array Oper} {S : World → Prop} {o : Oper} {a : Act} (hgd : o.guard = none) (x y : Operand) (ho : o.op = .binOp .eql 3 x y 3) (p q : Int) (b : Bool)
    (hx : a.eval x = .int .i64 p) (hy : a.eval y = .int .i64 q) (hb : (p == q) = b) : YieldsIf Tryd.prog ops S o (.bool b) a :=
  .inl ⟨by simp [Region.wanted, hgd], fun w _ => by
    unfold execOp
    simp only [ho, hx, hy]
    go_simp⟩
theorem yields_eqB {ops : Array Oper} {S : World → Prop} {o : Oper} {a : Act} (hgd : o.guard = none) (x y : Operand) (ho : o.op = .binOp .eql 4 x y 4) (b : Bool)
    (hx : a.eval x = .bool b) (hy : a.eval y = .bool b) : YieldsIf Tryd.prog ops S o (.bool true) a :=
  .inl ⟨by simp [Region.wanted, hgd], fun w _ => by
    unfold execOp
    simp only [ho, hx, hy]
    go_simp⟩
end Go.Proofs.YtghihgmgadaoeaaDoor
