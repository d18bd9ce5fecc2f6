/-
  Laws for walks over lists of digests: make, an index, a load, a store, a copy, under a guard too; operations of a region that draws its order. Nothing of the program is named here. No conditions.
-/
import Derived.Test.YtiidcnjhjojhoaaDoorDig
namespace Go.Proofs.YtiidcnjhjojhoaaDoor
open Go.ChangeShapes Go.WideShapes Go.ChangeAt Go.RowKit
theorem made_zeroD (n : Nat) : madeCells (Value.agg (bcells zero32)).cells n = bcells (List.replicate n 0) := by
  apply Array.ext_getElem?
  intro j
  rw [bcells_get?]
  by_cases h : j < n
  · rw [List.getElem?_replicate, if_pos h]
    have hm : j % 32 < 32 := Nat.mod_lt _ (by omega)
    have e : ((bcells zero32)[j % 32]! : Value) = bcell 0 := by
      rw [getElem!_def, bcells_get?]
      unfold zero32
      rw [List.getElem?_replicate, if_pos hm]; rfl
    have hz : (Value.agg (bcells zero32)).cells = bcells zero32 := rfl
    have hs : (bcells zero32).size = 32 := by rw [bcells_size]; rfl
    rw [hz, madeCells, Array.getElem?_map, Array.getElem?_range, if_pos h, Option.map_some, hs, e]
    rfl
  · rw [List.getElem?_eq_none (by simp; omega), Array.getElem?_eq_none (by rw [size_madeCells]; omega)]; rfl
/-- make([]Digest, n, c) -/
theorem run_madeD (n c : Nat) (L C : Int) (hL : L = n) (hC : C = c) (hnc : n ≤ c) (hc : c ≤ 65536) (w : World) :
    (Instr.makeSlice 22 (.int .i64 L) (.int .i64 C)).run Tryd.prog w = .ok (.slice (some ⟨w.heap.size, 0, none⟩) n c) (w.alloc (.cells (bcells (List.replicate (c * 32) 0)) 24)) := by
  obtain ⟨i, hi, hz, hsize, hby⟩ := info_parts Tryd.infoD
  have hr := run_make (P := Tryd.prog) w 22 24 i (.agg (bcells zero32)) Tryd.under24 hi hz .i64 .i64 L C (by omega) (by omega) (by rw [hby]; omega) (by omega)
  rw [hr, hsize, hL, hC]
  simp only [Int.toNat_natCast]
  rw [← made_zeroD]
theorem yields_indexD {ops : Array Oper} {S : World → Prop} {o : Oper} {a : Act} (hgd : o.guard = none) (x y : Operand) (ho : o.op = .indexAddr 22 x y) (b off n c k : Nat) (z : Int)
    (hx : a.eval x = .slice (some ⟨b, off, none⟩) n c) (hy : a.eval y = .int .i64 z) (hz : z = k) (hk : k < n) : YieldsIf Tryd.prog ops S o (.pointer (some ⟨b, off + 32 * k, none⟩)) a :=
  .inl ⟨by simp [Region.wanted, hgd], fun w _ => by
    unfold execOp
    simp only [ho, hx, hy, Sem.run_bind, run_indexD b off n c k z hz hk, Result.andThen_ok]
    rfl⟩
theorem yields_loadD {ops : Array Oper} {S : World → Prop} {o : Oper} {a : Act} (hgd : o.guard = none) (x : Operand) (ho : o.op = .load 24 x) (b off : Nat) (d : List UInt8)
    (hx : a.eval x = .pointer (some ⟨b, off, none⟩)) (hS : ∀ w, S w → w.rangeAt b off (d.map bcell)) (hd : d.length = 32) : YieldsIf Tryd.prog ops S o (.agg (bcells d)) a :=
  yieldsIf_load_mid (by simp [Region.wanted, hgd]) 24 x ho b off hx _ _ hS Tryd.under23 rfl (by rw [List.length_map, hd]; exact Tryd.sizeD)
theorem yields_neqD {ops : Array Oper} {S : World → Prop} {o : Oper} {a : Act} (hgd : o.guard = none) (x y : Operand) (ho : o.op = .binOp .neq 24 x y 24) (d : List UInt8)
    (hx : a.eval x = .agg (bcells d)) (hy : a.eval y = .agg (bcells d)) (hd : d.length = 32) : YieldsIf Tryd.prog ops S o (.bool false) a :=
  .inl ⟨by simp [Region.wanted, hgd], fun w _ => by
    have he := eqD d d hd hd w
    unfold execOp
    simp only [ho, hx, hy]
    go_simp⟩
theorem splice_app (F Y l : List UInt8) (k : Nat) : splice (F ++ Y) (F.length + k) l = F ++ splice Y k l := by
  unfold splice
  rw [List.take_append, List.drop_append]
  rw [List.take_of_length_le (by omega), List.drop_eq_nil_of_le (by omega)]
  rw [show F.length + k - F.length = k by omega, show F.length + k + l.length - F.length = k + l.length by omega]
  simp
theorem splice_zero (Y Z l : List UInt8) (h : l.length = Y.length) : splice (Y ++ Z) 0 l = l ++ Z := by
  unfold splice
  rw [List.take_zero, Nat.zero_add, h, List.drop_left]
  simp
theorem wpList_indexO {ops : Array Oper} {rest : List Oper} {o : Oper} {a : Act} {w : World} {Q : Exit → Act → World → Prop} (hgd : o.guard = none) (x y : Operand) (ho : o.op = .indexAddr 22 x y) (b off n c k at' : Nat) (z : Int)
    (hx : a.eval x = .slice (some ⟨b, off, none⟩) n c) (hy : a.eval y = .int .i64 z) (hz : z = k) (hk : k < n) (hat : off + 32 * k = at')
    (h : wpList Tryd.prog ops Q rest (a.put o.dst (.pointer (some ⟨b, at', none⟩))) w) : wpList Tryd.prog ops Q (o :: rest) a w := by
  subst hat
  exact wpList_indexD hgd x y ho b off n c k z hx hy hz hk h
/-- an operation under a guard that says yes -/
theorem wpList_of {P : Program} {ops : Array Oper} {rest : List Oper} {o : Oper} {a : Act} {w : World} {Q : Exit → Act → World → Prop} (hw : Region.wanted o (yielded ops a.tmps) = true)
    (h : ∀ K : Act → World → Prop, (∀ a' w', wpList P ops Q rest a' w' → K a' w') → o.wp P a w K Q) : wpList P ops Q (o :: rest) a w := by
  refine wpList_step fun K hK => ?_
  rw [if_pos hw]
  exact h K hK
theorem wpList_loadG {ops : Array Oper} {rest : List Oper} {o : Oper} {a : Act} {w : World} {Q : Exit → Act → World → Prop} (hw : Region.wanted o (yielded ops a.tmps) = true) (x : Operand) (ho : o.op = .load 24 x) (b off : Nat) (d : List UInt8)
    (hx : a.eval x = .pointer (some ⟨b, off, none⟩)) (hc : w.rangeAt b off (d.map bcell)) (hd : d.length = 32)
    (h : wpList Tryd.prog ops Q rest (a.put o.dst (.agg (bcells d))) w) : wpList Tryd.prog ops Q (o :: rest) a w :=
  wpList_of hw fun _ hK => wp_load_mid 24 x ho b off hx _ _ hc Tryd.under23 rfl (by rw [List.length_map, hd]; exact Tryd.sizeD) (hK _ _ h)
/-- append([]Digest{}, x...) under a guard that says yes -/
theorem wpList_copyDG {ops : Array Oper} {rest : List Oper} {o : Oper} {a : Act} {w : World} {Q : Exit → Act → World → Prop} (hw : Region.wanted o (yielded ops a.tmps) = true) (s x : Operand) (ho : o.op = .call { callee := .builtin .append, args := #[s, x], argTypes := #[22, 22] })
    (hs : a.eval s = .slice (some ⟨w.heap.size, 0, none⟩) 0 0) (A : Option Addr) (m c : Nat) (M : List (List UInt8)) (hx : a.eval x = .slice A m c) (hr : Ds w A m M) (hb : m ≤ 1000000)
    (h : ∀ A' c' w', Ds w' A' m M → m ≤ c' → Below w.heap.size w w' → wpList Tryd.prog ops Q rest (a.put o.dst (.slice A' m c')) w') : wpList Tryd.prog ops Q (o :: rest) a (w.alloc (.cells #[] 24)) := by
  have hb0 : Below w.heap.size w (w.alloc (.cells #[] 24)) := (Below.refl _ _).alloc (Nat.le_refl _) _
  refine wpList_of hw fun K hK => wp_appD s x ho w.heap.size _ 0 [] hs (emptyD_new w) A m c M hx (hr.below hb0) (by omega) (by simp) ?_
  intro A' c' w' hown hbel
  rw [Nat.zero_add] at hown ⊢
  rw [List.nil_append] at hown
  obtain ⟨A2, c2, hv, hc⟩ := hown.form
  injection hv with h1 h2 h3
  subst h1 h3
  exact hK _ _ (h A' c' w' hown.ds hc (hb0.trans hbel))
/-- a digest and an error's number -/
def RecD (w : World) (R : List UInt8) (E : Int) (e : Ending) (w' : World) : Prop := e = .returned (.tuple #[.agg (bcells R), .int .i64 E]) ∧ Below w.heap.size w w'
theorem wrap_small (r : Int) (h0 : -1000000 ≤ r) (h1 : r ≤ 1000000) : IntKind.i64.wrap r = r := by rw [IntKind.wrap_i64]; omega
theorem yields_sub {ops : Array Oper} {S : World → Prop} {o : Oper} {a : Act} (hgd : o.guard = none) (x y : Operand) (ho : o.op = .binOp .sub 3 x y 3) (p q r : Int)
    (hx : a.eval x = .int .i64 p) (hy : a.eval y = .int .i64 q) (hr : p - q = r) (h0 : -1000000 ≤ r) (h1 : r ≤ 1000000) : YieldsIf Tryd.prog ops S o (.int .i64 r) a :=
  .inl ⟨by simp [Region.wanted, hgd], fun w _ => by
    have hw := wrap_small r h0 h1
    unfold execOp
    simp only [ho, hx, hy]
    go_simp⟩
theorem yields_add {ops : Array Oper} {S : World → Prop} {o : Oper} {a : Act} (hgd : o.guard = none) (x y : Operand) (ho : o.op = .binOp .add 3 x y 3) (p q r : Int)
    (hx : a.eval x = .int .i64 p) (hy : a.eval y = .int .i64 q) (hr : p + q = r) (h0 : -1000000 ≤ r) (h1 : r ≤ 1000000) : YieldsIf Tryd.prog ops S o (.int .i64 r) a :=
  .inl ⟨by simp [Region.wanted, hgd], fun w _ => by
    have hw := wrap_small r h0 h1
    unfold execOp
    simp only [ho, hx, hy]
    go_simp⟩
theorem yields_mul {ops : Array Oper} {S : World → Prop} {o : Oper} {a : Act} (hgd : o.guard = none) (x y : Operand) (ho : o.op = .binOp .mul 3 x y 3) (p q r : Int)
    (hx : a.eval x = .int .i64 p) (hy : a.eval y = .int .i64 q) (hr : p * q = r) (h0 : -1000000 ≤ r) (h1 : r ≤ 1000000) : YieldsIf Tryd.prog ops S o (.int .i64 r) a :=
  .inl ⟨by simp [Region.wanted, hgd], fun w _ => by
    have hw := wrap_small r h0 h1
    unfold execOp
    simp only [ho, hx, hy]
    go_simp⟩
theorem run_appDO (ty : TypeId) (w : World) (base g c0 : Nat) (hown : OwnD w base (.slice (some ⟨g, 0, none⟩) 0 c0) 0 [])
    (A : Option Addr) (m c : Nat) (M : List (List UInt8)) (hr : Ds w A m M) (hb : m ≤ 1000000) (hbase : base ≤ w.heap.size) :
    ∃ A' c' w', (Builtin.append_ #[22, 22] ty #[.slice (some ⟨g, 0, none⟩) 0 c0, .slice A m c]).run Tryd.prog w = .ok (.slice A' m c') w' ∧ OwnD w' base (.slice A' m c') m M ∧ Only g w w' := by
  obtain ⟨i, hi, hz, hsize, hby⟩ := info_parts Tryd.infoD
  rcases Nat.eq_zero_or_pos m with h0 | h0
  · subst h0
    obtain rfl : M = [] := List.eq_nil_of_length_eq_zero hr.1
    refine ⟨_, _, w, ?_, hown, Only.refl g w⟩
    rcases A with _ | a
    · simp [Builtin.append_, run_underlying Tryd.under24, sizeOf, typeInfo, hi, Builtin.lenOf, Builtin.firstCells, storeCells]
    · simp [Builtin.append_, run_underlying Tryd.under24, sizeOf, typeInfo, hi, Builtin.lenOf, Builtin.firstCells, storeCells, loadCells, loadCellsFrom]
  · obtain ⟨b, off, x, rfl, hblt, hx, hc⟩ := hr.2.2.get (k := 0) (by omega)
    obtain ⟨v', w', hrun, h2, h3, _, h5⟩ := run_append_own_at (P := Tryd.prog) w base 22 ty 24 i (.agg (bcells zero32)) 32 32 Tryd.under24 hi hz hsize hby rfl (by omega) _ 0 _ hown.2 ⟨b, off, none⟩ m c ((flat M).map bcell) (by rw [List.length_map, hr.2.2.1]; omega)
      (fun j u hu => by rw [Addr.add_mid]; exact hr.2.2.range j u hu)
      (by intro u hu; simp only [List.mem_map] at hu; obtain ⟨y, _, rfl⟩ := hu; rfl) (by simp only [maxLen]; omega) (by omega) hbase
    rw [Nat.zero_add] at h2
    have h2' : OwnD w' base v' m M := ⟨hr.2.1, by simpa [flat] using h2⟩
    obtain ⟨A', c', rfl, _⟩ := h2'.form
    exact ⟨A', c', w', hrun, h2', ⟨h3.os, h3.tape, h3.output, h3.size, fun k hk hne => h3.block k hk (by simp [Value.ownBlock, hne])⟩⟩
theorem wp_appDO {o : Oper} {a : Act} {w : World} {K : Act → World → Prop} {Q : Exit → Act → World → Prop} (s x : Operand) (ho : o.op = .call { callee := .builtin .append, args := #[s, x], argTypes := #[22, 22] })
    (base g c0 : Nat) (hs : a.eval s = .slice (some ⟨g, 0, none⟩) 0 c0) (hown : OwnD w base (.slice (some ⟨g, 0, none⟩) 0 c0) 0 [])
    (A : Option Addr) (m c : Nat) (M : List (List UInt8)) (hx : a.eval x = .slice A m c) (hr : Ds w A m M) (hb : m ≤ 1000000) (hbase : base ≤ w.heap.size)
    (h : ∀ A' c' w', Ds w' A' m M → Only g w w' → K (a.put o.dst (.slice A' m c')) w') : o.wp Tryd.prog a w K Q := by
  obtain ⟨A', c', w', hrun, h2, h3⟩ := run_appDO o.type w base g c0 hown A m c M hr hb hbase
  unfold Oper.wp execOp
  simp only [ho, resolve, invoke, builtin, Sem.run_bind, Sem.run_pure, Result.andThen_ok, List.map_toArray, List.map_cons, List.map_nil, hs, hx, hrun]
  exact h A' c' w' h2.ds h3
/-- []Digest{} -/
theorem run_emptyD (w : World) : (Instr.buildSlice 22 0 #[]).run Tryd.prog w = .ok (.slice (some ⟨w.heap.size, 0, none⟩) 0 0) (w.alloc (.cells #[] 24)) := by
  obtain ⟨i, hi, hz, hsize, hby⟩ := info_parts Tryd.infoD
  simp [Instr.buildSlice, run_underlying Tryd.under24, sizeOf, typeInfo, hi, Instr.fill, newRow]
  have e : Array.map (fun _ => (default : Value)) (Array.range 0) = #[] := by apply Array.ext <;> simp
  rw [e]
theorem wp_emptyD {o : Oper} {a : Act} {w : World} {K : Act → World → Prop} {Q : Exit → Act → World → Prop} (ho : o.op = .buildSlice 22 0 #[])
    (h : ∀ g w', g = w.heap.size → g < w'.heap.size → OwnD w' w.heap.size (.slice (some ⟨g, 0, none⟩) 0 0) 0 [] → Below w.heap.size w w' → K (a.put o.dst (.slice (some ⟨g, 0, none⟩) 0 0)) w') : o.wp Tryd.prog a w K Q := by
  unfold Oper.wp execOp
  simp only [ho, List.map_toArray, List.map_nil, Sem.run_bind, run_emptyD, Result.andThen_ok]
  exact h _ _ rfl (by simp) (emptyD_new w) ((Below.refl _ _).alloc (Nat.le_refl _) _)
theorem yields_loadW {ops : Array Oper} {S : World → Prop} {o : Oper} {a : Act} (hw : Region.wanted o (yielded ops a.tmps) = true) (x : Operand) (ho : o.op = .load 24 x) (b off : Nat) (d : List UInt8)
    (hx : a.eval x = .pointer (some ⟨b, off, none⟩)) (hS : ∀ w, S w → w.rangeAt b off (d.map bcell)) (hd : d.length = 32) : YieldsIf Tryd.prog ops S o (.agg (bcells d)) a :=
  yieldsIf_load_mid hw 24 x ho b off hx _ _ hS Tryd.under23 rfl (by rw [List.length_map, hd]; exact Tryd.sizeD)
theorem yields_eqlW {ops : Array Oper} {S : World → Prop} {o : Oper} {a : Act} (hw : Region.wanted o (yielded ops a.tmps) = true) (x y : Operand) (ho : o.op = .binOp .eql 24 x y 24) (d r : List UInt8)
    (b : Bool) (hx : a.eval x = .agg (bcells d)) (hy : a.eval y = .agg (bcells r)) (hd : d.length = 32) (hr : r.length = 32) (hb : decide (d = r) = b) : YieldsIf Tryd.prog ops S o (.bool b) a :=
  .inl ⟨hw, fun w _ => by
    have he := eqD d r hd hr w
    rw [hb] at he
    unfold execOp
    simp only [ho, hx, hy]
    go_simp⟩
theorem yields_neqW {ops : Array Oper} {S : World → Prop} {o : Oper} {a : Act} (hw : Region.wanted o (yielded ops a.tmps) = true) (x y : Operand) (ho : o.op = .binOp .neq 24 x y 24) (d : List UInt8)
    (hx : a.eval x = .agg (bcells d)) (hy : a.eval y = .agg (bcells d)) (hd : d.length = 32) : YieldsIf Tryd.prog ops S o (.bool false) a :=
  .inl ⟨hw, fun w _ => by
    have he := eqD d d hd hd w
    unfold execOp
    simp only [ho, hx, hy]
    go_simp⟩
theorem yields_eqI {ops : Array Oper} {S : World → Prop} {o : Oper} {a : Act} (hgd : o.guard = none) (x y : Operand) (ho : o.op = .binOp .eql 3 x y 3) (p q : Int) (b : Bool)
    (hx : a.eval x = .int .i64 p) (hy : a.eval y = .int .i64 q) (hb : (p == q) = b) : YieldsIf Tryd.prog ops S o (.bool b) a :=
  .inl ⟨by simp [Region.wanted, hgd], fun w _ => by
    unfold execOp
    simp only [ho, hx, hy]
    go_simp⟩
theorem yields_eqB {ops : Array Oper} {S : World → Prop} {o : Oper} {a : Act} (hgd : o.guard = none) (x y : Operand) (ho : o.op = .binOp .eql 4 x y 4) (b : Bool)
    (hx : a.eval x = .bool b) (hy : a.eval y = .bool b) : YieldsIf Tryd.prog ops S o (.bool true) a :=
  .inl ⟨by simp [Region.wanted, hgd], fun w _ => by
    unfold execOp
    simp only [ho, hx, hy]
    go_simp⟩
theorem yields_subW {ops : Array Oper} {S : World → Prop} {o : Oper} {a : Act} (hw : Region.wanted o (yielded ops a.tmps) = true) (x y : Operand) (ho : o.op = .binOp .sub 3 x y 3) (p q r : Int)
    (hx : a.eval x = .int .i64 p) (hy : a.eval y = .int .i64 q) (hr : p - q = r) (h0 : -1000000 ≤ r) (h1 : r ≤ 1000000) : YieldsIf Tryd.prog ops S o (.int .i64 r) a :=
  .inl ⟨hw, fun w _ => by
    have hw := wrap_small r h0 h1
    unfold execOp
    simp only [ho, hx, hy]
    go_simp⟩
theorem yields_addW {ops : Array Oper} {S : World → Prop} {o : Oper} {a : Act} (hw : Region.wanted o (yielded ops a.tmps) = true) (x y : Operand) (ho : o.op = .binOp .add 3 x y 3) (p q r : Int)
    (hx : a.eval x = .int .i64 p) (hy : a.eval y = .int .i64 q) (hr : p + q = r) (h0 : -1000000 ≤ r) (h1 : r ≤ 1000000) : YieldsIf Tryd.prog ops S o (.int .i64 r) a :=
  .inl ⟨hw, fun w _ => by
    have hw := wrap_small r h0 h1
    unfold execOp
    simp only [ho, hx, hy]
    go_simp⟩
theorem yields_mulW {ops : Array Oper} {S : World → Prop} {o : Oper} {a : Act} (hw : Region.wanted o (yielded ops a.tmps) = true) (x y : Operand) (ho : o.op = .binOp .mul 3 x y 3) (p q r : Int)
    (hx : a.eval x = .int .i64 p) (hy : a.eval y = .int .i64 q) (hr : p * q = r) (h0 : -1000000 ≤ r) (h1 : r ≤ 1000000) : YieldsIf Tryd.prog ops S o (.int .i64 r) a :=
  .inl ⟨hw, fun w _ => by
    have hw := wrap_small r h0 h1
    unfold execOp
    simp only [ho, hx, hy]
    go_simp⟩
theorem yields_indexW {ops : Array Oper} {S : World → Prop} {o : Oper} {a : Act} (hw : Region.wanted o (yielded ops a.tmps) = true) (x y : Operand) (ho : o.op = .indexAddr 22 x y) (b off n c k at' : Nat) (z : Int)
    (hx : a.eval x = .slice (some ⟨b, off, none⟩) n c) (hy : a.eval y = .int .i64 z) (hz : z = k) (hk : k < n) (hat : off + 32 * k = at') : YieldsIf Tryd.prog ops S o (.pointer (some ⟨b, at', none⟩)) a := by
  subst hat
  exact .inl ⟨hw, fun w _ => by
    unfold execOp
    simp only [ho, hx, hy, Sem.run_bind, run_indexD b off n c k z hz hk, Result.andThen_ok]
    rfl⟩
/-- a digest of a list that lies in memory -/
theorem Ds.at {w : World} {A : Option Addr} {n k : Nat} {L : List (List UInt8)} {d : List UInt8} (h : Ds w A n L) (hd : L[k]? = some d) : ∃ b off, A = some ⟨b, off, none⟩ ∧ d.length = 32 ∧ Bs w (some ⟨b, off + 32 * k, none⟩) 32 d := by
  have hk : k < n := by rw [← h.1]; exact (List.getElem?_eq_some_iff.1 hd).1
  obtain ⟨b, off, x, hA, _, hx, hl, hB⟩ := h.get hk
  obtain rfl : x = d := by rw [hx] at hd; injection hd
  exact ⟨b, off, hA, hl, hB⟩
theorem yields_indexO {ops : Array Oper} {S : World → Prop} {o : Oper} {a : Act} (hgd : o.guard = none) (x y : Operand) (ho : o.op = .indexAddr 22 x y) (b off n c k at' : Nat) (z : Int)
    (hx : a.eval x = .slice (some ⟨b, off, none⟩) n c) (hy : a.eval y = .int .i64 z) (hz : z = k) (hk : k < n) (hat : off + 32 * k = at') : YieldsIf Tryd.prog ops S o (.pointer (some ⟨b, at', none⟩)) a := by
  subst hat
  exact yields_indexD hgd x y ho b off n c k z hx hy hz hk
theorem run_allocD (w : World) : (Instr.alloc 24 true (.tuple #[])).run Tryd.prog w = .ok (.pointer (some ⟨w.heap.size, 0, none⟩)) (w.alloc (.cells lit32 24)) := by
  have hz := (zero_of_info zero25).1 w
  rw [lit32_zero]
  simp [Instr.alloc, hz, newVar, newRow, Value.cells]
theorem wp_allocD {o : Oper} {a : Act} {w : World} {K : Act → World → Prop} {Q : Exit → Act → World → Prop} (ho : o.op = .alloc 24)
    (h : ∀ g w', g = w.heap.size → Row w' g 24 lit32 → Below w.heap.size w w' → K (a.put o.dst (.pointer (some ⟨g, 0, none⟩))) w') : o.wp Tryd.prog a w K Q := by
  unfold Oper.wp execOp
  simp only [ho, Sem.run_bind, run_allocD, Result.andThen_ok]
  exact h _ _ rfl (Row.new w 24 lit32) ((Below.refl _ _).alloc (Nat.le_refl _) _)
theorem zero32_length : zero32.length = 32 := by unfold zero32; rw [List.length_replicate]
end Go.Proofs.YtiidcnjhjojhoaaDoor
