/-
  Slices of digests in memory: one that reads as a list of digests; one of the call's own; loads and stores of one digest in the middle of a block; a literal of two digests; append; digests that are compared; a list of digests that came in.
-/
import Derived.Test.YtiidcnjhjojhoaaDoorDigs
import Derived.Great.BuildSlice
import Derived.Deep.Slices
namespace Go.Proofs.YtiidcnjhjojhoaaDoor
open Go.ChangeShapes Go.WideShapes Go.ChangeAt Go.RowKit
theorem Tryd.under23 : Tryd.prog.underlying 24 = some (.array 32 5) := by kernel_rfl
theorem Tryd.under24 : Tryd.prog.underlying 22 = some (.slice 24) := by kernel_rfl
theorem Tryd.sizeD : (Tryd.prog.info? 24).map (·.size) = some 32 := by kernel_rfl
theorem Tryd.infoD : (Tryd.prog.info? 24).map (fun i => (i.zero, i.size, i.bytes)) = some (some (.agg (bcells zero32)), 32, 32) := by kernel_rfl
/-- the slice of digests at A holds L -/
def Ds (w : World) (A : Option Addr) (n : Nat) (L : List (List UInt8)) : Prop := L.length = n ∧ Digs L ∧ Bs w A (32 * n) (flat L)
theorem Ds.nil (w : World) (A : Option Addr) : Ds w A 0 [] := ⟨rfl, Digs.nil, Bs.nil w A⟩
theorem Ds.below {w w' : World} {A : Option Addr} {n : Nat} {L : List (List UInt8)} (h : Ds w A n L) (hb : Below w.heap.size w w') : Ds w' A n L := ⟨h.1, h.2.1, h.2.2.below hb⟩
theorem Ds.drewN {w : World} {A : Option Addr} {n : Nat} {L : List (List UInt8)} (h : Ds w A n L) (k : Nat) : Ds (w.drewN k) A n L := h
theorem Ds.drew {w : World} {A : Option Addr} {n : Nat} {L : List (List UInt8)} (h : Ds w A n L) : Ds w.drew A n L := h
theorem Ds.apart {w : World} {A : Option Addr} {n g : Nat} {L : List (List UInt8)} (h : Ds w A n L) (hg : w.heap.size ≤ g) : Apart A (32 * n) g := h.2.2.apart hg
theorem Ds.only {w w' : World} {A : Option Addr} {n g : Nat} {L : List (List UInt8)} (h : Ds w A n L) (ha : Apart A (32 * n) g) (ho : Only g w w') : Ds w' A n L := ⟨h.1, h.2.1, h.2.2.only ha ho⟩
/-- bytes that lie at an address, as the laws on the middle of a block ask them -/
theorem Bs.range {w : World} {b off n : Nat} {l : List UInt8} (h : Bs w (some ⟨b, off, none⟩) n l) : w.rangeAt b off (l.map bcell) := fun j v hv => by
  rw [List.getElem?_map] at hv
  cases hx : l[j]? with
  | none => rw [hx] at hv; cases hv
  | some y =>
    rw [hx] at hv
    injection hv with hv
    subst hv
    obtain ⟨b', off', e, _, hc⟩ := h.2 j y hx
    injection e with e
    injection e with e1 e2
    subst e1 e2
    exact hc
theorem Ds.get {w : World} {A : Option Addr} {n k : Nat} {L : List (List UInt8)} (h : Ds w A n L) (hk : k < n) :
    ∃ b off d, A = some ⟨b, off, none⟩ ∧ b < w.heap.size ∧ L[k]? = some d ∧ d.length = 32 ∧ Bs w (some ⟨b, off + 32 * k, none⟩) 32 d := by
  obtain ⟨h1, h2, h3⟩ := h
  obtain ⟨b, off, x, rfl, hb, _⟩ := h3.get (k := 32 * k) (by omega)
  have hkL : k < L.length := by omega
  have hd := List.getElem?_eq_getElem hkL
  have hl := h2.get hd
  refine ⟨b, off, L[k], rfl, hb, hd, hl, ?_⟩
  have h4 := (h3.drop (m := 32 * k)).take (m := 32) (by omega)
  rw [flat_get h2 hd] at h4
  exact h4
/-- a slice of digests of the call's own -/
def OwnD (w : World) (base : Nat) (v : Value) (n : Nat) (L : List (List UInt8)) : Prop := Digs L ∧ w.ownsRow base 24 32 v n ((flat L).map bcell)
theorem OwnD.nil (w : World) (base : Nat) : OwnD w base (.slice none 0 0) 0 [] := ⟨Digs.nil, World.ownsRow_nil w base 24 32⟩
theorem OwnD.length {w : World} {base : Nat} {v : Value} {n : Nat} {L : List (List UInt8)} (h : OwnD w base v n L) : L.length = n := by
  have h1 := h.2.1
  rw [List.length_map, flat_length h.1] at h1
  omega
theorem OwnD.form {w : World} {base : Nat} {v : Value} {n : Nat} {L : List (List UInt8)} (h : OwnD w base v n L) : ∃ A c, v = .slice A n c ∧ n ≤ c := by
  rcases h.2.2 with ⟨hv, hn⟩ | ⟨g, cap, cur, hv, _, hg, hnc, _, hcs, ht⟩
  · exact ⟨none, 0, by rw [hv, hn], by omega⟩
  · exact ⟨_, _, hv, hnc⟩
theorem OwnD.mono {w : World} {base base' : Nat} {v : Value} {n : Nat} {L : List (List UInt8)} (h : OwnD w base v n L) (hb : base' ≤ base) : OwnD w base' v n L := by
  refine ⟨h.1, h.2.1, ?_⟩
  rcases h.2.2 with h0 | ⟨g, cap, cur, hv, hge, hr⟩
  · exact .inl h0
  · exact .inr ⟨g, cap, cur, hv, Nat.le_trans hb hge, hr⟩
theorem OwnD.below {w w' : World} {base : Nat} {v : Value} {n : Nat} {L : List (List UInt8)} (h : OwnD w base v n L) (hb : Below w.heap.size w w') : OwnD w' base v n L := by
  refine ⟨h.1, h.2.1, ?_⟩
  rcases h.2.2 with h0 | ⟨g, cap, cur, hv, hge, hg, hr⟩
  · exact .inl h0
  · exact .inr ⟨g, cap, cur, hv, hge, (hb.block g (Array.getElem?_eq_some_iff.1 hg).1).trans hg, hr⟩
theorem OwnD.ds {w : World} {base : Nat} {A : Option Addr} {n c : Nat} {L : List (List UInt8)} (h : OwnD w base (.slice A n c) n L) : Ds w A n L := by
  have hlen := h.length
  have hfl := flat_length h.1
  refine ⟨hlen, h.1, by omega, fun k x hx => ?_⟩
  have hk := (List.getElem?_eq_some_iff.1 hx).1
  rcases h.2.2 with ⟨hv, hn⟩ | ⟨g, cap, cur, hv, _, hg, hnc, _, hcs, ht⟩
  · omega
  · injection hv with q1 q2 q3
    subst q1 q3
    refine ⟨g, 0, rfl, (Array.getElem?_eq_some_iff.1 hg).1, ?_⟩
    have := h.2.cells (g := g) rfl k (.int .u8 (x.toNat : Int)) (by rw [List.getElem?_map, hx]; rfl)
    rw [Addr.add_mid] at this
    exact this
/-- make([]Digest, 0, n) -/
theorem OwnD.made (w : World) (base n : Nat) (cs : Array Value) (hb : base ≤ w.heap.size) (hn : n ≤ 65536) (hs : cs.size = n * 32) : OwnD (w.alloc (.cells cs 24)) base (.slice (some ⟨w.heap.size, 0, none⟩) 0 n) 0 [] :=
  ⟨Digs.nil, World.ownsRow_made w cs n hb (by simp only [maxLen]; omega) hs⟩
/-- digests in new memory, and an error's number -/
def NewD (w : World) (L : List (List UInt8)) (E : Int) (e : Ending) (w' : World) : Prop :=
  ∃ A c, e = .returned (.tuple #[.slice A L.length c, .int .i64 E]) ∧ L.length ≤ c ∧ Ds w' A L.length L ∧ Below w.heap.size w w'
theorem OwnD.new {w w' : World} {A : Option Addr} {n c : Nat} {E : Int} {L : List (List UInt8)} (h : OwnD w' w.heap.size (.slice A n c) n L) (hb : Below w.heap.size w w') : NewD w L E (.returned (.tuple #[.slice A n c, .int .i64 E])) w' := by
  have hl := h.length
  subst hl
  obtain ⟨A', c', hv, hc⟩ := h.form
  injection hv with h1 h2 h3
  subst h1 h3
  exact ⟨A, c, rfl, hc, h.ds, hb⟩
theorem NewD.nil (w : World) (E : Int) : NewD w [] E (.returned (.tuple #[.slice none 0 0, .int .i64 E])) w := ⟨none, 0, rfl, Nat.le_refl _, Ds.nil _ _, Below.refl _ _⟩
/-- x[k] of a slice of digests -/
theorem run_indexD (b off n c k : Nat) (z : Int) (hz : z = k) (hk : k < n) (w : World) : (Instr.indexAt 22 (.slice (some ⟨b, off, none⟩) n c) (.int .i64 z)).run Tryd.prog w = .ok (.pointer (some ⟨b, off + 32 * k, none⟩)) w := by
  subst hz
  have h1 : (0 : Int) ≤ (k : Int) ∧ (k : Int) < (n : Int) := by omega
  simp [Instr.indexAt, asIntOf, run_underlying Tryd.under24, h1, Addr.add_mid, hk, Nat.mul_comm]
theorem wp_indexD {o : Oper} {a : Act} {w : World} {K : Act → World → Prop} {Q : Exit → Act → World → Prop} (x y : Operand) (ho : o.op = .indexAddr 22 x y) (b off n c k : Nat) (z : Int)
    (hx : a.eval x = .slice (some ⟨b, off, none⟩) n c) (hy : a.eval y = .int .i64 z) (hz : z = k) (hk : k < n)
    (h : K (a.put o.dst (.pointer (some ⟨b, off + 32 * k, none⟩))) w) : o.wp Tryd.prog a w K Q := by
  unfold Oper.wp execOp
  simp only [ho, hx, hy, Sem.run_bind, run_indexD b off n c k z hz hk, Result.andThen_ok]
  exact h
theorem wpList_indexD {ops : Array Oper} {rest : List Oper} {o : Oper} {a : Act} {w : World} {Q : Exit → Act → World → Prop} (hgd : o.guard = none) (x y : Operand) (ho : o.op = .indexAddr 22 x y) (b off n c k : Nat) (z : Int)
    (hx : a.eval x = .slice (some ⟨b, off, none⟩) n c) (hy : a.eval y = .int .i64 z) (hz : z = k) (hk : k < n)
    (h : wpList Tryd.prog ops Q rest (a.put o.dst (.pointer (some ⟨b, off + 32 * k, none⟩))) w) : wpList Tryd.prog ops Q (o :: rest) a w :=
  wpList_plain hgd fun _ hK => wp_indexD x y ho b off n c k z hx hy hz hk (hK _ _ h)
/-- a digest, loaded -/
theorem wpList_loadD {ops : Array Oper} {rest : List Oper} {o : Oper} {a : Act} {w : World} {Q : Exit → Act → World → Prop} (hgd : o.guard = none) (x : Operand) (ho : o.op = .load 24 x) (b off : Nat) (d : List UInt8)
    (hx : a.eval x = .pointer (some ⟨b, off, none⟩)) (hc : w.rangeAt b off (d.map bcell)) (hd : d.length = 32)
    (h : wpList Tryd.prog ops Q rest (a.put o.dst (.agg (bcells d))) w) : wpList Tryd.prog ops Q (o :: rest) a w :=
  wpList_load_mid hgd 24 x ho b off hx _ _ hc Tryd.under23 rfl (by rw [List.length_map, hd]; exact Tryd.sizeD) h
/-- a digest, stored in the middle of a block -/
theorem run_storeD {w : World} {g o : Nat} {t : TypeId} {cs : Array Value} {d : List UInt8} (hr : Row w g t cs) (hd : d.length = 32) (hfit : o + 32 ≤ cs.size) :
    (storeVar 24 ⟨g, o, none⟩ (.agg (bcells d))).run Tryd.prog w = .ok () (w.setRow g (spl cs o d)) := by
  have hst := storeCells_free Tryd.prog g o t (0, 0) (d.map bcell) 0 cs w hr (fun j _ => by simp) (by rw [List.length_map]; omega) (fun v hv => by obtain ⟨x, _, rfl⟩ := List.mem_map.1 hv; rfl)
  have e : spl cs o d = (cs.toList.take (o + 0) ++ d.map bcell ++ cs.toList.drop (o + 0 + (d.map bcell).length)).toArray := by
    unfold spl splice; simp
  rw [← e] at hst
  have he := Tryd.sizeD
  cases hq : Tryd.prog.info? 24 with
  | none => simp [hq] at he
  | some i =>
    simp [hq] at he
    simp [storeVar, sizeOf, typeInfo, hq, he, Value.cells, bcells, hd, hst]
theorem wp_storeD {o : Oper} {a : Act} {w : World} {K : Act → World → Prop} {Q : Exit → Act → World → Prop} (x y : Operand) (ho : o.op = .store 24 x y) (g off : Nat) (d : List UInt8)
    (hx : a.eval x = .pointer (some ⟨g, off, none⟩)) (hy : a.eval y = .agg (bcells d)) (t : TypeId) (cs : Array Value) (hr : Row w g t cs) (hd : d.length = 32) (hfit : off + 32 ≤ cs.size)
    (h : ∀ w', Row w' g t (spl cs off d) → Only g w w' → K (a.put o.dst undef) w') : o.wp Tryd.prog a w K Q := by
  unfold Oper.wp execOp
  simp only [ho, hx, hy, Instr.storeAt, Instr.sureAddr, Sem.run_bind, Sem.run_pure, Result.andThen_ok, run_storeD hr hd hfit]
  exact h _ (hr.setRow _) (Only.setRow g w _)
theorem wpList_storeD {ops : Array Oper} {rest : List Oper} {o : Oper} {a : Act} {w : World} {Q : Exit → Act → World → Prop} (hgd : o.guard = none) (x y : Operand) (ho : o.op = .store 24 x y) (g off : Nat) (d : List UInt8)
    (hx : a.eval x = .pointer (some ⟨g, off, none⟩)) (hy : a.eval y = .agg (bcells d)) (t : TypeId) (cs : Array Value) (hr : Row w g t cs) (hd : d.length = 32) (hfit : off + 32 ≤ cs.size)
    (h : ∀ w', Row w' g t (spl cs off d) → Only g w w' → wpList Tryd.prog ops Q rest (a.put o.dst undef) w') : wpList Tryd.prog ops Q (o :: rest) a w :=
  wpList_plain hgd fun _ hK => wp_storeD x y ho g off d hx hy t cs hr hd hfit (fun w' h1 h2 => hK _ _ (h w' h1 h2))
/-- []Digest{a, b} -/
theorem run_buildD (p q : List UInt8) (hp : p.length = 32) (hq : q.length = 32) (w : World) :
    (Instr.buildSlice 22 2 #[(0, .agg (bcells p)), (1, .agg (bcells q))]).run Tryd.prog w = .ok (.slice (some ⟨w.heap.size, 0, none⟩) 2 2) (w.alloc (.cells (bcells (p ++ q)) 24)) := by
  obtain ⟨i, hi, hz, hsize, hby⟩ := info_parts Tryd.infoD
  refine run_buildSlice w 22 24 2 _ _ i _ Tryd.under24 hi hz (by rw [hsize]; decide) (by rw [hsize]; decide) ?_
  rw [hsize]
  have hf := Great.fill_whole (s := 32) (by omega) [.agg (bcells p), .agg (bcells q)] ((Array.range (2 * 32)).map ((Value.agg (bcells zero32)).cells[· % (Value.agg (bcells zero32)).cells.size]!))
    (fun v hv => by simp at hv; rcases hv with rfl | rfl <;> simp [Value.cells, bcells_size, hp, hq]) (by simp)
  have e : (([.agg (bcells p), .agg (bcells q)] : List Value).flatMap fun v => v.cells.toList).toArray = bcells (p ++ q) := by
    simp [Value.cells, bcells]
  rw [e] at hf
  exact hf
theorem wp_buildD {o : Oper} {a : Act} {w : World} {K : Act → World → Prop} {Q : Exit → Act → World → Prop} (x y : Operand) (ho : o.op = .buildSlice 22 2 #[(0, x), (1, y)]) (p q : List UInt8)
    (hx : a.eval x = .agg (bcells p)) (hy : a.eval y = .agg (bcells q)) (hp : p.length = 32) (hq : q.length = 32)
    (h : K (a.put o.dst (.slice (some ⟨w.heap.size, 0, none⟩) 2 2)) (w.alloc (.cells (bcells (p ++ q)) 24))) : o.wp Tryd.prog a w K Q := by
  unfold Oper.wp execOp
  simp only [ho, List.map_toArray, List.map_cons, List.map_nil, hx, hy, Sem.run_bind, run_buildD p q hp hq, Result.andThen_ok]
  exact h
theorem wpList_buildD {ops : Array Oper} {rest : List Oper} {o : Oper} {a : Act} {w : World} {Q : Exit → Act → World → Prop} (hgd : o.guard = none) (x y : Operand) (ho : o.op = .buildSlice 22 2 #[(0, x), (1, y)]) (p q : List UInt8)
    (hx : a.eval x = .agg (bcells p)) (hy : a.eval y = .agg (bcells q)) (hp : p.length = 32) (hq : q.length = 32)
    (h : wpList Tryd.prog ops Q rest (a.put o.dst (.slice (some ⟨w.heap.size, 0, none⟩) 2 2)) (w.alloc (.cells (bcells (p ++ q)) 24))) : wpList Tryd.prog ops Q (o :: rest) a w :=
  wpList_plain hgd fun _ hK => wp_buildD x y ho p q hx hy hp hq (hK _ _ h)
theorem two_ds (w : World) (p q : List UInt8) (hp : p.length = 32) (hq : q.length = 32) : Ds (w.alloc (.cells (bcells (p ++ q)) 24)) (some ⟨w.heap.size, 0, none⟩) 2 [p, q] := by
  refine ⟨rfl, Digs.two hp hq, ?_⟩
  have e : flat [p, q] = p ++ q := by simp [flat]
  rw [e]
  exact (Row.new w 24 (bcells (p ++ q))).bsB (by rw [List.length_append, hp, hq])
/-- append(v, x...) of digests -/
theorem run_appD (ty : TypeId) (w : World) (base : Nat) (v : Value) (n : Nat) (L : List (List UInt8)) (hown : OwnD w base v n L)
    (A : Option Addr) (m c : Nat) (M : List (List UInt8)) (hr : Ds w A m M) (hb : n + m ≤ 1000000) (hbase : base ≤ w.heap.size) :
    ∃ A' c' w', (Builtin.append_ #[22, 22] ty #[v, .slice A m c]).run Tryd.prog w = .ok (.slice A' (n + m) c') w' ∧ OwnD w' base (.slice A' (n + m) c') (n + m) (L ++ M) ∧ Below base w w' := by
  obtain ⟨i, hi, hz, hsize, hby⟩ := info_parts Tryd.infoD
  rcases Nat.eq_zero_or_pos m with h0 | h0
  · subst h0
    obtain rfl : M = [] := List.eq_nil_of_length_eq_zero hr.1
    have hrun : (Builtin.append_ #[22, 22] ty #[v, .slice A 0 c]).run Tryd.prog w = .ok v w := by
      rcases hown.2.2 with ⟨rfl, rfl⟩ | ⟨g, cap, cur, rfl, _, _, hnc, _⟩
      · rcases A with _ | a
        · simp [Builtin.append_, run_underlying Tryd.under24, sizeOf, typeInfo, hi, Builtin.lenOf, Builtin.firstCells]
        · simp [Builtin.append_, run_underlying Tryd.under24, sizeOf, typeInfo, hi, Builtin.lenOf, Builtin.firstCells, loadCells, loadCellsFrom]
      · rcases A with _ | a
        · simp [Builtin.append_, run_underlying Tryd.under24, sizeOf, typeInfo, hi, Builtin.lenOf, Builtin.firstCells, hnc, storeCells]
        · simp [Builtin.append_, run_underlying Tryd.under24, sizeOf, typeInfo, hi, Builtin.lenOf, Builtin.firstCells, hnc, storeCells, loadCells, loadCellsFrom]
    obtain ⟨A', c', rfl, _⟩ := hown.form
    exact ⟨A', c', w, hrun, by simpa using hown, Below.refl _ _⟩
  · obtain ⟨b, off, x, rfl, hblt, hx, hc⟩ := hr.2.2.get (k := 0) (by omega)
    obtain ⟨v', w', hrun, h2, h3, _, h5⟩ := run_append_own_at (P := Tryd.prog) w base 22 ty 24 i (.agg (bcells zero32)) 32 32 Tryd.under24 hi hz hsize hby rfl (by omega) v n _ hown.2 ⟨b, off, none⟩ m c ((flat M).map bcell) (by rw [List.length_map, hr.2.2.1]; omega)
      (fun j u hu => by rw [Addr.add_mid]; exact hr.2.2.range j u hu)
      (by intro u hu; simp only [List.mem_map] at hu; obtain ⟨y, _, rfl⟩ := hu; rfl) (by simp only [maxLen]; omega) (by omega) hbase
    have h2' : OwnD w' base v' (n + m) (L ++ M) := ⟨hown.1.app hr.2.1, by rw [flat_app, List.map_append]; exact h2⟩
    obtain ⟨A', c', rfl, _⟩ := h2'.form
    exact ⟨A', c', w', hrun, h2', (Below.refl base w).grown h3 hbase fun k hk => (hown.2.lt k hk).1⟩
theorem wp_appD {o : Oper} {a : Act} {w : World} {K : Act → World → Prop} {Q : Exit → Act → World → Prop} (s x : Operand) (ho : o.op = .call { callee := .builtin .append, args := #[s, x], argTypes := #[22, 22] })
    (base : Nat) (v : Value) (n : Nat) (L : List (List UInt8)) (hs : a.eval s = v) (hown : OwnD w base v n L)
    (A : Option Addr) (m c : Nat) (M : List (List UInt8)) (hx : a.eval x = .slice A m c) (hr : Ds w A m M) (hb : n + m ≤ 1000000) (hbase : base ≤ w.heap.size)
    (h : ∀ A' c' w', OwnD w' base (.slice A' (n + m) c') (n + m) (L ++ M) → Below base w w' → K (a.put o.dst (.slice A' (n + m) c')) w') : o.wp Tryd.prog a w K Q := by
  obtain ⟨A', c', w', hrun, h2, h3⟩ := run_appD o.type w base v n L hown A m c M hr hb hbase
  unfold Oper.wp execOp
  simp only [ho, resolve, invoke, builtin, Sem.run_bind, Sem.run_pure, Result.andThen_ok, List.map_toArray, List.map_cons, List.map_nil, hs, hx, hrun]
  exact h A' c' w' h2 h3
theorem wpList_appD {ops : Array Oper} {rest : List Oper} {o : Oper} {a : Act} {w : World} {Q : Exit → Act → World → Prop} (hgd : o.guard = none) (s x : Operand) (ho : o.op = .call { callee := .builtin .append, args := #[s, x], argTypes := #[22, 22] })
    (base : Nat) (v : Value) (n : Nat) (L : List (List UInt8)) (hs : a.eval s = v) (hown : OwnD w base v n L)
    (A : Option Addr) (m c : Nat) (M : List (List UInt8)) (hx : a.eval x = .slice A m c) (hr : Ds w A m M) (hb : n + m ≤ 1000000) (hbase : base ≤ w.heap.size)
    (h : ∀ A' c' w', OwnD w' base (.slice A' (n + m) c') (n + m) (L ++ M) → Below base w w' → wpList Tryd.prog ops Q rest (a.put o.dst (.slice A' (n + m) c')) w') : wpList Tryd.prog ops Q (o :: rest) a w :=
  wpList_plain hgd fun _ hK => wp_appD s x ho base v n L hs hown A m c M hx hr hb hbase (fun A' c' w' h1 h2 => hK _ _ (h A' c' w' h1 h2))
/-- append([]Digest{}, x...): a copy in new memory -/
theorem emptyD_new (w : World) : OwnD (w.alloc (.cells #[] 24)) w.heap.size (.slice (some ⟨w.heap.size, 0, none⟩) 0 0) 0 [] := OwnD.made w _ 0 #[] (Nat.le_refl _) (by omega) rfl
theorem wpList_copyD {ops : Array Oper} {rest : List Oper} {o : Oper} {a : Act} {w : World} {Q : Exit → Act → World → Prop} (hgd : o.guard = none) (s x : Operand) (ho : o.op = .call { callee := .builtin .append, args := #[s, x], argTypes := #[22, 22] })
    (hs : a.eval s = .slice (some ⟨w.heap.size, 0, none⟩) 0 0) (A : Option Addr) (m c : Nat) (M : List (List UInt8)) (hx : a.eval x = .slice A m c) (hr : Ds w A m M) (hb : m ≤ 1000000)
    (h : ∀ A' c' w', Ds w' A' m M → m ≤ c' → Below w.heap.size w w' → wpList Tryd.prog ops Q rest (a.put o.dst (.slice A' m c')) w') : wpList Tryd.prog ops Q (o :: rest) a (w.alloc (.cells #[] 24)) := by
  have hb0 : Below w.heap.size w (w.alloc (.cells #[] 24)) := (Below.refl _ _).alloc (Nat.le_refl _) _
  refine wpList_appD hgd s x ho w.heap.size _ 0 [] hs (emptyD_new w) A m c M hx (hr.below hb0) (by omega) (by simp) ?_
  intro A' c' w' hown hbel
  rw [Nat.zero_add] at hown ⊢
  rw [List.nil_append] at hown
  obtain ⟨A2, c2, hv, hc⟩ := hown.form
  injection hv with h1 h2 h3
  subst h1 h3
  exact h A' c' w' hown.ds hc (hb0.trans hbel)
/-- a step of a region that draws its order -/
theorem step_of {P : Program} {ops : Array Oper} {o : Oper} {a : Act} {w : World} {K : Act → World → Prop} {Q : Exit → Act → World → Prop} {E : Prop} (hgd : o.guard = none) (h : o.wp P a w K Q) :
    if Region.wanted o (yielded ops a.tmps) = true then Oper.wp P o a w K Q else E := by
  have hw : Region.wanted o (yielded ops a.tmps) = true := by simp [Region.wanted, hgd]
  rw [if_pos hw]
  exact h
/-- two digests that are compared -/
theorem run_items_dec (w : World) (d : Nat) (xs ys : Array Value) (l r : List UInt8) : ∀ (is : List Nat), (∀ j ∈ is, xs[j]? = some (.int .u8 ((l.getD j 0).toNat : Int)) ∧ ys[j]? = some (.int .u8 ((r.getD j 0).toNat : Int))) →
    (Op.eqItems (d + 1) 5 (Tryd.prog.cellsOf 5) xs ys is).run Tryd.prog w = .ok (is.all fun j => decide (l.getD j 0 = r.getD j 0)) w
  | [], _ => by simp [Op.eqItems]
  | j :: is, h => by
    obtain ⟨hx, hy⟩ := h j (by simp)
    have h1 : Tryd.prog.cellsOf 5 = 1 := by kernel_rfl
    have hp := run_part_plain (P := Tryd.prog) w (e := 5) (off := j * Tryd.prog.cellsOf 5) (by kernel_rfl) (xs := xs) (by rw [h1, Nat.mul_one]; exact hx)
    have hq := run_part_plain (P := Tryd.prog) w (e := 5) (off := j * Tryd.prog.cellsOf 5) (by kernel_rfl) (xs := ys) (by rw [h1, Nat.mul_one]; exact hy)
    have he := run_equalIn_int (P := Tryd.prog) w d 5 .u8 .u8 ((l.getD j 0).toNat : Int) ((r.getD j 0).toNat : Int) Tryd.underlying5
    have ih := run_items_dec w d xs ys l r is (fun i hi => h i (by simp [hi]))
    have hc : (((l.getD j 0).toNat : Int) == ((r.getD j 0).toNat : Int)) = decide (l.getD j 0 = r.getD j 0) := by
      rw [Bool.eq_iff_iff]
      simp only [beq_iff_eq, decide_eq_true_eq]
      constructor
      · intro h; exact UInt8.toNat.inj (by omega)
      · intro h; rw [h]
    rw [hc] at he
    simp only [Op.eqItems, Sem.run_bind, hp, hq, he, Result.andThen_ok, List.all_cons]
    cases hd : decide (l.getD j 0 = r.getD j 0)
    · simp
    · simp [ih]
theorem all_getD (l r : List UInt8) (hl : l.length = 32) (hr : r.length = 32) : ((List.range 32).all fun j => decide (l.getD j 0 = r.getD j 0)) = decide (l = r) := by
  rw [Bool.eq_iff_iff]
  simp only [List.all_eq_true, List.mem_range, decide_eq_true_eq]
  constructor
  · intro h
    apply List.ext_getElem?
    intro j
    by_cases hj : j < 32
    · have := h j hj
      rw [List.getD_eq_getElem?_getD, List.getD_eq_getElem?_getD, List.getElem?_eq_getElem (by omega), List.getElem?_eq_getElem (by omega)] at this
      rw [List.getElem?_eq_getElem (by omega), List.getElem?_eq_getElem (by omega)]
      exact congrArg some this
    · rw [List.getElem?_eq_none (by omega), List.getElem?_eq_none (by omega)]
  · intro h j _; rw [h]
theorem eqD (l r : List UInt8) (hl : l.length = 32) (hr : r.length = 32) (w : World) : (Op.equalIn 10000 24 (.agg (bcells l)) (.agg (bcells r))).run Tryd.prog w = .ok (decide (l = r)) w := by
  obtain ⟨i, hi⟩ := Tryd.info5
  rw [run_equalIn_array w 9999 _ _ Tryd.under23 hi, run_items_dec w 9998 _ _ l r _ (fun j hj => ?_), all_getD l r hl hr]
  have hj' : j < 32 := by simpa using hj
  exact ⟨bcells_get l j (by omega), bcells_get r j (by omega)⟩
end Go.Proofs.YtiidcnjhjojhoaaDoor
