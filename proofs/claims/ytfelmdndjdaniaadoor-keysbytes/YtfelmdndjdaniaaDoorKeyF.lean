/-
  Laws at an operation under a guard: a signature is loaded, a zero signature or digest is built.
-/
import Derived.Test.YtfelmdndjdaniaaDoorKeyE
namespace Go.Proofs.YtfelmdndjdaniaaDoor
open Go.RowKit
theorem wpList_loadSG {ops : Array Oper} {rest : List Oper} {o : Oper} {a : Act} {w : World} {Q : Exit → Act → World → Prop} (hw : Region.wanted o (yielded ops a.tmps) = true) (x : Operand) (ho : o.op = .load 44 x) (g : Nat)
    (hx : a.eval x = .pointer (some ⟨g, 0, none⟩)) (i : Int) (A : Option Addr) (n c : Nat) (B : Option Addr) (m d : Nat) (hr : Row w g 44 (sigC i A n c B m d))
    (h : wpList Tryd.prog ops Q rest (a.put o.dst (.agg (sigC i A n c B m d))) w) : wpList Tryd.prog ops Q (o :: rest) a w :=
  wpList_of hw fun _ hK => wp_load_mid 44 x ho g 0 hx [.int .i64 i, .slice A n c, .slice B m d] _ hr.range Tryd.underlying44 rfl sizeS (hK _ _ h)
theorem builtS : Tryd.prog.built 44 [] = some sig0 := by kernel_rfl
theorem wpList_buildSG {ops : Array Oper} {rest : List Oper} {o : Oper} {a : Act} {w : World} {Q : Exit → Act → World → Prop} (hw : Region.wanted o (yielded ops a.tmps) = true) (ho : o.op = .build 44 #[])
    (h : wpList Tryd.prog ops Q rest (a.put o.dst (.agg sig0)) w) : wpList Tryd.prog ops Q (o :: rest) a w :=
  have e : Tryd.prog.built 44 ((#[] : Array (Nat × Operand)).map fun (i, x) => (i, a.eval x)).toList = some sig0 := by simp only [List.map_toArray, List.map_nil]; exact builtS
  wpList_of hw fun _ hK => wp_build 44 #[] ho (by rw [e]; rfl) (hK _ _ (by rw [e]; exact h))
theorem wpList_buildZG {ops : Array Oper} {rest : List Oper} {o : Oper} {a : Act} {w : World} {Q : Exit → Act → World → Prop} (hw : Region.wanted o (yielded ops a.tmps) = true) (ho : o.op = .build 23 #[])
    (h : wpList Tryd.prog ops Q rest (a.put o.dst (.agg (bcells zero32))) w) : wpList Tryd.prog ops Q (o :: rest) a w :=
  have e : Tryd.prog.built 23 ((#[] : Array (Nat × Operand)).map fun (i, x) => (i, a.eval x)).toList = some (bcells zero32) := by simp only [List.map_toArray, List.map_nil]; exact built25
  wpList_of hw fun _ hK => wp_build 23 #[] ho (by rw [e]; rfl) (hK _ _ (by rw [e]; exact h))
theorem builtS3 (i : Int) (A : Option Addr) (n c : Nat) (B : Option Addr) (m d : Nat) : Tryd.prog.built 44 [(0, .int .i64 i), (1, .slice A n c), (2, .slice B m d)] = some (sigC i A n c B m d) := by kernel_rfl
theorem yields_buildS {ops : Array Oper} {S : World → Prop} {o : Oper} {a : Act} (hw : Region.wanted o (yielded ops a.tmps) = true) (x y z : Operand) (ho : o.op = .build 44 #[(0, x), (1, y), (2, z)]) (i : Int) (A : Option Addr) (n c : Nat) (B : Option Addr) (m d : Nat)
    (hx : a.eval x = .int .i64 i) (hy : a.eval y = .slice A n c) (hz : a.eval z = .slice B m d) : YieldsIf Tryd.prog ops S o (.agg (sigC i A n c B m d)) a :=
  .inl ⟨hw, fun w _ => by
    unfold execOp
    simp only [ho, List.map_toArray, List.map_cons, List.map_nil, hx, hy, hz, Sem.run_bind, run_build w 44 #[(0, .int .i64 i), (1, .slice A n c), (2, .slice B m d)] _ (builtS3 i A n c B m d), Result.andThen_ok]
    rfl⟩
theorem wpList_buildS {ops : Array Oper} {rest : List Oper} {o : Oper} {a : Act} {w : World} {Q : Exit → Act → World → Prop} (hgd : o.guard = none) (x y z : Operand) (ho : o.op = .build 44 #[(0, x), (1, y), (2, z)]) (i : Int) (A : Option Addr) (n c : Nat) (B : Option Addr) (m d : Nat)
    (hx : a.eval x = .int .i64 i) (hy : a.eval y = .slice A n c) (hz : a.eval z = .slice B m d) (h : wpList Tryd.prog ops Q rest (a.put o.dst (.agg (sigC i A n c B m d))) w) : wpList Tryd.prog ops Q (o :: rest) a w := by
  have e : Tryd.prog.built 44 ((#[(0, x), (1, y), (2, z)] : Array (Nat × Operand)).map fun (i, x) => (i, a.eval x)).toList = some (sigC i A n c B m d) := by
    rw [List.map_toArray]
    simp only [List.map_cons, List.map_nil, hx, hy, hz]
    exact builtS3 i A n c B m d
  refine wpList_build hgd 44 _ ho (by rw [e]; rfl) ?_
  rw [e]
  exact h
theorem wp_storeS {o : Oper} {a : Act} {w : World} {K : Act → World → Prop} {Q : Exit → Act → World → Prop} (hd : o.dst = none) (x y : Operand) (ho : o.op = .store 44 x y) (g : Nat) (cells : Array Value) (hx : a.eval x = .pointer (some ⟨g, 0, none⟩)) (hy : a.eval y = .agg cells) (t : TypeId) (old : Array Value) (hr : Row w g t old) (hn : cells.size = 3) (hold : old.size = 3) (h1 : cells.all (·.oneCell') = true)
    (h : ∀ w', Row w' g t cells → Only g w w' → K a w') : o.wp Tryd.prog a w K Q := by
  refine wp_store_row 44 x y ho g cells hx hy t old hr (by rw [sizeS, hn]) (by rw [hold, hn]) h1 ?_
  rw [hd]
  exact h _ (hr.setRow cells) (Only.setRow g w cells)
/-- []Digest{} -/
theorem wp_emptyE {o : Oper} {a : Act} {w : World} {K : Act → World → Prop} {Q : Exit → Act → World → Prop} (d : Nat) (hd : o.dst = some d) (ho : o.op = .buildSlice 42 0 #[])
    (h : ∀ g w', g = w.heap.size → g < w'.heap.size → OwnD w' w.heap.size (.slice (some ⟨g, 0, none⟩) 0 0) 0 [] → Below w.heap.size w w' → K (a.put (some d) (.slice (some ⟨g, 0, none⟩) 0 0)) w') : o.wp Tryd.prog a w K Q :=
  wp_emptyD ho (fun g w' h1 h2 h3 h4 => by rw [hd]; exact h g w' h1 h2 h3 h4)
theorem OwnD.ne {w w' : World} {base b c g : Nat} (h : OwnD w base (.slice (some ⟨b, 0, none⟩) 0 c) 0 []) (ho : Only g w w') (hbg : b ≠ g) : OwnD w' base (.slice (some ⟨b, 0, none⟩) 0 c) 0 [] := by
  refine ⟨h.1, h.2.1, ?_⟩
  rcases h.2.2 with ⟨hv, _⟩ | ⟨b', cap, cur, hv, hge, hb, hr⟩
  · cases hv
  · obtain rfl : b = b' := by injection hv with h1 h2 h3; injection h1 with h4; injection h4
    exact .inr ⟨b, cap, cur, hv, hge, (ho.block b (Array.getElem?_eq_some_iff.1 hb).1 hbg).trans hb, hr⟩
theorem wp_appDA {o : Oper} {a : Act} {w : World} {K : Act → World → Prop} {Q : Exit → Act → World → Prop} (d : Nat) (hd : o.dst = some d) (s x : Operand) (ho : o.op = .call { callee := .builtin .append, args := #[s, x], argTypes := #[42, 42] })
    (base g c0 : Nat) (hs : a.eval s = .slice (some ⟨g, 0, none⟩) 0 c0) (hown : OwnD w base (.slice (some ⟨g, 0, none⟩) 0 c0) 0 [])
    (A : Option Addr) (m c : Nat) (M : List (List UInt8)) (hx : a.eval x = .slice A m c) (hr : Ds w A m M) (hb : m ≤ 1000000) (hbase : base ≤ w.heap.size)
    (h : ∀ A' c' w', Ds w' A' m M → Only g w w' → (∀ k, k < w.heap.size → k ≠ g → Apart A' (32 * m) k) → K (a.put (some d) (.slice A' m c')) w') : o.wp Tryd.prog a w K Q := by
  rcases Nat.eq_zero_or_pos m with h0 | h0
  · subst h0
    exact wp_appDO s x ho base g c0 hs hown A 0 c M hx hr hb hbase (fun A' c' w' h1 h2 => by rw [hd]; exact h A' c' w' h1 h2 (fun _ _ _ => .inl (by omega)))
  · obtain ⟨i, hi, hz, hsize, hby⟩ := info_parts Tryd.infoD
    obtain ⟨b, off, y, rfl, hblt, hy, hc⟩ := hr.2.2.get (k := 0) (by omega)
    obtain ⟨v', w', hrun, h2, h3, _, h5⟩ := run_append_own_at (P := Tryd.prog) w base 42 o.type 23 i (.agg (bcells zero32)) 32 32 Tryd.under24 hi hz hsize hby rfl (by omega) _ 0 _ hown.2 ⟨b, off, none⟩ m c ((flat M).map bcell) (by rw [List.length_map, hr.2.2.1]; omega)
      (fun j u hu => by rw [Addr.add_mid]; exact hr.2.2.range j u hu)
      (by intro u hu; simp only [List.mem_map] at hu; obtain ⟨y, _, rfl⟩ := hu; rfl) (by simp only [maxLen]; omega) (by omega) hbase
    rw [Nat.zero_add] at h2
    have h2' : OwnD w' base v' m M := ⟨hr.2.1, by simpa [flat] using h2⟩
    have ho2 : Only g w w' := ⟨h3.os, h3.tape, h3.output, h3.size, fun k hk hne => h3.block k hk (by simp [Value.ownBlock, hne])⟩
    rcases h2'.2.2 with ⟨hv, hn⟩ | ⟨b', cap, cur, hv, _⟩
    · omega
    · subst hv
      unfold Oper.wp execOp
      simp only [ho, resolve, invoke, builtin, Sem.run_bind, Sem.run_pure, Result.andThen_ok, List.map_toArray, List.map_cons, List.map_nil, hs, hx, hrun]
      show K (a.put o.dst _) w'
      rw [hd]
      refine h _ cap w' h2'.ds ho2 (fun k hk hne => .inr ⟨b', 0, rfl, ?_⟩)
      simp only [Value.ownBlock, Option.some.injEq] at h5
      rcases h5 with h5 | h5
      · rw [h5]; exact fun e => hne e.symm
      · omega
/-- the document's key: a seed, bits, a height, the next index -/
def rkC (s : List UInt8) (b h nx : Nat) : Array Value := bcells s ++ #[.int .i64 (b : Int), .int .i64 (h : Int), .int .i64 (nx : Int)]
theorem rkC_size {s : List UInt8} {b h nx : Nat} (hs : s.length = 32) : (rkC s b h nx).size = 35 := by simp [rkC, bcells_size, hs]
theorem rkC_32 {s : List UInt8} {b h nx : Nat} (hs : s.length = 32) : (rkC s b h nx)[32]? = some (.int .i64 (b : Int)) := by simp [rkC, bcells_size, hs]
theorem rkC_33 {s : List UInt8} {b h nx : Nat} (hs : s.length = 32) : (rkC s b h nx)[33]? = some (.int .i64 (h : Int)) := by simp [rkC, bcells_size, hs]
theorem rkC_34 {s : List UInt8} {b h nx : Nat} (hs : s.length = 32) : (rkC s b h nx)[34]? = some (.int .i64 (nx : Int)) := by simp [rkC, bcells_size, hs]
theorem rkC_set {s : List UInt8} {b h nx : Nat} (n2 : Nat) (hs : s.length = 32) : (rkC s b h nx).setIfInBounds 34 (.int .i64 (n2 : Int)) = rkC s b h n2 := by
  apply Array.ext'
  simp only [rkC, Array.toList_setIfInBounds, Array.toList_append, bcells]
  rw [List.set_append_right _ _ (by simp [hs])]
  simp [hs]
theorem rk_range {w : World} {g b h nx : Nat} {s : List UInt8} (k : Row w g 32 (rkC s b h nx)) : w.rangeAt g 0 (s.map bcell) := fun j v hv => by
  have hj : j < s.length := by have := (List.getElem?_eq_some_iff.1 hv).1; simpa using this
  rw [Nat.zero_add, k.cell j, rkC, Array.getElem?_append_left (by rw [bcells_size]; exact hj), bcells_get?, ← List.getElem?_map]; exact hv
theorem builtK : ∀ (s : List UInt8) (b h : Nat), s.length = 32 → Tryd.prog.built 32 [(0, .agg (bcells s)), (1, .int .i64 (b : Int)), (2, .int .i64 (h : Int))] = some (rkC s b h 0)
  | [b0, b1, b2, b3, b4, b5, b6, b7, b8, b9, b10, b11, b12, b13, b14, b15, b16, b17, b18, b19, b20, b21, b22, b23, b24, b25, b26, b27, b28, b29, b30, b31], b, h, _ => by kernel_rfl
theorem wpList_buildK {ops : Array Oper} {rest : List Oper} {o : Oper} {a : Act} {w : World} {Q : Exit → Act → World → Prop} (hgd : o.guard = none) (x y z : Operand) (ho : o.op = .build 32 #[(0, x), (1, y), (2, z)]) (s : List UInt8) (b h : Nat) (hs : s.length = 32)
    (hx : a.eval x = .agg (bcells s)) (hy : a.eval y = .int .i64 (b : Int)) (hz : a.eval z = .int .i64 (h : Int)) (k : wpList Tryd.prog ops Q rest (a.put o.dst (.agg (rkC s b h 0))) w) : wpList Tryd.prog ops Q (o :: rest) a w := by
  have e : Tryd.prog.built 32 ((#[(0, x), (1, y), (2, z)] : Array (Nat × Operand)).map fun (i, x) => (i, a.eval x)).toList = some (rkC s b h 0) := by
    rw [List.map_toArray]
    simp only [List.map_cons, List.map_nil, hx, hy, hz]
    exact builtK s b h hs
  refine wpList_build hgd 32 _ ho (by rw [e]; rfl) ?_
  rw [e]
  exact k
theorem yields_fld32 {ops : Array Oper} {S : World → Prop} {o : Oper} {a : Act} (hw : Region.wanted o (yielded ops a.tmps) = true) (x : Operand) (k : Nat) (ho : o.op = .fieldAddr 32 x k) (hk : k = 0 ∨ k = 1 ∨ k = 2 ∨ k = 3) (g : Nat)
    (hx : a.eval x = .pointer (some ⟨g, 0, none⟩)) : YieldsIf Tryd.prog ops S o (.pointer (some ⟨g, if k = 0 then 0 else 31 + k, none⟩)) a :=
  .inl ⟨hw, fun w _ => by
    unfold execOp
    simp only [ho, hx]
    rcases hk with rfl | rfl | rfl | rfl <;> go_simp⟩
end Go.Proofs.YtfelmdndjdaniaaDoor
