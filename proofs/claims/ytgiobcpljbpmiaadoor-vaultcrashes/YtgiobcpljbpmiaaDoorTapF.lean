/-
  A nil tape's answers; a copy of numbers; literals of bytes and numbers; Same.
-/
import Derived.Test.YtgiobcpljbpmiaaDoorTapE
namespace Go.Proofs.YtgiobcpljbpmiaaDoor
open Go.RowKit
set_option maxRecDepth 100000 in
theorem App_nil (z : Int) (v : Value) (w : World) : Calls Tryd.prog 29 #[.pointer none, .int .i64 z, v] w fun e w' => e = .returned (.int .i64 2) ∧ w = w' := by
  go_enter Tryd.func29, Tryd.ntmps29
  go_wp2_with (go_at_call 42; refine (file_nil z _).mono ?_; rintro e1 w1 ⟨rfl, rfl⟩)
  go_ret
  exact ⟨rfl, rfl⟩
set_option maxRecDepth 100000 in
theorem Cut_nil (z n : Int) (w : World) : Calls Tryd.prog 53 #[.pointer none, .int .i64 z, .int .i64 n] w fun e w' => e = .returned (.int .i64 2) ∧ w = w' := by
  go_enter Tryd.func53, Tryd.ntmps53
  go_wp2_with (go_at_call 42; refine (file_nil z _).mono ?_; rintro e1 w1 ⟨rfl, rfl⟩)
  go_ret
  exact ⟨rfl, rfl⟩
set_option maxRecDepth 100000 in
theorem Sync_nil (z : Int) (w : World) : Calls Tryd.prog 55 #[.pointer none, .int .i64 z] w fun e w' => e = .returned (.int .i64 2) ∧ w = w' := by
  go_enter Tryd.func55, Tryd.ntmps55
  go_wp2_with (go_at_call 42; refine (file_nil z _).mono ?_; rintro e1 w1 ⟨rfl, rfl⟩)
  go_ret
  exact ⟨rfl, rfl⟩
set_option maxRecDepth 100000 in
theorem Read_nil (z : Int) (w : World) : Calls Tryd.prog 31 #[.pointer none, .int .i64 z] w fun e w' => e = .returned (.tuple #[.slice none 0 0, .int .i64 2]) ∧ w = w' := by
  go_enter Tryd.func31, Tryd.ntmps31
  go_wp2_with (go_at_call 42; refine (file_nil z _).mono ?_; rintro e1 w1 ⟨rfl, rfl⟩)
  go_ret2
  exact ⟨rfl, rfl⟩
set_option maxRecDepth 100000 in
theorem Fuse_nil (n : Int) (w : World) : Calls Tryd.prog 17 #[.pointer none, .int .i64 n] w fun e w' => e = .returned (.tuple #[]) ∧ w = w' := by
  go_enter Tryd.func17, Tryd.ntmps17
  go_wp2
  exact bodyPost_end (v := .tuple #[]) (by simp [results, Tryd.results17]) rfl ⟨rfl, rfl⟩
set_option maxRecDepth 100000 in
theorem Down_nil (w : World) : Calls Tryd.prog 18 #[.pointer none] w fun e w' => e = .returned (.bool true) ∧ w = w' := by
  go_enter Tryd.func18, Tryd.ntmps18
  go_wp2
  go_ret
  exact ⟨rfl, rfl⟩
set_option maxRecDepth 100000 in
theorem Crash_nil (v : Value) (w : World) : Calls Tryd.prog 15 #[.pointer none, v] w fun e w' => e = .returned (.pointer none) ∧ w = w' := by
  go_enter Tryd.func15, Tryd.ntmps15
  go_wp2
  go_ret
  exact ⟨rfl, rfl⟩
/-- append([]int{}, kept...) -/
theorem run_copyI (ty : TypeId) (w : World) (A : Option Addr) (n c : Nat) (zs : List Int) (h : Is w A n zs) (hn : n ≤ 1000000) :
    ∃ A' c' w', (Builtin.append_ #[37, 37] ty #[.slice (some ⟨w.heap.size, 0, none⟩) 0 0, .slice A n c]).run Tryd.prog (w.alloc (.cells #[] 3)) = .ok (.slice A' n c') w' ∧ Is w' A' n zs ∧ Below w.heap.size w w' := by
  obtain ⟨i, hi, hz, hsize, hby⟩ := info_parts (show (Tryd.prog.info? 3).map (fun i => (i.zero, i.size, i.bytes)) = some (some (.int .i64 0), 1, 8) by kernel_rfl)
  have hb0 : Below w.heap.size w (w.alloc (.cells #[] 3)) := (Below.refl _ _).alloc (Nat.le_refl _) _
  have hI := h.below hb0
  rcases Nat.eq_zero_or_pos n with h0 | h0
  · subst h0
    refine ⟨some ⟨w.heap.size, 0, none⟩, 0, _, ?_, ⟨h.1, fun k z hk => ?_⟩, hb0⟩
    · rcases A with _ | a
      · simp [Builtin.append_, run_underlying Tryd.underlying37, sizeOf, typeInfo, hi, Builtin.lenOf, Builtin.firstCells, storeCells]
      · simp [Builtin.append_, run_underlying Tryd.underlying37, sizeOf, typeInfo, hi, Builtin.lenOf, Builtin.firstCells, storeCells, loadCells, loadCellsFrom]
    · have := (List.getElem?_eq_some_iff.1 hk).1
      have := h.1
      omega
  · obtain ⟨b, off, x, rfl, hblt, hx, hc, _⟩ := hI.get h0
    have hown : (w.alloc (.cells #[] 3)).ownsRow w.heap.size 3 1 (.slice (some ⟨w.heap.size, 0, none⟩) 0 0) 0 [] := World.ownsRow_made w #[] 0 (Nat.le_refl _) (by decide) rfl
    obtain ⟨v', w', hrun, h2, h3, _, h5⟩ := run_append_own_at (P := Tryd.prog) (w := w.alloc (.cells #[] 3)) w.heap.size 37 ty 3 i (.int .i64 0) 1 8 Tryd.underlying37 hi hz hsize hby rfl (by omega) _ 0 _ hown ⟨b, off, none⟩ n c (zs.map fun z => Value.int .i64 z) (by rw [List.length_map, Nat.mul_one]; exact h.1)
      (fun j u hu => by
        rw [List.getElem?_map] at hu
        cases hj : zs[j]? with
        | none => rw [hj] at hu; cases hu
        | some y =>
          rw [hj] at hu
          simp only [Option.map_some, Option.some.injEq] at hu
          obtain ⟨b', off', e', _, hc', _⟩ := hI.2 j y hj
          simp only [Option.some.injEq, Addr.mk.injEq, and_true] at e'
          obtain ⟨rfl, rfl⟩ := e'
          rw [Addr.add_mid, hc', hu])
      (fun u hu => by simp only [List.mem_map] at hu; obtain ⟨y, _, rfl⟩ := hu; rfl) (by simp only [maxLen]; omega) (by omega) (by simp)
    rw [Nat.zero_add, List.nil_append] at h2
    have hbel : Below w.heap.size w w' := hb0.trans ((Below.refl w.heap.size _).grown h3 (by simp) (fun k hk => (hown.lt k hk).1))
    rcases h2.2 with ⟨hv, hn0⟩ | ⟨g, cap, cur, hv, hb, hg, hnc, hcm, hcs, ht⟩
    · omega
    · subst hv
      refine ⟨_, _, w', hrun, ⟨h.1, fun k z hk => ?_⟩, hbel⟩
      have hkl : k < n := by have := (List.getElem?_eq_some_iff.1 hk).1; have := h.1; omega
      obtain ⟨_, _, _, _, _, hlo, hhi⟩ := h.2 k z hk
      refine ⟨g, 0, rfl, (Array.getElem?_eq_some_iff.1 hg).1, ?_, hlo, hhi⟩
      have hk2 : (zs.map fun z => Value.int .i64 z)[k]? = some (.int .i64 z) := by rw [List.getElem?_map, hk]; rfl
      rw [cell_of_row w' g (0 + k) cur 3 (0, 0) hg, Nat.zero_add, ← hk2, ← ht, List.getElem?_take, if_pos (by omega)]; simp
theorem wpList_copyI {ops : Array Oper} {rest : List Oper} {o : Oper} {a : Act} {w : World} {Q : Exit → Act → World → Prop} (hgd : o.guard = none) (s x : Operand) (ho : o.op = .call { callee := .builtin .append, args := #[s, x], argTypes := #[37, 37] })
    (hs : a.eval s = .slice (some ⟨w.heap.size, 0, none⟩) 0 0) (A : Option Addr) (n c : Nat) (zs : List Int) (hx : a.eval x = .slice A n c) (hr : Is w A n zs) (hn : n ≤ 1000000)
    (h : ∀ A' c' w', Is w' A' n zs → Below w.heap.size w w' → wpList Tryd.prog ops Q rest (a.put o.dst (.slice A' n c')) w') : wpList Tryd.prog ops Q (o :: rest) a (w.alloc (.cells #[] 3)) := by
  obtain ⟨A', c', w', hrun, h1, h2⟩ := run_copyI o.type w A n c zs hr hn
  refine wpList_plain hgd fun K hK => ?_
  unfold Oper.wp execOp
  simp only [ho, resolve, invoke, builtin, Sem.run_bind, Sem.run_pure, Result.andThen_ok, List.map_toArray, List.map_cons, List.map_nil, hs, hx, hrun]
  exact hK _ _ (h A' c' w' h1 h2)
theorem litB (w : World) (cs : Array Value) (n : Nat) (l : List UInt8) (hl : l.length = n) (hs : cs.size = n) (hn : n ≤ 1000000) (hc : ∀ (j : Nat) x, l[j]? = some x → cs[j]? = some (.int .u8 (x.toNat : Int))) : Bs (w.alloc (.cells cs 5)) (some ⟨w.heap.size, 0, none⟩) n l :=
  ((Row.new w 5 cs).own (base := w.heap.size) (Nat.le_refl _) hl hs (by omega) hc).bs
theorem litI (w : World) (cs : Array Value) (n : Nat) (zs : List Int) (hl : zs.length = n) (hc : ∀ (j : Nat) z, zs[j]? = some z → cs[j]? = some (.int .i64 z) ∧ -9223372036854775808 ≤ z ∧ z < 9223372036854775808) : Is (w.alloc (.cells cs 3)) (some ⟨w.heap.size, 0, none⟩) n zs :=
  ⟨hl, fun k z hk => ⟨w.heap.size, 0, rfl, by simp, by rw [(Row.new w 3 cs).cell (0 + k), Nat.zero_add]; exact (hc k z hk).1, (hc k z hk).2⟩⟩
/-- a literal's block is none of an older tape's -/
theorem lit_foot {w : World} {g : Nat} {F : Nat → Nat → Prop} {S : Tp} (h : Tap w g F S) {B : Nat} (hB : w.heap.size ≤ B) : ∀ b off, (some ⟨B, 0, none⟩ : Option Addr) = some ⟨b, off, none⟩ → ¬ Foot g F b := fun b off e q => by
  injection e with e
  injection e with e
  have := h.foot q
  omega
end Go.Proofs.YtgiobcpljbpmiaaDoor
