/-
  Steps in memory, the program's and the document's: a slice of steps reads as a list; append, index, literal, cut, clear at the operations.
-/
import Derived.Test.YtgiobcpljbpmiaaDoorKit
import Derived.Test.YtgiobcpljbpmiaaDoorSteps
namespace Go.Proofs.YtgiobcpljbpmiaaDoor
open Go.RowKit
/-- a step's cells, the program's and the document's -/
def stpC : Stp → List Value
  | .app b => [.int .i32 0, .bool false, .int .u8 (b.toNat : Int)]
  | .cut n => [.int .i32 (n : Int), .bool true, .int .u8 0]
def stpR : Stp → List Value
  | .app b => [.int .u8 (b.toNat : Int), .int .i64 (-1)]
  | .cut n => [.int .u8 0, .int .i64 (n : Int)]
structure StK (t e k y : Nat) (z : Value) (enc : Stp → List Value) : Prop where
  ht : Tryd.prog.underlying t = some (.slice e)
  hi : (Tryd.prog.info? e).map (fun i => (i.zero, i.size, i.bytes)) = some (some z, k, y)
  hz : z.cells.size = k
  pos : 0 < k
  byl : y ≤ 64
  kl : k ≤ 64
  len : ∀ s, (enc s).length = k
  one : ∀ s v, v ∈ enc s → v.oneCell' = true
theorem Tryd.stP : StK 61 83 3 8 (.agg #[.int .i32 0, .bool false, .int .u8 0]) stpC :=
  ⟨Tryd.underlying61, by kernel_rfl, rfl, by decide, by decide, by decide, fun s => by cases s <;> rfl, fun s v h => by cases s <;> simp [stpC] at h <;> rcases h with rfl | rfl | rfl <;> rfl⟩
section
variable {t e k y : Nat} {z : Value} {enc : Stp → List Value}
theorem StK.flat_length (E : StK t e k y z enc) : ∀ S : List Stp, (S.flatMap enc).length = S.length * k
  | [] => by simp
  | s :: S => by rw [List.flatMap_cons, List.length_append, E.flat_length S, E.len, List.length_cons, Nat.add_mul]; omega
theorem StK.flat_get (E : StK t e k y z enc) : ∀ (S : List Stp) (j i : Nat) (s : Stp), S[j]? = some s → i < k → (S.flatMap enc)[k * j + i]? = (enc s)[i]?
  | [], j, i, s, h, _ => by simp at h
  | s0 :: S, 0, i, s, h, hi => by
    simp at h; subst h
    rw [List.flatMap_cons, List.getElem?_append_left (by rw [E.len]; omega)]; simp
  | s0 :: S, j + 1, i, s, h, hi => by
    rw [List.flatMap_cons, List.getElem?_append_right (by rw [E.len, Nat.mul_succ]; omega), E.len, ← E.flat_get S j i s (by simpa using h) hi]
    congr 1
    rw [Nat.mul_succ]; omega
/-- a slice of steps in a block of an object's own -/
def OwnS (_E : StK t e k y z enc) (w : World) (v : Value) (n : Nat) (S : List Stp) : Prop := w.ownsRow 0 e k v n (S.flatMap enc)
theorem OwnS.nil (E : StK t e k y z enc) (w : World) : OwnS E w (.slice none 0 0) 0 [] := World.ownsRow_nil w 0 e k
theorem OwnS.length {E : StK t e k y z enc} {w : World} {v : Value} {n : Nat} {S : List Stp} (h : OwnS E w v n S) : S.length = n := by
  have := h.1
  rw [E.flat_length] at this
  exact Nat.eq_of_mul_eq_mul_right E.pos this
theorem OwnS.form {E : StK t e k y z enc} {w : World} {v : Value} {n : Nat} {S : List Stp} (h : OwnS E w v n S) : ∃ A c, v = .slice A n c ∧ n ≤ c := by
  rcases h.2 with ⟨hv, hn⟩ | ⟨g, cap, cur, hv, _, hg, hnc, _, hcs, ht⟩
  · exact ⟨none, 0, by rw [hv, hn], by omega⟩
  · exact ⟨_, _, hv, hnc⟩
/-- a slice of steps reads as S -/
def Ss (k : Nat) (enc : Stp → List Value) (w : World) (A : Option Addr) (n : Nat) (S : List Stp) : Prop :=
  S.length = n ∧ ∀ j s, S[j]? = some s → ∃ b, A = some ⟨b, 0, none⟩ ∧ b < w.heap.size ∧ w.rangeAt b (k * j) (enc s)
theorem OwnS.ss {E : StK t e k y z enc} {w : World} {A : Option Addr} {n c : Nat} {S : List Stp} (h : OwnS E w (.slice A n c) n S) : Ss k enc w A n S := by
  refine ⟨h.length, fun j s hj => ?_⟩
  have hlt : j < n := by have := (List.getElem?_eq_some_iff.1 hj).1; rw [h.length] at this; exact this
  rcases h.2 with ⟨hv, hn⟩ | ⟨g, cap, cur, hv, _, hg, hnc, _, hcs, ht⟩
  · omega
  · injection hv with q1 q2 q3
    subst q1
    refine ⟨g, rfl, (Array.getElem?_eq_some_iff.1 hg).1, fun i v hi => ?_⟩
    have hik : i < k := by have := (List.getElem?_eq_some_iff.1 hi).1; rwa [E.len] at this
    have hm : k * j + i < n * k := by
      have : k * (j + 1) ≤ k * n := Nat.mul_le_mul_left k hlt
      rw [Nat.mul_succ] at this
      rw [Nat.mul_comm n k]; omega
    rw [cell_of_row w g (k * j + i) cur e (0, 0) hg, ← hi, ← E.flat_get S j i s hj hik, ← ht, List.getElem?_take, if_pos hm]; simp
theorem Ss.take {w : World} {A : Option Addr} {n m : Nat} {S : List Stp} (h : Ss k enc w A n S) (hm : m ≤ n) : Ss k enc w A m (S.take m) :=
  ⟨by rw [List.length_take, h.1]; omega, fun j s hj => h.2 j s (by
    rw [List.getElem?_take] at hj
    split at hj
    · exact hj
    · cases hj)⟩
theorem Ss.keep {w w' : World} {A : Option Addr} {n : Nat} {S : List Stp} (h : Ss k enc w A n S) (hs : w.heap.size ≤ w'.heap.size) (hk : ∀ b off, A = some ⟨b, off, none⟩ → b < w.heap.size → w'.heap[b]? = w.heap[b]?) : Ss k enc w' A n S :=
  ⟨h.1, fun j s hj => by
    obtain ⟨b, e, hb, hr⟩ := h.2 j s hj
    exact ⟨b, e, Nat.lt_of_lt_of_le hb hs, fun i v hi => (World.cell?_of_block (a := ⟨b, k * j + i, none⟩) (hk b 0 e hb)).trans (hr i v hi)⟩⟩
theorem Ss.below {w w' : World} {A : Option Addr} {n : Nat} {S : List Stp} (h : Ss k enc w A n S) (hb : Below w.heap.size w w') : Ss k enc w' A n S := h.keep hb.size fun b _ _ hlt => hb.block b hlt
theorem Ss.drewN {w : World} {A : Option Addr} {n : Nat} {S : List Stp} (h : Ss k enc w A n S) (m : Nat) : Ss k enc (w.drewN m) A n S := h
theorem Ss.get {w : World} {A : Option Addr} {n j : Nat} {S : List Stp} (h : Ss k enc w A n S) (hj : j < n) : ∃ b s, A = some ⟨b, 0, none⟩ ∧ b < w.heap.size ∧ S[j]? = some s ∧ w.rangeAt b (k * j) (enc s) := by
  have hl : j < S.length := by rw [h.1]; exact hj
  obtain ⟨b, e, hb, hr⟩ := h.2 j S[j] (List.getElem?_eq_getElem hl)
  exact ⟨b, S[j], e, hb, List.getElem?_eq_getElem hl, hr⟩
/-- append(steps, s) -/
theorem StK.run_app (E : StK t e k y z enc) (ty : TypeId) (w : World) (v : Value) (n : Nat) (S : List Stp) (h : OwnS E w v n S) (s : Stp)
    (b off c : Nat) (hr : w.rangeAt b off (enc s)) (hn : n + 1 ≤ 1000000000) :
    ∃ A' c' w', (Builtin.append_ #[t, t] ty #[v, .slice (some ⟨b, off, none⟩) 1 c]).run Tryd.prog w = .ok (.slice A' (n + 1) c') w' ∧ OwnS E w' (.slice A' (n + 1) c') (n + 1) (S ++ [s]) ∧ w.grownBy w' v.ownBlock ∧ ((Value.slice A' (n + 1) c').ownBlock = v.ownBlock ∨ (Value.slice A' (n + 1) c').ownBlock = some w.heap.size) := by
  obtain ⟨i, hi, hz, hsize, hby⟩ := info_parts E.hi
  have hyl := E.byl
  have hb : (n + 1) * y ≤ 140737488355328 := Nat.le_trans (Nat.mul_le_mul hn hyl) (by decide)
  obtain ⟨v', w', hrun, h2, h3, _, h5⟩ := run_append_own_at (P := Tryd.prog) w 0 t ty e i z k y E.ht hi hz hsize hby E.hz E.pos v n _ h ⟨b, off, none⟩ 1 c (enc s) (by rw [E.len, Nat.one_mul])
    (fun j u hu => by rw [Addr.add_mid]; exact hr j u hu) (E.one s) (by simp only [maxLen]; omega) hb (Nat.zero_le _)
  have h2' : OwnS E w' v' (n + 1) (S ++ [s]) := by unfold OwnS; rw [List.flatMap_append, List.flatMap_singleton]; exact h2
  obtain ⟨A', c', rfl, _⟩ := h2'.form
  exact ⟨A', c', w', hrun, h2', h3, h5⟩
theorem StK.wp_app (E : StK t e k y z enc) {o : Oper} {a : Act} {w : World} {K : Act → World → Prop} {Q : Exit → Act → World → Prop} (x1 x2 : Operand) (ho : o.op = .call { callee := .builtin .append, args := #[x1, x2], argTypes := #[t, t] })
    (v : Value) (n : Nat) (S : List Stp) (hs : a.eval x1 = v) (hown : OwnS E w v n S) (s : Stp) (b off c : Nat) (hx : a.eval x2 = .slice (some ⟨b, off, none⟩) 1 c) (hr : w.rangeAt b off (enc s)) (hn : n + 1 ≤ 1000000000)
    (h : ∀ A' c' w', OwnS E w' (.slice A' (n + 1) c') (n + 1) (S ++ [s]) → w.grownBy w' v.ownBlock → ((Value.slice A' (n + 1) c').ownBlock = v.ownBlock ∨ (Value.slice A' (n + 1) c').ownBlock = some w.heap.size) → K (a.put o.dst (.slice A' (n + 1) c')) w') : o.wp Tryd.prog a w K Q := by
  obtain ⟨A', c', w', hrun, h2, h3, h4⟩ := E.run_app o.type w v n S hown s b off c hr hn
  unfold Oper.wp execOp
  simp only [ho, resolve, invoke, builtin, Sem.run_bind, Sem.run_pure, Result.andThen_ok, List.map_toArray, List.map_cons, List.map_nil, hs, hx, hrun]
  exact h A' c' w' h2 h3 h4
/-- a literal slice of one step -/
theorem StK.run_build (E : StK t e k y z enc) (s : Stp) (w : World) : (Instr.buildSlice t 1 #[(0, .agg (enc s).toArray)]).run Tryd.prog w = .ok (.slice (some ⟨w.heap.size, 0, none⟩) 1 1) (w.alloc (.cells (enc s).toArray e)) := by
  obtain ⟨i, hi, hz, hsize, hby⟩ := info_parts E.hi
  have hk := E.pos
  have hkl := E.kl
  refine run_buildSlice w t e 1 _ _ i _ E.ht hi hz (by rw [hsize]; omega) (by rw [hsize]; omega) ?_
  rw [hsize]
  have hf := Great.fill_whole (s := k) hk [.agg (enc s).toArray] ((Array.range (1 * k)).map (z.cells[· % z.cells.size]!))
    (fun v hv => by simp at hv; rw [hv]; simp [Value.cells, E.len]) (by simp)
  have e1 : (([.agg (enc s).toArray] : List Value).flatMap fun v => v.cells.toList).toArray = (enc s).toArray := by
    simp [Value.cells]
  rw [e1] at hf
  exact hf
theorem StK.wp_build (E : StK t e k y z enc) {o : Oper} {a : Act} {w : World} {K : Act → World → Prop} {Q : Exit → Act → World → Prop} (x : Operand) (ho : o.op = .buildSlice t 1 #[(0, x)]) (s : Stp)
    (hx : a.eval x = .agg (enc s).toArray) (h : ∀ g w', g = w.heap.size → Row w' g e (enc s).toArray → Below w.heap.size w w' → K (a.put o.dst (.slice (some ⟨g, 0, none⟩) 1 1)) w') : o.wp Tryd.prog a w K Q := by
  unfold Oper.wp execOp
  simp only [ho, List.map_toArray, List.map_cons, List.map_nil, hx, Sem.run_bind, E.run_build s, Result.andThen_ok]
  exact h _ _ rfl (Row.new w e _) ((Below.refl _ _).alloc (Nat.le_refl _) _)
/-- x[:m] of any slice -/
theorem StK.run_size (E : StK t e k y z enc) (w : World) : (sizeOf e).run Tryd.prog w = .ok k w := by
  obtain ⟨i, hi, hz, hsize, hby⟩ := info_parts E.hi
  simp [sizeOf, typeInfo, hi, hsize]
theorem StK.run_index (E : StK t e k y z enc) (b n c j : Nat) (i : Int) (hi : i = j) (hj : j < n) (w : World) : (Instr.indexAt t (.slice (some ⟨b, 0, none⟩) n c) (.int .i64 i)).run Tryd.prog w = .ok (.pointer (some ⟨b, k * j, none⟩)) w := by
  subst hi
  have h1 : (0 : Int) ≤ (j : Int) ∧ (j : Int) < (n : Int) := by omega
  simp [Instr.indexAt, asIntOf, run_underlying E.ht, h1, Addr.add_mid, hj, E.run_size, Nat.mul_comm]
theorem StK.wpList_index (E : StK t e k y z enc) {ops : Array Oper} {rest : List Oper} {o : Oper} {a : Act} {w : World} {Q : Exit → Act → World → Prop} (hgd : o.guard = none) (x1 x2 : Operand) (ho : o.op = .indexAddr t x1 x2) (b n c j : Nat) (i : Int)
    (hx : a.eval x1 = .slice (some ⟨b, 0, none⟩) n c) (hy : a.eval x2 = .int .i64 i) (hi : i = j) (hj : j < n)
    (h : wpList Tryd.prog ops Q rest (a.put o.dst (.pointer (some ⟨b, k * j, none⟩))) w) : wpList Tryd.prog ops Q (o :: rest) a w :=
  wpList_plain hgd fun _ hK => by
    unfold Oper.wp execOp
    simp only [ho, hx, hy, Sem.run_bind, E.run_index b n c j i hi hj, Result.andThen_ok]
    exact hK _ _ h
end
theorem addr_zero (a : Addr) (n : Nat) (h : n = 0) : a.add n = a := by subst h; rfl
theorem run_headV {t e s : TypeId} (ht : Tryd.prog.underlying t = some (.slice e)) (hs : ∀ w, (sizeOf e).run Tryd.prog w = .ok s w) (A : Option Addr) (n c m : Nat) (kd : IntKind) (i : Int) (hi : i = m) (hm : m ≤ c) (w : World) :
    (Instr.sliceAt t (.slice A n c) none (some (.int kd i)) none).run Tryd.prog w = .ok (.slice A m c) w := by
  subst hi
  have h2 : (m : Int) ≤ c := by omega
  have h3 : ∀ x : Addr, x.add 0 = x := fun x => rfl
  cases A <;> simp [Instr.sliceAt, Instr.slice, run_underlying ht, Instr.sliceBounds, run_sliceBound, h2, hs, h3]
theorem wpList_headV {t e s : TypeId} (ht : Tryd.prog.underlying t = some (.slice e)) (hs : ∀ w, (sizeOf e).run Tryd.prog w = .ok s w) {ops : Array Oper} {rest : List Oper} {o : Oper} {a : Act} {w : World} {Q : Exit → Act → World → Prop} (hgd : o.guard = none) (x1 x2 : Operand) (ho : o.op = .slice t x1 none (some x2) none)
    (A : Option Addr) (n c m : Nat) (kd : IntKind) (i : Int) (hx : a.eval x1 = .slice A n c) (hy : a.eval x2 = .int kd i) (hi : i = m) (hm : m ≤ c)
    (h : wpList Tryd.prog ops Q rest (a.put o.dst (.slice A m c)) w) : wpList Tryd.prog ops Q (o :: rest) a w :=
  wpList_plain hgd fun _ hK => by
    unfold Oper.wp execOp
    simp [ho, hx, hy, run_headV ht hs A n c m kd i hi hm, Result.andThen]
    exact hK _ _ h
theorem Tryd.sizeB (w : World) : (sizeOf 5).run Tryd.prog w = .ok 1 w := by
  obtain ⟨i, hi, hz, hsize, hby⟩ := info_parts (show (Tryd.prog.info? 5).map (fun i => (i.zero, i.size, i.bytes)) = some (some (.int .u8 0), 1, 1) by kernel_rfl)
  simp [sizeOf, typeInfo, hi, hsize]
/-- a slice that is cut stays in its block -/
theorem ownsRow_cut {w : World} {base e k : Nat} {A : Option Addr} {n c m : Nat} {xs : List Value} (h : w.ownsRow base e k (.slice A n c) n xs) (hm : m ≤ n) : w.ownsRow base e k (.slice A m c) m (xs.take (m * k)) := by
  have hmk : m * k ≤ n * k := Nat.mul_le_mul_right k hm
  refine ⟨by rw [List.length_take, h.1]; omega, ?_⟩
  rcases h.2 with ⟨hv, hn⟩ | ⟨g, cap, cur, hv, hb, hg, hnc, hcm, hcs, ht⟩
  · injection hv with q1 q2 q3
    left
    subst q1 q2 q3
    exact ⟨by rw [show m = 0 by omega], by omega⟩
  · injection hv with q1 q2 q3
    subst q1 q3
    exact .inr ⟨g, c, cur, rfl, hb, hg, by omega, hcm, hcs, by rw [← ht, List.take_take, Nat.min_eq_left hmk]⟩
theorem Own.cut {w : World} {base e : Nat} {A : Option Addr} {n c m : Nat} {l : List UInt8} (h : Own w base e (.slice A n c) n l) (hm : m ≤ n) : Own w base e (.slice A m c) m (l.take m) := by
  have := ownsRow_cut h hm
  rw [Nat.mul_one, ← List.map_take] at this
  exact this
end Go.Proofs.YtgiobcpljbpmiaaDoor
