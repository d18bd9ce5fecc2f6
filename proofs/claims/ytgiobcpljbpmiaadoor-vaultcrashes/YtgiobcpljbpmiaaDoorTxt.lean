/-
  Ledgers in memory: what lies in the blocks of a ledger (its object, its slice of digests, its slice of leaves, the leaves), the program's and the document's; what stays of it where other blocks are written; append onto its two slices.
-/
import Derived.Test.YtgiobcpljbpmiaaDoorKit
import Derived.Test.YtgiobcpljbpmiaaDoorWireB
namespace Go.Proofs.YtgiobcpljbpmiaaDoor
open Go.RowKit
/-- a slice of texts in the blocks F, each text in them -/
def Texts (w : World) (F : Nat → Prop) (v : Value) (n : Nat) (L : List (List UInt8)) : Prop :=
  ∃ vs, w.ownsRow 0 32 1 v n vs ∧ (∀ b, v.ownBlock = some b → F b) ∧ vs.length = L.length ∧ ∀ (k : Nat) (x : Value) (l : List UInt8), vs[k]? = some x → L[k]? = some l → Own w 0 5 x l.length l ∧ ∀ b, x.ownBlock = some b → F b
theorem Texts.nil (w : World) (F : Nat → Prop) : Texts w F (.slice none 0 0) 0 [] := ⟨[], World.ownsRow_nil _ _ _ _, fun b h => by simp [Value.ownBlock] at h, rfl, fun k x l h => by simp at h⟩
theorem Texts.mono {w : World} {F F' : Nat → Prop} {v : Value} {n : Nat} {L : List (List UInt8)} (h : Texts w F v n L) (hF : ∀ b, F b → F' b) : Texts w F' v n L := by
  obtain ⟨vs, h1, h2, h3, h4⟩ := h
  exact ⟨vs, h1, fun b hb => hF b (h2 b hb), h3, fun k x l hx hl => ⟨(h4 k x l hx hl).1, fun b hb => hF b ((h4 k x l hx hl).2 b hb)⟩⟩
theorem Texts.keep {w w' : World} {F : Nat → Prop} {v : Value} {n : Nat} {L : List (List UInt8)} (h : Texts w F v n L) (hk : ∀ b cs e, F b → (e = 32 ∨ e = 5) → w.heap[b]? = some (.cells cs e (0, 0)) → w'.heap[b]? = some (.cells cs e (0, 0))) : Texts w' F v n L := by
  obtain ⟨vs, h1, h2, h3, h4⟩ := h
  refine ⟨vs, ownsRow_keep h1 fun b cs hb => hk b cs 32 (h2 b hb) (.inl rfl), h2, h3, fun k x l hx hl => ?_⟩
  obtain ⟨q1, q2⟩ := h4 k x l hx hl
  exact ⟨ownsRow_keep q1 fun b cs hb => hk b cs 5 (q2 b hb) (.inr rfl), q2⟩
theorem Texts.same {w w' : World} {F : Nat → Prop} {v : Value} {n : Nat} {L : List (List UInt8)} (h : Texts w F v n L) (hk : ∀ b, F b → w'.heap[b]? = w.heap[b]?) : Texts w' F v n L := h.keep fun b _ _ hb _ hr => (hk b hb).trans hr
theorem Texts.length {w : World} {F : Nat → Prop} {v : Value} {n : Nat} {L : List (List UInt8)} (h : Texts w F v n L) : L.length = n := by
  obtain ⟨vs, h1, _, h3, _⟩ := h
  have := h1.1
  omega
theorem Texts.form {w : World} {F : Nat → Prop} {v : Value} {n : Nat} {L : List (List UInt8)} (h : Texts w F v n L) : ∃ A c, v = .slice A n c ∧ n ≤ c := by
  obtain ⟨vs, h1, _⟩ := h
  rcases h1.2 with ⟨hv, hn⟩ | ⟨g, cap, cur, hv, _, hg, hnc, _, hcs, ht⟩
  · exact ⟨none, 0, by rw [hv, hn], by omega⟩
  · exact ⟨_, _, hv, hnc⟩
/-- the k-th text of a slice of texts -/
theorem Texts.get {w : World} {F : Nat → Prop} {A : Option Addr} {n c k : Nat} {L : List (List UInt8)} (h : Texts w F (.slice A n c) n L) (hk : k < n) :
    ∃ b A' c' l, A = some ⟨b, 0, none⟩ ∧ b < w.heap.size ∧ F b ∧ L[k]? = some l ∧ w.cell? ⟨b, k, none⟩ = some (.slice A' l.length c') ∧ l.length ≤ c' ∧ Bs w A' l.length l := by
  have hlen := h.length
  obtain ⟨vs, h1, h2, h3, h4⟩ := h
  have hkv : k < vs.length := by omega
  have hkL : k < L.length := by omega
  obtain ⟨ho, hF⟩ := h4 k vs[k] L[k] (List.getElem?_eq_getElem hkv) (List.getElem?_eq_getElem hkL)
  rcases h1.2 with ⟨hv, hn⟩ | ⟨g, cap, cur, hv, _, hg, hnc, _, hcs, ht⟩
  · omega
  · injection hv with q1 q2 q3
    subst q1 q3
    obtain ⟨A', c', hv', hc'⟩ := ho.form
    refine ⟨g, A', c', L[k], rfl, (Array.getElem?_eq_some_iff.1 hg).1, h2 g rfl, List.getElem?_eq_getElem hkL, ?_, hc', ?_⟩
    · rw [cell_of_row w g k cur 32 (0, 0) hg, ← hv', ← List.getElem?_eq_getElem hkv, ← ht, List.getElem?_take, if_pos (by omega)]; simp
    · rw [hv'] at ho; exact ho.bs
/-- append(leaves, text) -/
theorem run_appTF (ty : TypeId) (w : World) (F : Nat → Prop) (v : Value) (n : Nat) (L : List (List UInt8)) (h : Texts w F v n L) (tv : Value) (l : List UInt8) (ht : Own w 0 5 tv l.length l) (hft : ∀ b, tv.ownBlock = some b → F b)
    (b off c : Nat) (hcell : w.cell? ⟨b, off, none⟩ = some tv) (hn : n + 1 ≤ 1000000000) :
    ∃ A' c' w', (Builtin.append_ #[33, 33] ty #[v, .slice (some ⟨b, off, none⟩) 1 c]).run Tryd.prog w = .ok (.slice A' (n + 1) c') w' ∧ (∀ F' : Nat → Prop, (∀ b, F b → F' b) → F' w.heap.size → Texts w' F' (.slice A' (n + 1) c') (n + 1) (L ++ [l])) ∧ w.grownBy w' v.ownBlock := by
  obtain ⟨vs, h1, h2, h3, h4⟩ := h
  obtain ⟨i, hi, hz, hsize, hby⟩ := info_parts (show (Tryd.prog.info? 32).map (fun i => (i.zero, i.size, i.bytes)) = some (some (.slice none 0 0), 1, 24) by kernel_rfl)
  obtain ⟨A0, c0, rfl, _⟩ := ht.form
  obtain ⟨v', w', hrun, g1, g2, _, g5⟩ := run_append_own_at (P := Tryd.prog) w 0 33 ty 32 i (.slice none 0 0) 1 24 Tryd.underlying33 hi hz hsize hby rfl (by omega) v n _ h1 ⟨b, off, none⟩ 1 c [.slice A0 l.length c0] rfl
    (fun j u hu => by
      rcases j with _ | j
      · simp at hu; subst hu; rw [Addr.add_mid, Nat.add_zero]; exact hcell
      · simp at hu)
    (fun u hu => by simp at hu; subst hu; rfl) (by simp only [maxLen]; omega) (by omega) (Nat.zero_le _)
  have hk : ∀ x l, Own w 0 5 x l.length l → Own w' 0 5 x l.length l := fun x l ho => ownsRow_keep ho fun b cs hb hr => by
    rw [g2.block b (Array.getElem?_eq_some_iff.1 hr).1 ?_]; exact hr
    intro e
    obtain ⟨_, cs', hr'⟩ := ownsRow_block h1 e.symm
    rw [hr] at hr'
    injection hr' with q
    injection q with _ q
    exact absurd q (by decide)
  have hO : ∀ F' : Nat → Prop, (∀ b, F b → F' b) → F' w.heap.size → Texts w' F' v' (n + 1) (L ++ [l]) := fun F' hF hnew => by
    refine ⟨_, g1, fun b hb => ?_, by simp [h3], fun k x y hx hy => ?_⟩
    · rcases g5 with q | q
      · exact hF b (h2 b (by rw [← q]; exact hb))
      · rw [q] at hb; injection hb with hb; rw [← hb]; exact hnew
    · rcases Nat.lt_or_ge k vs.length with hlt | hge
      · rw [List.getElem?_append_left hlt] at hx
        rw [List.getElem?_append_left (by omega)] at hy
        obtain ⟨q1, q2⟩ := h4 k x y hx hy
        exact ⟨hk x y q1, fun b hb => hF b (q2 b hb)⟩
      · rw [List.getElem?_append_right hge] at hx
        rw [List.getElem?_append_right (by omega)] at hy
        obtain ⟨j, hj⟩ : ∃ j, k - vs.length = j := ⟨_, rfl⟩
        rw [hj] at hx
        rw [show k - L.length = j by omega] at hy
        rcases j with _ | j
        · simp at hx hy; subst hx hy; exact ⟨hk _ _ ht, fun b hb => hF b (hft b hb)⟩
        · simp at hx
  obtain ⟨A', c', rfl, _⟩ := (hO (fun _ => True) (fun _ _ => trivial) trivial).form
  exact ⟨A', c', w', hrun, hO, g2⟩
theorem wp_appTF {o : Oper} {a : Act} {w : World} {K : Act → World → Prop} {Q : Exit → Act → World → Prop} (s x : Operand) (ho : o.op = .call { callee := .builtin .append, args := #[s, x], argTypes := #[33, 33] })
    (F : Nat → Prop) (v : Value) (n : Nat) (L : List (List UInt8)) (hs : a.eval s = v) (hown : Texts w F v n L) (tv : Value) (l : List UInt8) (ht : Own w 0 5 tv l.length l) (hft : ∀ b, tv.ownBlock = some b → F b)
    (b off c : Nat) (hx : a.eval x = .slice (some ⟨b, off, none⟩) 1 c) (hcell : w.cell? ⟨b, off, none⟩ = some tv) (hn : n + 1 ≤ 1000000000)
    (h : ∀ A' c' w', (∀ F' : Nat → Prop, (∀ b, F b → F' b) → F' w.heap.size → Texts w' F' (.slice A' (n + 1) c') (n + 1) (L ++ [l])) → w.grownBy w' v.ownBlock → K (a.put o.dst (.slice A' (n + 1) c')) w') : o.wp Tryd.prog a w K Q := by
  obtain ⟨A', c', w', hrun, h2, h3⟩ := run_appTF o.type w F v n L hown tv l ht hft b off c hcell hn
  unfold Oper.wp execOp
  simp only [ho, resolve, invoke, builtin, Sem.run_bind, Sem.run_pure, Result.andThen_ok, List.map_toArray, List.map_cons, List.map_nil, hs, hx, hrun]
  exact h A' c' w' h2 h3
/-- a literal slice of one text, of one digest -/
theorem run_buildT (A : Option Addr) (n c : Nat) (w : World) : (Instr.buildSlice 33 1 #[(0, .slice A n c)]).run Tryd.prog w = .ok (.slice (some ⟨w.heap.size, 0, none⟩) 1 1) (w.alloc (.cells #[.slice A n c] 32)) := by
  obtain ⟨i, hi, hz, hsize, hby⟩ := info_parts (show (Tryd.prog.info? 32).map (fun i => (i.zero, i.size, i.bytes)) = some (some (.slice none 0 0), 1, 24) by kernel_rfl)
  refine run_buildSlice w 33 32 1 _ _ i _ Tryd.underlying33 hi hz (by rw [hsize]; decide) (by rw [hsize]; decide) ?_
  rw [hsize]
  have hf := Great.fill_whole (s := 1) (by omega) [.slice A n c] ((Array.range (1 * 1)).map ((Value.slice none 0 0).cells[· % (Value.slice none 0 0).cells.size]!))
    (fun v hv => by simp at hv; rw [hv]; rfl) (by simp)
  exact hf
theorem wp_buildT {o : Oper} {a : Act} {w : World} {K : Act → World → Prop} {Q : Exit → Act → World → Prop} (x : Operand) (ho : o.op = .buildSlice 33 1 #[(0, x)]) (A : Option Addr) (n c : Nat)
    (hx : a.eval x = .slice A n c) (h : K (a.put o.dst (.slice (some ⟨w.heap.size, 0, none⟩) 1 1)) (w.alloc (.cells #[.slice A n c] 32))) : o.wp Tryd.prog a w K Q := by
  unfold Oper.wp execOp
  simp only [ho, List.map_toArray, List.map_cons, List.map_nil, hx, Sem.run_bind, run_buildT A n c, Result.andThen_ok]
  exact h
end Go.Proofs.YtgiobcpljbpmiaaDoor
