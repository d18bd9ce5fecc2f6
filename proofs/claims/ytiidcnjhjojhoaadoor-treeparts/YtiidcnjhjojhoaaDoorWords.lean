/-
  Words for memory: a slice of bytes that reads as a list of bytes, a row of bytes that the call itself made, and append onto such a row. Nothing of the program is named here. No conditions.
-/
import Derived.WalkKit
import Derived.WalkSpells
import Derived.WalkLawsBesides
import Derived.Lib.Hide
import Derived.Maps.AppendAt
import Derived.Deep.Draws
import Derived.Laws.OwnMore
import Derived.OpenShut
namespace Go.Proofs.YtiidcnjhjojhoaaDoor
open Go.RowKit

/-- The slice value '.slice A n c' (whatever c) holds the bytes l in the world w. -/
def Bs (w : World) (A : Option Addr) (n : Nat) (l : List UInt8) : Prop :=
  l.length = n ∧ ∀ k x, l[k]? = some x → ∃ b off, A = some ⟨b, off, none⟩ ∧ b < w.heap.size ∧ w.cell? ⟨b, off + k, none⟩ = some (.int .u8 (x.toNat : Int))

theorem Bs.nil (w : World) (A : Option Addr) : Bs w A 0 [] := ⟨rfl, fun k x h => by simp at h⟩
theorem Bs.get {w : World} {A : Option Addr} {n k : Nat} {l : List UInt8} (h : Bs w A n l) (hk : k < n) :
    ∃ b off x, A = some ⟨b, off, none⟩ ∧ b < w.heap.size ∧ l[k]? = some x ∧ w.cell? ⟨b, off + k, none⟩ = some (.int .u8 (x.toNat : Int)) := by
  have hl : k < l.length := by rw [h.1]; exact hk
  obtain ⟨b, off, e, hb, hc⟩ := h.2 k l[k] (List.getElem?_eq_getElem hl)
  exact ⟨b, off, l[k], e, hb, List.getElem?_eq_getElem hl, hc⟩
theorem Bs.keep {w w' : World} {A : Option Addr} {n : Nat} {l : List UInt8} (h : Bs w A n l) (hs : w.heap.size ≤ w'.heap.size) (hc : ∀ p : Addr, p.block < w.heap.size → w'.cell? p = w.cell? p) : Bs w' A n l :=
  ⟨h.1, fun k x hx => by
    obtain ⟨b, off, e, hb, hcell⟩ := h.2 k x hx
    exact ⟨b, off, e, Nat.lt_of_lt_of_le hb hs, (hc ⟨b, off + k, none⟩ hb).trans hcell⟩⟩
theorem Bs.below {w w' : World} {A : Option Addr} {n : Nat} {l : List UInt8} (h : Bs w A n l) (hb : Below w.heap.size w w') : Bs w' A n l := h.keep hb.size fun _ hp => hb.cell hp
theorem Bs.drewN {w : World} {A : Option Addr} {n : Nat} {l : List UInt8} (h : Bs w A n l) (k : Nat) : Bs (w.drewN k) A n l := h
theorem Bs.drew {w : World} {A : Option Addr} {n : Nat} {l : List UInt8} (h : Bs w A n l) : Bs w.drew A n l := h
/-- the first m of them: 'b[:m]' keeps the address -/
theorem Bs.take {w : World} {A : Option Addr} {n m : Nat} {l : List UInt8} (h : Bs w A n l) (hm : m ≤ n) : Bs w A m (l.take m) :=
  ⟨by rw [List.length_take, h.1]; omega, fun k x hx => h.2 k x (by
    rw [List.getElem?_take] at hx
    split at hx
    · exact hx
    · cases hx)⟩
/-- those from m on, where there is one: 'b[m:]' moves the address -/
theorem Bs.drop {w : World} {b off : Nat} {n m : Nat} {l : List UInt8} (h : Bs w (some ⟨b, off, none⟩) n l) : Bs w (some ⟨b, off + m, none⟩) (n - m) (l.drop m) :=
  ⟨by rw [List.length_drop, h.1], fun k x hx => by
    rw [List.getElem?_drop] at hx
    obtain ⟨b', off', e, hb, hc⟩ := h.2 (m + k) x hx
    simp only [Option.some.injEq, Addr.mk.injEq, and_true] at e
    obtain ⟨rfl, rfl⟩ := e
    exact ⟨b, off + m, rfl, hb, by rw [Nat.add_assoc]; exact hc⟩⟩
/-- nothing lies anywhere -/
theorem Bs.empty {w : World} {A : Option Addr} {n : Nat} {l : List UInt8} (h : Bs w A n l) (h0 : n = 0) : l = [] := List.eq_nil_of_length_eq_zero (by rw [h.1]; exact h0)
/-- out of what a row's reading gives -/
theorem Bs.of_ints {w : World} {x : Addr} {len cap : Nat} {zs : List Int} (hl : len ≤ cap) (hz : zs.length = cap)
    (hcell : ∀ i, i < zs.length → w.cell? (x.add i) = some (.int .u8 (zs.getD i 0))) (hwz : ∀ n ∈ zs, (Lit.int .u8 n).wf = true) :
    Bs w (some x) len ((zs.take len).map fun z => UInt8.ofNat z.toNat) := by
  refine ⟨by simp; omega, fun k y hy => ?_⟩
  rw [List.getElem?_map, List.getElem?_take] at hy
  split at hy
  · rename_i hk
    have hkz : k < zs.length := by omega
    rw [List.getElem?_eq_getElem hkz] at hy
    simp only [Option.map_some, Option.some.injEq] at hy
    have hw := bounds_u8 (hwz zs[k] (List.getElem_mem hkz))
    have h0 := hcell 0 (by omega)
    have hc := hcell k hkz
    obtain ⟨b, off, spot⟩ := x
    have hspot : spot = none := by simpa [Addr.add] using World.cell?_spot h0
    subst hspot
    refine ⟨b, off, rfl, ?_, ?_⟩
    · have := World.block_lt_of_cell? w _ h0
      simpa [Addr.add] using this
    · have e : (⟨b, off, none⟩ : Addr).add k = ⟨b, off + k, none⟩ := by
        unfold Addr.add; split
        · rename_i h; subst h; rfl
        · rfl
      rw [e] at hc
      rw [hc, ← hy]
      have e2 : zs.getD k 0 = zs[k] := by simp [hkz]
      rw [e2]
      congr 2
      have e3 : (UInt8.ofNat zs[k].toNat).toNat = zs[k].toNat := by
        rw [UInt8.toNat_ofNat']; exact Nat.mod_eq_of_lt (by have := hw.2; omega)
      rw [e3]
      omega
  · cases hy

/-- a row of bytes of the call's own: 'v' is the slice, its block is at base or above -/
def Own (w : World) (base : Nat) (e : TypeId) (v : Value) (n : Nat) (l : List UInt8) : Prop := w.ownsRow base e 1 v n (l.map fun x => .int .u8 (x.toNat : Int))
theorem Own.nil (w : World) (base : Nat) (e : TypeId) : Own w base e (.slice none 0 0) 0 [] := World.ownsRow_nil w base e 1
theorem Own.length {w : World} {base : Nat} {e : TypeId} {v : Value} {n : Nat} {l : List UInt8} (h : Own w base e v n l) : l.length = n := by
  have := h.1; simpa using this
theorem Own.bs {w : World} {base : Nat} {e : TypeId} {A : Option Addr} {n m c : Nat} {l : List UInt8} (h : Own w base e (.slice A n c) m l) : Bs w A n l := by
  have hlen := h.length
  rcases h.2 with ⟨hv, hn⟩ | ⟨g, cap, cur, hv, _, hg, hnc, _, hcs, ht⟩
  · injection hv with h1 h2 h3
    subst h1 h2 h3
    rw [hn] at hlen
    rw [List.eq_nil_of_length_eq_zero hlen]
    exact Bs.nil w none
  · injection hv with h1 h2 h3
    subst h1 h2 h3
    refine ⟨hlen, fun k x hx => ⟨g, 0, rfl, (Array.getElem?_eq_some_iff.1 hg).1, ?_⟩⟩
    have := h.cells (g := g) rfl k (.int .u8 (x.toNat : Int)) (by rw [List.getElem?_map, hx]; rfl)
    rw [Nat.zero_add]
    have e : (⟨g, 0, none⟩ : Addr).add k = ⟨g, k, none⟩ := by
      unfold Addr.add; split
      · rename_i h; subst h; rfl
      · simp
    rwa [e] at this
theorem Own.form {w : World} {base : Nat} {e : TypeId} {v : Value} {n : Nat} {l : List UInt8} (h : Own w base e v n l) : ∃ A c, v = .slice A n c ∧ n ≤ c := by
  rcases h.2 with ⟨hv, hn⟩ | ⟨g, cap, cur, hv, _, hg, hnc, _, hcs, ht⟩
  · exact ⟨none, 0, by rw [hv, hn], by omega⟩
  · exact ⟨_, _, hv, hnc⟩
theorem Own.mono {w : World} {base base' : Nat} {e : TypeId} {v : Value} {n : Nat} {l : List UInt8} (h : Own w base e v n l) (hb : base' ≤ base) : Own w base' e v n l := by
  refine ⟨h.1, ?_⟩
  rcases h.2 with h0 | ⟨g, cap, cur, hv, hge, hr⟩
  · exact .inl h0
  · exact .inr ⟨g, cap, cur, hv, Nat.le_trans hb hge, hr⟩

/-- block g is just the cells cs, of element type t, none of them frozen -/
def Row (w : World) (g : Nat) (t : TypeId) (cs : Array Value) : Prop := w.heap[g]? = some (.cells cs t (0, 0))
theorem Row.lt {w : World} {g : Nat} {t : TypeId} {cs : Array Value} (h : Row w g t cs) : g < w.heap.size := (Array.getElem?_eq_some_iff.1 h).1
theorem Row.cell {w : World} {g : Nat} {t : TypeId} {cs : Array Value} (h : Row w g t cs) (i : Nat) : w.cell? ⟨g, i, none⟩ = cs[i]? := cell_of_row w g i cs t (0, 0) h
theorem Row.frozen {w : World} {g : Nat} {t : TypeId} {cs : Array Value} (h : Row w g t cs) (i : Nat) : w.frozen? ⟨g, i, none⟩ = false := by
  unfold Row at h; simp [World.frozen?, h]
theorem Row.new (w : World) (t : TypeId) (cs : Array Value) : Row (w.alloc (.cells cs t)) w.heap.size t cs := heap_alloc_new w _
theorem Row.set {w : World} {g : Nat} {t : TypeId} {cs : Array Value} (h : Row w g t cs) (i : Nat) (u : Value) : Row (w.setCell ⟨g, i, none⟩ u) g t (cs.setIfInBounds i u) := by
  unfold Row at h ⊢; simp [World.setCell, Array.getElem?_modify, h]
theorem Row.below {B : Nat} {w w' : World} {g : Nat} {t : TypeId} {cs : Array Value} (h : Row w g t cs) (hb : Below B w w') (hg : g < B) : Row w' g t cs := (hb.block g hg).trans h
theorem Row.far {w : World} {g : Nat} {t : TypeId} {cs : Array Value} (h : Row w g t cs) {p : Addr} (hp : g ≠ p.block) (u : Value) : Row (w.setCell p u) g t cs := (Below.heap_setCell w p u g hp).trans h
theorem Row.alloc {w : World} {g : Nat} {t : TypeId} {cs : Array Value} (h : Row w g t cs) (o : Obj) : Row (w.alloc o) g t cs := (Below.heap_alloc w o g h.lt).trans h
theorem Row.drewN {w : World} {g : Nat} {t : TypeId} {cs : Array Value} (h : Row w g t cs) (k : Nat) : Row (w.drewN k) g t cs := h
/-- a row that holds bytes -/
theorem Row.own {w : World} {base g n : Nat} {t : TypeId} {cs : Array Value} {l : List UInt8} (h : Row w g t cs) (hb : base ≤ g) (hl : l.length = n) (hs : cs.size = n) (hn : n ≤ 9223372036854775807)
    (hc : ∀ (j : Nat) (x : UInt8), l[j]? = some x → cs[j]? = some (.int .u8 (x.toNat : Int))) : Own w base t (.slice (some ⟨g, 0, none⟩) n n) n l := by
  refine ⟨by simp [hl], .inr ⟨g, n, cs, rfl, hb, h, Nat.le_refl _, by simp only [maxLen]; omega, by omega, ?_⟩⟩
  apply List.ext_getElem?
  intro j
  rw [Nat.mul_one, List.getElem?_take, List.getElem?_map]
  rcases hj : l[j]? with _ | x
  · have hge : l.length ≤ j := List.getElem?_eq_none_iff.1 hj
    rw [if_neg (by omega)]; rfl
  · have hlt : j < l.length := (List.getElem?_eq_some_iff.1 hj).1
    rw [if_pos (by omega), Array.getElem?_toList, hc j x hj]; rfl

/-- the types '[]byte' (t) and 'byte' (e) of a program -/
structure ByteTypes (P : Program) (t e : TypeId) : Prop where
  ht : P.underlying t = some (.slice e)
  hi : (P.info? e).map (fun i => (i.zero, i.size, i.bytes)) = some (some (.int .u8 0), 1, 1)

section
variable {P : Program}
/-- append(v, x...) where v is a row of the call's own and x whatever slice of bytes, nil let in -/
theorem run_app {t e : TypeId} (T : ByteTypes P t e) (ty : TypeId) (w : World) (base : Nat) (v : Value) (n : Nat) (xs : List UInt8) (hown : Own w base e v n xs)
    (A : Option Addr) (m c : Nat) (l : List UInt8) (hr : Bs w A m l) (hb : n + m ≤ 140737488355328) (hbase : base ≤ w.heap.size) :
    ∃ A' c' w', (Builtin.append_ #[t, t] ty #[v, .slice A m c]).run P w = .ok (.slice A' (n + m) c') w' ∧ Own w' base e (.slice A' (n + m) c') (n + m) (xs ++ l) ∧ Below base w w' ∧ w.grownBy w' v.ownBlock := by
  obtain ⟨i, hi, hz, hsize, hby⟩ := info_parts T.hi
  have hbel : ∀ {w' : World}, w.grownBy w' v.ownBlock → Below base w w' := fun hg =>
    (Below.refl base w).grown hg hbase fun k hk => (hown.lt k hk).1
  rcases Nat.eq_zero_or_pos m with h0 | h0
  · subst h0
    obtain rfl := hr.empty rfl
    have hrun : (Builtin.append_ #[t, t] ty #[v, .slice A 0 c]).run P w = .ok v w := by
      rcases hown.2 with ⟨rfl, rfl⟩ | ⟨g, cap, cur, rfl, _, _, hnc, _⟩
      · rcases A with _ | a
        · simp [Builtin.append_, run_underlying T.ht, sizeOf, typeInfo, hi, Builtin.lenOf, Builtin.firstCells]
        · simp [Builtin.append_, run_underlying T.ht, sizeOf, typeInfo, hi, Builtin.lenOf, Builtin.firstCells, loadCells, loadCellsFrom]
      · rcases A with _ | a
        · simp [Builtin.append_, run_underlying T.ht, sizeOf, typeInfo, hi, Builtin.lenOf, Builtin.firstCells, hnc, storeCells]
        · simp [Builtin.append_, run_underlying T.ht, sizeOf, typeInfo, hi, Builtin.lenOf, Builtin.firstCells, hnc, storeCells, loadCells, loadCellsFrom]
    obtain ⟨A', c', rfl, _⟩ := hown.form
    exact ⟨A', c', w, hrun, by simpa using hown, Below.refl _ _, ⟨rfl, rfl, rfl, Nat.le_refl _, fun _ _ _ => rfl⟩⟩
  · obtain ⟨b, off, x, rfl, hblt, hx, hc⟩ := hr.get h0
    have hcells : ∀ j u, (l.map fun x => Value.int .u8 (x.toNat : Int))[j]? = some u → w.cell? ((⟨b, off, none⟩ : Addr).add j) = some u := by
      intro j u hu
      rw [List.getElem?_map] at hu
      rcases hj : l[j]? with _ | y
      · rw [hj] at hu; cases hu
      · rw [hj] at hu
        simp only [Option.map_some, Option.some.injEq] at hu
        obtain ⟨b', off', e', _, hc'⟩ := hr.2 j y hj
        simp only [Option.some.injEq, Addr.mk.injEq, and_true] at e'
        obtain ⟨rfl, rfl⟩ := e'
        have e : (⟨b, off, none⟩ : Addr).add j = ⟨b, off + j, none⟩ := by
          unfold Addr.add; split
          · rename_i h; subst h; rfl
          · rfl
        rw [e, hc', hu]
    obtain ⟨v', w', hrun, h2, h3, _, h5⟩ := run_append_own_at (P := P) w base t ty e i (.int .u8 0) 1 1 T.ht hi hz hsize hby rfl (by omega) v n _ hown ⟨b, off, none⟩ m c _ (by simp [hr.1]) hcells
      (by intro u hu; simp only [List.mem_map] at hu; obtain ⟨y, _, rfl⟩ := hu; rfl) (by simp only [maxLen]; omega) (by omega) hbase
    have h2' : Own w' base e v' (n + m) (xs ++ l) := by unfold Own; rw [List.map_append]; exact h2
    obtain ⟨A', c', rfl, _⟩ := h2'.form
    exact ⟨A', c', w', hrun, h2', hbel h3, h3⟩

/-- the same at the operation, for the walk -/
theorem wpList_app {t e : TypeId} (T : ByteTypes P t e) {w : World} {ops : Array Oper} {rest : List Oper} {o : Oper} {a : Act} {Q : Exit → Act → World → Prop} (hgd : o.guard = none) (s x : Operand)
    (ho : o.op = .call { callee := .builtin .append, args := #[s, x], argTypes := #[t, t] })
    (base : Nat) (v : Value) (n : Nat) (xs : List UInt8) (hs : a.eval s = v) (hown : Own w base e v n xs)
    (A : Option Addr) (m c : Nat) (l : List UInt8) (hx : a.eval x = .slice A m c) (hr : Bs w A m l) (hb : n + m ≤ 140737488355328) (hbase : base ≤ w.heap.size)
    (h : ∀ A' c' w', Own w' base e (.slice A' (n + m) c') (n + m) (xs ++ l) → Below base w w' → w.grownBy w' v.ownBlock → wpList P ops Q rest (a.put o.dst (.slice A' (n + m) c')) w') :
    wpList P ops Q (o :: rest) a w := by
  refine wpList_plain hgd fun K hK => ?_
  obtain ⟨A', c', w', hrun, h2, h3, h4⟩ := run_app T o.type w base v n xs hown A m c l hr hb hbase
  unfold Oper.wp execOp
  simp only [ho, resolve, invoke, builtin, Sem.run_bind, Sem.run_pure, Result.andThen_ok, List.map_toArray, List.map_cons, List.map_nil, hs, hx, hrun]
  exact hK _ _ (h A' c' w' h2 h3 h4)
end
end Go.Proofs.YtiidcnjhjojhoaaDoor
