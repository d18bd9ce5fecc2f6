/-
  Bytes out of a key, over lists (derN, deriveL); laws for a walk: 'x[k:]' with its address, copy with its count under a name, a store of a whole array as a step of a region that draws, operations of such a region taken first. Nothing of the program's functions is named here. No conditions.
-/
import Derived.Test.YtghihgmgadaoeaaDoorSeed
import Derived.Deep.RegionHeld3
namespace Go.Proofs.YtghihgmgadaoeaaDoor
open Go.RowKit
def derN (k : List UInt8) (s : ByteArray) (n : Nat) : Nat → List UInt8
  | 0 => []
  | m + 1 => derN k s n m ++ macL k (partL ((m : Int) + 1) s n)
theorem derN_length (k : List UInt8) (s : ByteArray) (n : Nat) : ∀ m, (derN k s n m).length = 32 * m
  | 0 => rfl
  | m + 1 => by rw [derN, List.length_append, derN_length k s n m, macL_length]; omega
theorem derN_add (k : List UInt8) (s : ByteArray) (n m : Nat) : ∀ j, ∃ r, derN k s n (m + j) = derN k s n m ++ r
  | 0 => ⟨[], by simp⟩
  | j + 1 => by
    obtain ⟨r, hr⟩ := derN_add k s n m j
    exact ⟨r ++ macL k (partL (((m + j : Nat) : Int) + 1) s n), by rw [← Nat.add_assoc, derN, hr, List.append_assoc]⟩
def deriveL (k : List UInt8) (s : ByteArray) (n : Nat) : List UInt8 := (derN k s n (n / 32 + 1)).take n
theorem derive_take (k : List UInt8) (s : ByteArray) (n m : Nat) (h : n ≤ 32 * m) : (derN k s n m).take n = deriveL k s n := by
  unfold deriveL
  rcases Nat.le_total m (n / 32 + 1) with hm | hm
  · obtain ⟨r, hr⟩ := derN_add k s n m (n / 32 + 1 - m)
    rw [show m + (n / 32 + 1 - m) = n / 32 + 1 by omega] at hr
    rw [hr, List.take_append_of_le_length (by rw [derN_length]; exact h)]
  · obtain ⟨r, hr⟩ := derN_add k s n (n / 32 + 1) (m - (n / 32 + 1))
    rw [show n / 32 + 1 + (m - (n / 32 + 1)) = m by omega] at hr
    rw [hr, List.take_append_of_le_length (by rw [derN_length]; omega)]
theorem deriveL_length (k : List UInt8) (s : ByteArray) (n : Nat) : (deriveL k s n).length = n := by
  unfold deriveL; rw [List.length_take, derN_length]; omega
/-- the first m parts, cut at n, and zeros up to n -/
def fillL (k : List UInt8) (s : ByteArray) (n m : Nat) : List UInt8 := (derN k s n m).take n ++ List.replicate (n - 32 * m) 0
theorem fillL_zero (k : List UInt8) (s : ByteArray) (n : Nat) : fillL k s n 0 = List.replicate n 0 := by simp [fillL, derN]
theorem fillL_length (k : List UInt8) (s : ByteArray) (n m : Nat) : (fillL k s n m).length = n := by
  unfold fillL; rw [List.length_append, List.length_take, derN_length, List.length_replicate]; omega
theorem fillL_all (k : List UInt8) (s : ByteArray) (n m : Nat) (h : n ≤ 32 * m) : fillL k s n m = deriveL k s n := by
  unfold fillL; rw [show n - 32 * m = 0 by omega, List.replicate_zero, List.append_nil, derive_take k s n m h]
theorem spl_bcells (X : List UInt8) (off : Nat) (l : List UInt8) : spl (bcells X) off l = bcells (splice X off l) := by
  unfold spl bcells splice
  simp only [List.map_append, List.map_take, List.map_drop, List.length_map]
theorem fillL_step (k : List UInt8) (s : ByteArray) (n m q : Nat) (h : 32 * m < n) (hq : Nat.min 32 (n - 32 * m) = q) :
    spl (bcells (fillL k s n m)) (32 * m) ((macL k (partL ((m : Int) + 1) s n)).take q) = bcells (fillL k s n (m + 1)) := by
  rw [spl_bcells]
  congr 1
  have hl := derN_length k s n m
  have hD := macL_length k (partL ((m : Int) + 1) s n)
  unfold fillL
  rw [derN]
  generalize macL k (partL ((m : Int) + 1) s n) = D at *
  have hq1 : q ≤ 32 := by rw [← hq]; exact Nat.min_le_left _ _
  have hq2 : q ≤ n - 32 * m := by rw [← hq]; exact Nat.min_le_right _ _
  have hq3 : q = 32 ∨ q = n - 32 * m := by
    rcases Nat.le_total 32 (n - 32 * m) with h' | h'
    · left; rw [← hq]; exact Nat.min_eq_left h'
    · right; rw [← hq]; exact Nat.min_eq_right h'
  have hDq : (D.take q).length = q := by rw [List.length_take]; omega
  generalize derN k s n m = E at *
  have e1 : E.take n = E := List.take_of_length_le (by omega)
  unfold splice
  rw [e1, List.take_append_of_le_length (by omega), List.take_of_length_le (by omega), hDq, List.drop_append, List.drop_eq_nil_of_le (by omega), List.nil_append, List.drop_replicate, List.take_append, e1, hl]
  rw [show n - 32 * m - (32 * m + q - 32 * m) = n - 32 * (m + 1) by omega]
  rw [← List.append_assoc]
  congr 2
  rcases hq3 with h3 | h3
  · rw [h3, List.take_of_length_le (by omega), List.take_of_length_le (by omega)]
  · rw [h3]
theorem made_zero (n : Nat) : madeCells #[.int .u8 0] n = bcells (List.replicate n 0) := by
  apply Array.ext_getElem?
  intro j
  rw [bcells_get?]
  by_cases h : j < n
  · rw [List.getElem?_replicate, if_pos h]
    simp [madeCells, h, Nat.mod_one]; rfl
  · rw [List.getElem?_eq_none (by simp; omega), Array.getElem?_eq_none (by rw [size_madeCells]; omega)]; rfl
section
variable {P : Program}
theorem wpList_copyK {t e : TypeId} (T : ByteTypes P t e) {ops : Array Oper} {rest : List Oper} {o : Oper} {a : Act} {w : World} {Q : Exit → Act → World → Prop} (hgd : o.guard = none) (d s : Operand)
    (ho : o.op = .call { callee := .builtin .copy, args := #[d, s], argTypes := #[t, t] }) (g off dLen dCap : Nat) (A : Option Addr) (m c : Nat)
    (hd : a.eval d = .slice (some ⟨g, off, none⟩) dLen dCap) (hs : a.eval s = .slice A m c) (l : List UInt8) (ty : TypeId) (cur : Array Value) (hr : Row w g ty cur) (hb : Bs w A m l) (k : Nat) (hk : Nat.min m dLen = k) (hfit : off + k ≤ cur.size)
    (h : ∀ w', Row w' g ty (spl cur off (l.take k)) → Only g w w' → wpList P ops Q rest (a.put o.dst (.int .i64 (k : Int))) w') :
    wpList P ops Q (o :: rest) a w := by
  subst hk; exact wpList_copyB T hgd d s ho g off dLen dCap A m c hd hs l ty cur hr hb hfit h
theorem wpList_tailAt {t e : TypeId} (T : ByteTypes P t e) {ops : Array Oper} {rest : List Oper} {o : Oper} {a : Act} {w : World} {Q : Exit → Act → World → Prop} (hgd : o.guard = none) (x y : Operand)
    (ho : o.op = .slice t x (some y) none none) (b off n c k : Nat) (hx : a.eval x = .slice (some ⟨b, off, none⟩) n c) (hy : a.eval y = .int .i64 (k : Int)) (hk : k ≤ n) (hnc : n ≤ c)
    (h : ∀ A', (k < n → A' = some ⟨b, off + k, none⟩) → wpList P ops Q rest (a.put o.dst (.slice A' (n - k) (c - k))) w) : wpList P ops Q (o :: rest) a w := by
  obtain ⟨i, hi, hz, hsize, hby⟩ := info_parts T.hi
  refine wpList_plain hgd fun K hK => ?_
  have hs : (sizeOf e).run P w = .ok 1 w := by simp [sizeOf, typeInfo, hi, hsize]
  have h1 : (k : Int) ≤ n := by omega
  obtain ⟨A', hA', hrun⟩ : ∃ A', (k < n → A' = some ⟨b, off + k, none⟩) ∧ (Instr.sliceAt t (.slice (some ⟨b, off, none⟩) n c) (some (.int .i64 (k : Int))) none none).run P w = .ok (.slice A' (n - k) (c - k)) w := by
    refine ⟨if c = k then some ⟨b, off, none⟩ else (some (⟨b, off, none⟩ : Addr)).map (·.add (k * 1)), fun hlt => by rw [if_neg (by omega), Option.map_some, Nat.mul_one, Addr.add_mid], ?_⟩
    simp [Instr.sliceAt, Instr.slice, run_underlying T.ht, Instr.sliceBounds, run_sliceBound, hs, h1]
  unfold Oper.wp execOp
  simp [ho, hx, hy, hrun, Result.andThen]
  exact hK _ _ (h A' hA')
theorem step_store_row {n : Nat} {ty : TypeId} (T : AggType P ty n) {ops : Array Oper} {op : Oper} {a : Act} {w : World} {K : Act → World → Prop} {Q : Exit → Act → World → Prop} {E : Prop} (hgd : op.guard = none) (x y : Operand) (ho : op.op = .store ty x y)
    (g : Nat) (cells : Array Value) (hx : a.eval x = .pointer (some ⟨g, 0, none⟩)) (hy : a.eval y = .agg cells) (t : TypeId) (old : Array Value) (hr : Row w g t old) (hn : cells.size = n) (hold : old.size = n) (h1 : cells.all (·.oneCell') = true)
    (h : ∀ w', Row w' g t cells → Only g w w' → K (a.put op.dst undef) w') : if Region.wanted op (yielded ops a.tmps) = true then Oper.wp P op a w K Q else E := by
  obtain ⟨d, hu, hd, hi⟩ := T
  have hw : Region.wanted op (yielded ops a.tmps) = true := by simp [Region.wanted, hgd]
  rw [if_pos hw]
  refine wp_store_row ty x y ho g cells hx hy t old hr (by rw [hi, hn]) (by rw [hold, hn]) h1 ?_
  exact h _ (hr.setRow cells) (Only.setRow g w cells)
theorem takeD {md : Region.Mode} {ops : Array Oper} {Q : Exit → Act → World → Prop} {S : World → Prop} {i : Nat} {oi : Oper} (d : Option Nat) (v : Value) {fuel : Nat} {listed : Array Bool} {a : Act} {w : World} (hi : ops[i]? = some oi) (hd : oi.dst = d)
    (hs : Region.noSelect ops = true) (hf : Region.free md ops listed i = true) (hr : (Region.ready md ops listed).contains i = true)
    (hQ : ∀ c a w, Q (.panic c) (a.put d v) w → Q (.panic c) a w) (hy : YieldsIf P ops S oi v a) (hS : S w)
    (h : wpAnyH P md ops Q S fuel (listed.setIfInBounds i true) (a.put d v) w) : wpAnyH P md ops Q S (fuel + 1) listed a w := by
  subst hd; exact wpAnyH_take hi hs hf hr hQ hy hS h
end
theorem range_row {w : World} {g : Nat} {t : TypeId} {l : List UInt8} (h : Row w g t (bcells l)) : w.rangeAt g 0 (l.map bcell) := fun j v hv => by
  rw [Nat.zero_add, h.cell j, bcells_get?, ← List.getElem?_map]; exact hv
end Go.Proofs.YtghihgmgadaoeaaDoor
