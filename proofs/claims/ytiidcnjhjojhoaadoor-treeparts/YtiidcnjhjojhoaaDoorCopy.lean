/-
  The builtin copy of bytes into a block that is known whole, out of a slice that reads as a list of bytes. Nothing of the program is named here. No conditions.
-/
import Derived.Test.YtiidcnjhjojhoaaDoorArr
import Derived.Laws.CopyOwn
namespace Go.Proofs.YtiidcnjhjojhoaaDoor
open Go.RowKit
/-- a byte's cell -/
def bcell (x : UInt8) : Value := .int .u8 (x.toNat : Int)
/-- bytes, as cells -/
def bcells (l : List UInt8) : Array Value := (l.map bcell).toArray
theorem bcells_size (l : List UInt8) : (bcells l).size = l.length := by simp [bcells]
theorem bcells_get? (l : List UInt8) (t : Nat) : (bcells l)[t]? = (l[t]?).map bcell := by simp [bcells]
theorem bcells_get (l : List UInt8) (t : Nat) (h : t < l.length) : (bcells l)[t]? = some (.int .u8 ((l.getD t 0).toNat : Int)) := by
  simp [bcells, h, bcell]
theorem bcells_one (l : List UInt8) : (bcells l).all (·.oneCell') = true := by
  unfold bcells
  exact all_oneCell_toArray fun v hv => by
    obtain ⟨x, _, rfl⟩ := List.mem_map.1 hv
    rfl
/-- the cells with bytes laid over them from off on -/
def spl (cur : Array Value) (off : Nat) (l : List UInt8) : Array Value := (splice cur.toList off (l.map bcell)).toArray
theorem spl_size (cur : Array Value) (off : Nat) (l : List UInt8) (h : off + l.length ≤ cur.size) : (spl cur off l).size = cur.size := by
  have := length_splice cur.toList off (l.map bcell) (by simpa using h)
  simpa [spl] using this
theorem spl_get (cur : Array Value) (off : Nat) (l : List UInt8) (h : off + l.length ≤ cur.size) (j : Nat) :
    (spl cur off l)[j]? = if off ≤ j ∧ j < off + l.length then (l[j - off]?).map bcell else cur[j]? := by
  unfold spl splice
  rw [List.getElem?_toArray]
  by_cases h1 : j < off
  · rw [if_neg (by omega), List.getElem?_append_left (by simp; omega), List.getElem?_take, if_pos h1]; simp
  · rw [List.getElem?_append_right (by simp; omega)]
    have e : (cur.toList.take off).length = off := by simp; omega
    rw [e]
    by_cases h2 : j < off + l.length
    · rw [if_pos (by omega), List.getElem?_append_left (by simp; omega), List.getElem?_map]
    · rw [if_neg (by omega), List.getElem?_append_right (by simp; omega), List.getElem?_drop]
      simp only [List.length_map]
      rw [show off + l.length + (j - off - l.length) = j by omega]; simp
section
variable {P : Program}
theorem run_copyB {t e : TypeId} (T : ByteTypes P t e) (rt : TypeId) (w : World) (g off dLen dCap : Nat) (A : Option Addr) (m c : Nat) (l : List UInt8) (ty : TypeId) (cur : Array Value)
    (hr : Row w g ty cur) (hb : Bs w A m l) (hfit : off + Nat.min m dLen ≤ cur.size) :
    ∃ w', (Builtin.copy_ #[t, t] rt #[.slice (some ⟨g, off, none⟩) dLen dCap, .slice A m c]).run P w = .ok (goInt (Nat.min m dLen : Nat)) w' ∧ Row w' g ty (spl cur off (l.take (Nat.min m dLen))) ∧ Only g w w' := by
  obtain ⟨i, hi, hz, hsize, hby⟩ := info_parts T.hi
  have hsz : (P.info? e).map (·.size) = some 1 := by rw [hi]; simp [hsize]
  by_cases h0 : Nat.min m dLen = 0
  · refine ⟨w, ?_, ?_, Only.refl _ _⟩
    · rw [run_copy_none (P := P) w t t rt e _ A dLen dCap m c T.ht hsz h0, h0]; rfl
    · rw [h0]
      have : spl cur off (l.take 0) = cur := by
        apply Array.ext_getElem?
        intro j
        rw [spl_get _ _ _ (by simp; omega), if_neg (by simp)]
      rw [this]; exact hr
  · have hmin : Nat.min m dLen ≤ m := Nat.min_le_left _ _
    obtain ⟨b, o, x, hA, hbl, _⟩ := hb.get (k := 0) (by omega)
    subst hA
    have hlen : (l.take (Nat.min m dLen)).length = Nat.min m dLen := by rw [List.length_take, hb.1]; omega
    have hrun := run_copy_row (P := P) w t t rt e g off dLen dCap ⟨b, o, none⟩ m c cur ty ((l.take (Nat.min m dLen)).map bcell) T.ht hsz hr (by rw [List.length_map, hlen])
      (fun j v hv => by
        rw [List.getElem?_map, List.getElem?_take] at hv
        split at hv
        · rename_i hj
          cases hx : l[j]? with
          | none => rw [hx] at hv; cases hv
          | some y =>
            rw [hx] at hv
            injection hv with hv
            subst hv
            obtain ⟨b', o', e1, _, hc⟩ := hb.2 j y hx
            injection e1 with e1
            injection e1 with e1 e2
            subst e1 e2
            rw [Addr.add_mid]; exact hc
        · cases hv)
      (by rw [List.length_map, hlen]; exact hfit) (fun v hv => by obtain ⟨x, _, rfl⟩ := List.mem_map.1 hv; rfl)
    refine ⟨_, by rw [hrun, List.length_map, hlen], ?_, Only.setRow g w _⟩
    have e2 : spl cur off (l.take (Nat.min m dLen)) = (cur.toList.take off ++ (l.take (Nat.min m dLen)).map bcell ++ cur.toList.drop (off + Nat.min m dLen)).toArray := by
      unfold spl splice; rw [List.length_map, hlen, List.append_assoc]
    rw [e2]; exact hr.setRow _
theorem wpList_copyB {t e : TypeId} (T : ByteTypes P t e) {ops : Array Oper} {rest : List Oper} {o : Oper} {a : Act} {w : World} {Q : Exit → Act → World → Prop} (hgd : o.guard = none) (d s : Operand)
    (ho : o.op = .call { callee := .builtin .copy, args := #[d, s], argTypes := #[t, t] }) (g off dLen dCap : Nat) (A : Option Addr) (m c : Nat)
    (hd : a.eval d = .slice (some ⟨g, off, none⟩) dLen dCap) (hs : a.eval s = .slice A m c) (l : List UInt8) (ty : TypeId) (cur : Array Value) (hr : Row w g ty cur) (hb : Bs w A m l) (hfit : off + Nat.min m dLen ≤ cur.size)
    (h : ∀ w', Row w' g ty (spl cur off (l.take (Nat.min m dLen))) → Only g w w' → wpList P ops Q rest (a.put o.dst (goInt (Nat.min m dLen : Nat))) w') :
    wpList P ops Q (o :: rest) a w := by
  refine wpList_plain hgd fun K hK => ?_
  obtain ⟨w', hrun, h1, h2⟩ := run_copyB T o.type w g off dLen dCap A m c l ty cur hr hb hfit
  unfold Oper.wp
  simp [execOp, ho, resolve, invoke, builtin, hd, hs, hrun, Result.andThen]
  exact hK _ _ (h w' h1 h2)
/-- the same as one step of a region that draws its order -/
theorem step_copyB {t e : TypeId} (T : ByteTypes P t e) {ops : Array Oper} {o : Oper} {a : Act} {w : World} {K : Act → World → Prop} {Q : Exit → Act → World → Prop} {E : Prop} (hgd : o.guard = none) (d s : Operand)
    (ho : o.op = .call { callee := .builtin .copy, args := #[d, s], argTypes := #[t, t] }) (g off dLen dCap : Nat) (A : Option Addr) (m c : Nat)
    (hd : a.eval d = .slice (some ⟨g, off, none⟩) dLen dCap) (hs : a.eval s = .slice A m c) (l : List UInt8) (ty : TypeId) (cur : Array Value) (hr : Row w g ty cur) (hb : Bs w A m l) (hfit : off + Nat.min m dLen ≤ cur.size)
    (h : ∀ w', Row w' g ty (spl cur off (l.take (Nat.min m dLen))) → Only g w w' → K (a.put o.dst (goInt (Nat.min m dLen : Nat))) w') :
    if Region.wanted o (yielded ops a.tmps) = true then Oper.wp P o a w K Q else E := by
  have hw : Region.wanted o (yielded ops a.tmps) = true := by simp [Region.wanted, hgd]
  rw [if_pos hw]
  obtain ⟨w', hrun, h1, h2⟩ := run_copyB T o.type w g off dLen dCap A m c l ty cur hr hb hfit
  unfold Oper.wp
  simp [execOp, ho, resolve, invoke, builtin, hd, hs, hrun, Result.andThen]
  exact h w' h1 h2
theorem step_copyK {t e : TypeId} (T : ByteTypes P t e) {ops : Array Oper} {o : Oper} {a : Act} {w : World} {K : Act → World → Prop} {Q : Exit → Act → World → Prop} {E : Prop} (hgd : o.guard = none) (d s : Operand)
    (ho : o.op = .call { callee := .builtin .copy, args := #[d, s], argTypes := #[t, t] }) (g off dLen dCap : Nat) (A : Option Addr) (m c : Nat)
    (hd : a.eval d = .slice (some ⟨g, off, none⟩) dLen dCap) (hs : a.eval s = .slice A m c) (l : List UInt8) (ty : TypeId) (cur : Array Value) (hr : Row w g ty cur) (hb : Bs w A m l) (k : Nat) (hk : Nat.min m dLen = k) (hfit : off + k ≤ cur.size)
    (h : ∀ w', Row w' g ty (spl cur off (l.take k)) → Only g w w' → K (a.put o.dst (.int .i64 (k : Int))) w') :
    if Region.wanted o (yielded ops a.tmps) = true then Oper.wp P o a w K Q else E := by
  subst hk
  exact step_copyB T hgd d s ho g off dLen dCap A m c hd hs l ty cur hr hb hfit h
/-- 'x[k:]' of a slice of bytes, whatever its capacity -/
theorem cut_tail {t e : TypeId} (T : ByteTypes P t e) (A : Option Addr) (n c k : Nat) (hk : k ≤ n) (hnc : n ≤ c) :
    ∃ A', (∀ w, (Instr.sliceAt t (.slice A n c) (some (.int .i64 (k : Int))) none none).run P w = .ok (.slice A' (n - k) (c - k)) w) ∧ (∀ w l, Bs w A n l → Bs w A' (n - k) (l.drop k)) ∧ (∀ g, Apart A n g → Apart A' (n - k) g) := by
  obtain ⟨i, hi, hz, hsize, hby⟩ := info_parts T.hi
  refine ⟨if c = k then A else A.map (·.add (k * 1)), fun w => ?_, fun w l hb => ?_, fun g ha => ?_⟩
  · have hs : (sizeOf e).run P w = .ok 1 w := by simp [sizeOf, typeInfo, hi, hsize]
    have h1 : (k : Int) ≤ n := by omega
    simp [Instr.sliceAt, Instr.slice, run_underlying T.ht, Instr.sliceBounds, run_sliceBound, hs, h1]
  · by_cases hck : c = k
    · obtain rfl : n = k := by omega
      rw [List.drop_eq_nil_of_le (by rw [hb.1]; exact Nat.le_refl _), Nat.sub_self]
      exact Bs.nil _ _
    · rw [if_neg hck]
      by_cases hn : n = 0
      · subst hn
        obtain rfl : k = 0 := by omega
        rw [hb.empty rfl]; exact Bs.nil _ _
      · obtain ⟨b, off, x, hA, _⟩ := hb.get (k := 0) (by omega)
        subst hA
        rw [Nat.mul_one, Option.map_some, Addr.add_mid]
        exact hb.drop
  · rcases ha with h0 | ⟨b, off, rfl, hne⟩
    · exact .inl (by omega)
    · by_cases hck : c = k
      · exact .inl (by omega)
      · rw [if_neg hck, Option.map_some, Addr.add_mid]
        exact .inr ⟨b, _, rfl, hne⟩
theorem wpList_tail {t e : TypeId} (T : ByteTypes P t e) {ops : Array Oper} {rest : List Oper} {o : Oper} {a : Act} {w : World} {Q : Exit → Act → World → Prop} (hgd : o.guard = none) (x y : Operand)
    (ho : o.op = .slice t x (some y) none none) (A : Option Addr) (n c k : Nat) (hx : a.eval x = .slice A n c) (hy : a.eval y = .int .i64 (k : Int)) (hk : k ≤ n) (hnc : n ≤ c)
    (h : ∀ A', (∀ w l, Bs w A n l → Bs w A' (n - k) (l.drop k)) → (∀ g, Apart A n g → Apart A' (n - k) g) → wpList P ops Q rest (a.put o.dst (.slice A' (n - k) (c - k))) w) : wpList P ops Q (o :: rest) a w := by
  obtain ⟨A', hrun, h1, h2⟩ := cut_tail T A n c k hk hnc
  refine wpList_plain hgd fun K hK => ?_
  unfold Oper.wp execOp
  simp [ho, hx, hy, hrun, Result.andThen]
  exact hK _ _ (h A' h1 h2)
/-- 'arr[l:]' of an array of bytes that lies at ⟨G, o⟩ -/
theorem run_cut {t e : TypeId} {n : Nat} (ht : P.underlying t = some (.array n e)) (he : (P.info? e).map (·.size) = some 1) (G o l : Nat) (z : Int) (hz : z = l) (hl : l < n) (w : World) :
    (Instr.sliceAt t (.pointer (some ⟨G, o, none⟩)) (some (.int .i64 z)) none none).run P w = .ok (.slice (some ⟨G, o + l, none⟩) (n - l) (n - l)) w := by
  subst hz
  have hs : (sizeOf e).run P w = .ok 1 w := by
    cases hq : P.info? e with
    | none => simp [hq] at he
    | some i => simp [hq] at he; simp [sizeOf, typeInfo, hq, he]
  have h1 : (l : Int) ≤ n := by omega
  have hne : ¬ n = l := by omega
  simp [Instr.sliceAt, Instr.sureAddr, run_underlying ht, Instr.sliceBounds, run_sliceBound, hs, h1, hne, Addr.add_mid]
/-- 'arr[:]' -/
theorem run_cut_all {t e : TypeId} {n : Nat} (ht : P.underlying t = some (.array n e)) (he : (P.info? e).map (·.size) = some 1) (G o : Nat) (w : World) :
    (Instr.sliceAt t (.pointer (some ⟨G, o, none⟩)) none none none).run P w = .ok (.slice (some ⟨G, o, none⟩) n n) w := by
  have hs : (sizeOf e).run P w = .ok 1 w := by
    cases hq : P.info? e with
    | none => simp [hq] at he
    | some i => simp [hq] at he; simp [sizeOf, typeInfo, hq, he]
  simp [Instr.sliceAt, Instr.sureAddr, run_underlying ht, Instr.sliceBounds, hs, Addr.add_mid]
end
end Go.Proofs.YtiidcnjhjojhoaaDoor
