/-
  MacA: ported texts, joined.
-/
import Derived.Test.YtfelmdndjdaniaaDoorBase
import Derived.Test.YtfelmdndjdaniaaDoorSha
import Derived.Laws.IdiomStrings
import Derived.Lib.AppendStr
import Derived.Maps.AppendAt
import Derived.Test.YtfelmdndjdaniaaDoorShaR
import Derived.Deep.Matrix
import Derived.Deep.RegionHeld3
namespace Go.Proofs.YtfelmdndjdaniaaDoor
section
open Go.RowKit
theorem ofInt_u8 (x : UInt8) : (BitVec.ofInt 8 (x.toNat : Int)).toNat = x.toNat := by
  have := x.toNat_lt
  rw [BitVec.ofInt_natCast, BitVec.toNat_ofNat]; exact Nat.mod_eq_of_lt (by omega)
theorem u8_xor (x y : UInt8) : bits .xor .u8 (x.toNat : Int) (y.toNat : Int) = ((x ^^^ y).toNat : Int) := by
  have hx : (x ^^^ y).toNat < 256 := (x ^^^ y).toNat_lt
  show IntKind.u8.wrap ((BitVec.ofInt 8 (x.toNat : Int) ^^^ BitVec.ofInt 8 (y.toNat : Int)).toNat : Int) = _
  rw [BitVec.toNat_xor, ofInt_u8, ofInt_u8, ← UInt8.toNat_xor]
  generalize (x ^^^ y).toNat = z at *
  simp only [IntKind.wrap, IntKind.bits, IntKind.signed]
  simp
  omega
theorem u8_or (x y : UInt8) : bits .or .u8 (x.toNat : Int) (y.toNat : Int) = ((x ||| y).toNat : Int) := by
  have hx : (x ||| y).toNat < 256 := (x ||| y).toNat_lt
  show IntKind.u8.wrap ((BitVec.ofInt 8 (x.toNat : Int) ||| BitVec.ofInt 8 (y.toNat : Int)).toNat : Int) = _
  rw [BitVec.toNat_or, ofInt_u8, ofInt_u8, ← UInt8.toNat_or]
  generalize (x ||| y).toNat = z at *
  simp only [IntKind.wrap, IntKind.bits, IntKind.signed]
  simp
  omega
theorem or_zero (a b : UInt8) : a ||| b = 0 ↔ a = 0 ∧ b = 0 := by
  rw [← UInt8.toNat_inj, ← UInt8.toNat_inj, ← UInt8.toNat_inj, UInt8.toNat_or]
  exact Nat.or_eq_zero_iff
theorem xor_zero (a b : UInt8) : a ^^^ b = 0 ↔ a = b := by
  exact UInt8.xor_eq_zero_iff
end
section
open Go.RowKit
/-- no cell of k cells is in the range -/
def Free (fz : Nat × Nat) (k : Nat) : Prop := ∀ j, j < k → ¬ (fz.1 ≤ j ∧ j < fz.2)
theorem storeCells_free (P : Program) (g o : Nat) (t : TypeId) (fz : Nat × Nat) : ∀ (vs : List Value) (i : Nat) (cur : Array Value) (w : World), w.heap[g]? = some (.cells cur t fz) → Free fz cur.size → o + i + vs.length ≤ cur.size → (∀ v ∈ vs, v.oneCell' = true) →
    (storeCells ⟨g, o, none⟩ vs i).run P w = .ok () (w.setRow g (cur.toList.take (o + i) ++ vs ++ cur.toList.drop (o + i + vs.length)).toArray)
  | [], i, cur, w, hg, _, _, _ => by
    have e : w.setRow g (cur.toList.take (o + i) ++ [] ++ cur.toList.drop (o + i + 0)).toArray = w := by
      rw [List.append_nil, Nat.add_zero, List.take_append_drop, Array.toArray_toList]; exact setRow_self w g cur t fz hg
    rw [List.length_nil, e]; rfl
  | v :: rest, i, cur, w, hg, hfz, hl, h1 => by
    have hlt : o + i < cur.size := by simp at hl; omega
    have ha : (⟨g, o, none⟩ : Addr).add i = ⟨g, o + i, none⟩ := by unfold Addr.add; split <;> simp_all
    have hc : w.cell? ⟨g, o + i, none⟩ = some cur[o + i] := by simp [World.cell?, hg, hlt]
    have hf : w.frozen? ⟨g, o + i, none⟩ = false := by
      have := hfz _ hlt
      obtain ⟨lo, hi⟩ := fz
      simp only [World.frozen?, hg, Bool.and_eq_false_iff, decide_eq_false_iff_not]
      simp only at this
      omega
    have hst : (store ((⟨g, o, none⟩ : Addr).add i) v).run P w = .ok () (w.setRow g (cur.setIfInBounds (o + i) v)) := by
      rw [ha, run_store P w _ v _ (h1 v (by simp)), hc]
      simp [hf, setCell_eq_setRow w g (o + i) cur t fz v hg]
    have ih := storeCells_free P g o t fz rest (i + 1) (cur.setIfInBounds (o + i) v) (w.setRow g (cur.setIfInBounds (o + i) v)) (setRow_heap w g cur _ t _ hg) (by simpa using hfz) (by simp at hl ⊢; omega) (fun x hx => h1 x (by simp [hx]))
    simp only [storeCells, Sem.run_bind, hst, Result.andThen_ok, ih, setRow_setRow]
    congr 3
    have e := list_seg_step cur.toList (o + i) v rest (by simp at hl ⊢; omega)
    simpa [Array.toList_setIfInBounds, Nat.add_assoc] using e
/-- a row of the call's own, of which no cell is frozen -/
def OwnM (w : World) (base : Nat) (e : TypeId) (v : Value) (n : Nat) (l : List UInt8) : Prop :=
  l.length = n ∧ ∃ g cap cur fz, v = .slice (some ⟨g, 0, none⟩) n cap ∧ base ≤ g ∧ w.heap[g]? = some (.cells cur e fz) ∧ Free fz cur.size ∧ n ≤ cap ∧ cap ≤ maxLen ∧ cur.size = cap ∧ cur.toList.take n = l.map bcell
theorem OwnM.form {w : World} {base : Nat} {e : TypeId} {v : Value} {n : Nat} {l : List UInt8} (h : OwnM w base e v n l) : ∃ A c, v = .slice A n c ∧ n ≤ c := by
  obtain ⟨_, g, cap, cur, fz, rfl, _, _, _, hn, _⟩ := h; exact ⟨_, _, rfl, hn⟩
theorem OwnM.mono {w : World} {base base' : Nat} {e : TypeId} {v : Value} {n : Nat} {l : List UInt8} (h : OwnM w base e v n l) (hb : base' ≤ base) : OwnM w base' e v n l := by
  obtain ⟨hl, g, cap, cur, fz, hv, hg, r⟩ := h; exact ⟨hl, g, cap, cur, fz, hv, by omega, r⟩
theorem OwnM.cells {w : World} {base : Nat} {e : TypeId} {g n cap : Nat} {l : List UInt8} (h : OwnM w base e (.slice (some ⟨g, 0, none⟩) n cap) n l) (k : Nat) (x : UInt8) (hx : l[k]? = some x) : w.cell? ⟨g, k, none⟩ = some (bcell x) := by
  obtain ⟨hl, g', cap', cur, fz, hv, _, hg, _, _, _, _, ht⟩ := h
  simp only [Value.slice.injEq, Option.some.injEq, Addr.mk.injEq, and_true, true_and] at hv
  obtain ⟨rfl, rfl⟩ := hv
  rw [cell_of_row w g k cur e fz hg]
  have hk : k < l.length := (List.getElem?_eq_some_iff.1 hx).1
  have := congrArg (fun m => m[k]?) ht
  simp only [List.getElem?_take, List.getElem?_map, hx, Option.map_some] at this
  rw [if_pos (by omega)] at this
  simpa using this
theorem OwnM.bs {w : World} {base : Nat} {e : TypeId} {A : Option Addr} {n c : Nat} {l : List UInt8} (h : OwnM w base e (.slice A n c) n l) : Bs w A n l := by
  have h0 := h
  obtain ⟨hl, g, cap, cur, fz, hv, hb, hg, r⟩ := h
  simp only [Value.slice.injEq, true_and] at hv
  obtain ⟨rfl, rfl⟩ := hv
  refine ⟨hl, fun k x hx => ⟨g, 0, rfl, (Array.getElem?_eq_some_iff.1 hg).1, ?_⟩⟩
  rw [Nat.zero_add]; exact h0.cells k x hx
theorem OwnM.below {w w' : World} {base : Nat} {e : TypeId} {v : Value} {n : Nat} {l : List UInt8} (h : OwnM w base e v n l) (hb : Below w.heap.size w w') : OwnM w' base e v n l := by
  obtain ⟨hl, g, cap, cur, fz, hv, hg, hh, r⟩ := h
  exact ⟨hl, g, cap, cur, fz, hv, hg, (hb.block g (Array.getElem?_eq_some_iff.1 hh).1).trans hh, r⟩
theorem bytes_new (w : World) (s : ByteArray) (e : TypeId) (hs : s.size ≤ 9223372036854775807) :
    OwnM (w.drew.alloc (.cells (bytesRow s (grownCap w s.size 0 e)) e ((bytesRow s (grownCap w s.size 0 e)).size, (bytesRow s (grownCap w s.size 0 e)).size + 1))) w.heap.size e (.slice (some ⟨w.heap.size, 0, none⟩) s.size (grownCap w s.size 0 e)) s.size s.data.toList := by
  have hge := grownCap_ge w s.size 0 e
  have hcm : grownCap w s.size 0 e ≤ maxLen := grownCap_le_maxLen w s.size 0 e (by simp only [maxLen]; omega)
  refine ⟨by rfl, w.heap.size, _, _, _, rfl, Nat.le_refl _, heap_alloc_new w.drew _, fun j hj h => by simp only at h; omega, hge, hcm, ?_, ?_⟩
  · have : s.data.size = s.size := rfl
    simp [bytesRow]; omega
  · have : s.data.size = s.size := rfl
    simp only [bytesRow, Array.toList_append, Array.toList_map]
    rw [List.take_append_of_le_length (by simp), List.take_of_length_le (by simp)]
    rfl
section
variable {P : Program}
theorem run_appM {t e : TypeId} (T : ByteTypes P t e) (ty : TypeId) (w : World) (base : Nat) (v : Value) (n : Nat) (xs : List UInt8) (hown : OwnM w base e v n xs)
    (b off m c : Nat) (l : List UInt8) (hr : Bs w (some ⟨b, off, none⟩) m l) (hb : n + m ≤ 140737488355328) (hbase : base ≤ w.heap.size) :
    ∃ A' c' w', (Builtin.append_ #[t, t] ty #[v, .slice (some ⟨b, off, none⟩) m c]).run P w = .ok (.slice A' (n + m) c') w' ∧ OwnM w' base e (.slice A' (n + m) c') (n + m) (xs ++ l) ∧ Below base w w' := by
  obtain ⟨i, hi, hz, hsize, hby⟩ := info_parts T.hi
  have hcells : ∀ j u, (l.map bcell)[j]? = some u → w.cell? ((⟨b, off, none⟩ : Addr).add j) = some u := by
    intro j u hu
    rw [List.getElem?_map] at hu
    rcases hj : l[j]? with _ | y
    · rw [hj] at hu; cases hu
    · rw [hj] at hu
      simp only [Option.map_some, Option.some.injEq] at hu
      obtain ⟨b', off', e', _, hc'⟩ := hr.2 j y hj
      simp only [Option.some.injEq, Addr.mk.injEq, and_true] at e'
      obtain ⟨rfl, rfl⟩ := e'
      have e : (⟨b, off, none⟩ : Addr).add j = ⟨b, off + j, none⟩ := by
        unfold Addr.add; split
        · rename_i h; subst h; rfl
        · rfl
      rw [e, hc', ← hu]; rfl
  have h1 : ∀ u ∈ l.map bcell, u.oneCell' = true := by
    intro u hu; simp only [List.mem_map] at hu; obtain ⟨y, _, rfl⟩ := hu; rfl
  have hown0 := hown
  obtain ⟨hl, g, cap, cur, fz, rfl, hbg, hg, hfree, hnc, hcm, hcs, htake⟩ := hown
  have hll : (l.map bcell).length = m * i.size := by rw [List.length_map, hr.1, hsize, Nat.mul_one]
  have hlm : (l.map bcell).length = m := by rw [List.length_map, hr.1]
  by_cases hroom : n + m ≤ cap
  · have hf := run_firstCells_some (P := P) w i.size m ⟨b, off, none⟩ m c (l.map bcell) hll hcells
    have hst := storeCells_free P g (n * i.size) e fz (l.map bcell) 0 cur w hg hfree (by rw [hsize, hlm, hcs]; omega) h1
    simp only [Nat.add_zero] at hst
    refine ⟨some ⟨g, 0, none⟩, cap, w.setRow g (cur.toList.take (n * i.size) ++ l.map bcell ++ cur.toList.drop (n * i.size + (l.map bcell).length)).toArray, ?_, ?_, ?_⟩
    · simp [Builtin.append_, run_underlying T.ht, sizeOf, typeInfo, hi, Builtin.lenOf, hroom, hf, Addr.add_lit, hst]
    · have hsz : (cur.toList.take (n * i.size) ++ l.map bcell ++ cur.toList.drop (n * i.size + (l.map bcell).length)).length = cap := by
        rw [hsize, hlm]
        simp only [List.length_append, List.length_take, List.length_drop, Array.length_toList, hlm, hcs]; omega
      refine ⟨by rw [List.length_append, hl, hr.1], g, cap, _, fz, rfl, hbg, setRow_heap w g cur _ e fz hg, ?_, hroom, hcm, ?_, ?_⟩
      · rw [List.size_toArray, hsz, ← hcs]; exact hfree
      · rw [List.size_toArray, hsz]
      · simp only [hsize, Nat.mul_one, hlm]
        rw [htake, List.map_append]
        exact List.take_left' (by simp [hl, hr.1])
    · exact below_setRow (Below.refl _ _) hbg _
  · have hxs : (xs.map bcell).length = n * i.size := by rw [List.length_map, hl, hsize, Nat.mul_one]
    have holds : ∀ j u, (xs.map bcell)[j]? = some u → w.cell? ((⟨g, 0, none⟩ : Addr).add j) = some u := by
      intro j u hu
      rw [List.getElem?_map] at hu
      rcases hj : xs[j]? with _ | y
      · rw [hj] at hu; cases hu
      · rw [hj] at hu
        simp only [Option.map_some, Option.some.injEq] at hu
        have e : (⟨g, 0, none⟩ : Addr).add j = ⟨g, j, none⟩ := by unfold Addr.add; split <;> simp_all
        rw [e, hown0.cells j y hj, hu]
    have hrun := run_append_grow (P := P) w t ty e i (.int .u8 0) T.ht hi hz ⟨g, 0, none⟩ n cap (xs.map bcell) hxs holds ⟨b, off, none⟩ m c (l.map bcell) hll hcells (by omega) (by omega) (growslice_fits (by omega) (by rw [hby]; omega))
    have hge := grownCap_ge w (n + m) cap e
    have hcm' : grownCap w (n + m) cap e ≤ maxLen := grownCap_le_maxLen w (n + m) cap e (by simp only [maxLen]; omega)
    refine ⟨_, _, _, hrun, ?_, (Below.refl base w).drew.alloc hbase _⟩
    refine ⟨by rw [List.length_append, hl, hr.1], w.heap.size, _, _, (0, 0), rfl, hbase, heap_alloc_new w.drew _, fun j _ h => by simp at h, hge, hcm', ?_, ?_⟩
    · simp only [Array.size_append, List.size_toArray, size_zeroCells, List.length_map, hl, hr.1, Value.cells]
      simp; omega
    · simp only [Array.toList_append, List.append_assoc]
      rw [← List.append_assoc]
      rw [List.take_append_of_le_length (by simp [hl, hr.1]), List.take_of_length_le (by simp [hl, hr.1]), List.map_append]
theorem wpList_appM {t e : TypeId} (T : ByteTypes P t e) {w : World} {ops : Array Oper} {rest : List Oper} {o : Oper} {a : Act} {Q : Exit → Act → World → Prop} (hgd : o.guard = none) (s x : Operand)
    (ho : o.op = .call { callee := .builtin .append, args := #[s, x], argTypes := #[t, t] })
    (base : Nat) (v : Value) (n : Nat) (xs : List UInt8) (hs : a.eval s = v) (hown : OwnM w base e v n xs)
    (b off m c : Nat) (l : List UInt8) (hx : a.eval x = .slice (some ⟨b, off, none⟩) m c) (hr : Bs w (some ⟨b, off, none⟩) m l) (hb : n + m ≤ 140737488355328) (hbase : base ≤ w.heap.size)
    (h : ∀ A' c' w', OwnM w' base e (.slice A' (n + m) c') (n + m) (xs ++ l) → Below base w w' → wpList P ops Q rest (a.put o.dst (.slice A' (n + m) c')) w') :
    wpList P ops Q (o :: rest) a w := by
  refine wpList_plain hgd fun K hK => ?_
  obtain ⟨A', c', w', hrun, h2, h3⟩ := run_appM T o.type w base v n xs hown b off m c l hr hb hbase
  unfold Oper.wp execOp
  simp only [ho, resolve, invoke, builtin, Sem.run_bind, Sem.run_pure, Result.andThen_ok, List.map_toArray, List.map_cons, List.map_nil, hs, hx, hrun]
  exact hK _ _ (h A' c' w' h2 h3)
end
end
section
open Go.RowKit
def u64 (n : Int) : Int := n % 18446744073709551616
theorem u64_ok (n : Int) : 0 ≤ u64 n ∧ u64 n < 18446744073709551616 := by unfold u64; omega
set_option maxHeartbeats 400000 in
theorem bytesOf_any (N W : Int) (w : World) : Calls Tryd.prog 61 #[.int .i64 N, .int .i64 W] w (NewSlice w 5 (bytesL (u64 N) W)) := by
  have hu := u64_ok N
  have HB := Lib.hid (Bytes_any (u64 N) W w hu.1 hu.2)
  unfold u64 at HB ⊢
  clear hu
  go_enter Tryd.func61, Tryd.ntmps61
  go_wp2_with (go_at_call 94; refine HB.out.mono ?_; rintro e1 w1 ⟨A1, n1, c1, rfl, hB1, hc1, hb1, ho1⟩)
  go_ret
  exact ⟨A1, n1, c1, rfl, hB1, hc1, hb1, ho1⟩
def NewM (w : World) (t : TypeId) (l : List UInt8) (e : Ending) (w' : World) : Prop :=
  ∃ A n c, e = .returned (.slice A n c) ∧ n ≤ c ∧ Below w.heap.size w w' ∧ OwnM w' w.heap.size t (.slice A n c) n l
def closedL (s : ByteArray) : List UInt8 := s.data.toList ++ [0]
theorem closedL_length (s : ByteArray) : (closedL s).length = s.size + 1 := by unfold closedL; rw [List.length_append]; rfl
theorem zero_new (w : World) (t : TypeId) : Bs (w.alloc (.cells #[.int .u8 0] t)) (some ⟨w.heap.size, 0, none⟩) 1 [0] := by
  refine lit_new w t _ 1 [0] rfl rfl ?_ (by omega)
  intro j x hx
  rcases j with _ | j
  · simp at hx; subst hx; rfl
  · simp at hx
set_option maxRecDepth 100000 in
set_option maxHeartbeats 400000 in
theorem closed_any (s : ByteArray) (w : World) (hs : s.size ≤ 140737488355000) : Calls Tryd.prog 64 #[.string s] w (NewM w 5 (closedL s)) := by
  have hcv := run_bytes_of_string (P := Tryd.prog) w 9 37 5 s Tryd.underlying9 Tryd.underlying37 Tryd.underlying5
  have HO := Lib.hid (bytes_new w s 5 (by omega))
  obtain ⟨w1, hw1⟩ : ∃ w1, w.drew.alloc (.cells (bytesRow s (grownCap w s.size 0 5)) 5 ((bytesRow s (grownCap w s.size 0 5)).size, (bytesRow s (grownCap w s.size 0 5)).size + 1)) = w1 := ⟨_, rfl⟩
  have hb1 : Below w.heap.size w w1 := by rw [← hw1]; exact (Below.refl _ w).drew.alloc (Nat.le_refl _) _
  rw [hw1] at hcv HO
  generalize grownCap w s.size 0 5 = cap at *
  generalize some (⟨w.heap.size, 0, none⟩ : Addr) = A0 at *
  clear hw1
  go_enter Tryd.func64, Tryd.ntmps64
  go_wp2_with (at_builtin; refine wpList_appM Tryd.byteTypes rfl (.tmp 4) (.tmp 5) rfl w.heap.size _ s.size s.data.toList rfl (HO.out.below ((Below.refl _ _).alloc (Nat.le_refl _) _)) _ _ 1 1 [0] rfl (zero_new w1 5) (by omega) (by have := hb1.size; simp; omega) ?_; intro A3 c3 w3 ho3 hb3)
  go_ret
  obtain ⟨A4, c4, e4, hc4⟩ := ho3.form
  injection e4 with e5 e6 e7
  subst e5 e7
  exact ⟨_, _, _, rfl, hc4, (hb1.alloc hb1.size _).trans hb3, ho3⟩
theorem Own.below {w w' : World} {base : Nat} {e : TypeId} {v : Value} {n : Nat} {l : List UInt8} (h : Own w base e v n l) (hb : Below w.heap.size w w') : Own w' base e v n l := by
  refine ⟨h.1, ?_⟩
  rcases h.2 with hn | ⟨g, cap, cur, hv, hbg, hg, r⟩
  · exact .inl hn
  · exact .inr ⟨g, cap, cur, hv, hbg, (hb.block g (Array.getElem?_eq_some_iff.1 hg).1).trans hg, r⟩
def partL (i : Int) (s : ByteArray) (n : Int) : List UInt8 := bytesL (u64 i) 4 ++ closedL s ++ bytesL (u64 n) 4
end
section
open Go.RowKit
def keyL (k : List UInt8) : List UInt8 := if 64 < k.length then sumL k else k
def padTo (k : List UInt8) : List UInt8 := k ++ List.replicate (64 - k.length) 0
def padK (k : List UInt8) : List UInt8 := padTo (keyL k)
def maskL (m : UInt8) (k : List UInt8) : List UInt8 := k.map fun x => x ^^^ m
def roundL (m : UInt8) (k l : List UInt8) : List UInt8 := sumL (maskL m k ++ l)
def macB (k l : List UInt8) : List UInt8 := roundL 92 k (roundL 54 k l)
def macL (k l : List UInt8) : List UInt8 := macB (padK k) l
theorem keyL_length (k : List UInt8) : (keyL k).length ≤ 64 := by
  unfold keyL; split
  · rw [sumL_length]; omega
  · omega
theorem padTo_length (k : List UInt8) (h : k.length ≤ 64) : (padTo k).length = 64 := by unfold padTo; rw [List.length_append, List.length_replicate]; omega
theorem padK_length (k : List UInt8) : (padK k).length = 64 := padTo_length _ (keyL_length k)
theorem roundL_length (m : UInt8) (k l : List UInt8) : (roundL m k l).length = 32 := sumL_length _
theorem macB_length (k l : List UInt8) : (macB k l).length = 32 := sumL_length _
theorem macL_length (k l : List UInt8) : (macL k l).length = 32 := sumL_length _
abbrev lit64 : Array Value := #[.int .u8 0, .int .u8 0, .int .u8 0, .int .u8 0, .int .u8 0, .int .u8 0, .int .u8 0, .int .u8 0, .int .u8 0, .int .u8 0, .int .u8 0, .int .u8 0, .int .u8 0, .int .u8 0, .int .u8 0, .int .u8 0, .int .u8 0, .int .u8 0, .int .u8 0, .int .u8 0, .int .u8 0, .int .u8 0, .int .u8 0, .int .u8 0, .int .u8 0, .int .u8 0, .int .u8 0, .int .u8 0, .int .u8 0, .int .u8 0, .int .u8 0, .int .u8 0, .int .u8 0, .int .u8 0, .int .u8 0, .int .u8 0, .int .u8 0, .int .u8 0, .int .u8 0, .int .u8 0, .int .u8 0, .int .u8 0, .int .u8 0, .int .u8 0, .int .u8 0, .int .u8 0, .int .u8 0, .int .u8 0, .int .u8 0, .int .u8 0, .int .u8 0, .int .u8 0, .int .u8 0, .int .u8 0, .int .u8 0, .int .u8 0, .int .u8 0, .int .u8 0, .int .u8 0, .int .u8 0, .int .u8 0, .int .u8 0, .int .u8 0, .int .u8 0]
theorem lit64_zero : lit64 = bcells zeros64 := rfl
theorem lit64_size : lit64.size = 64 := rfl
theorem Tryd.agg44 : AggType Tryd.prog 98 64 := ⟨_, Tryd.underlying98, rfl, by kernel_rfl⟩
theorem Tryd.under44 : Tryd.prog.underlying 98 = some (.array 64 5) := by kernel_rfl
theorem spl_pad (l : List UInt8) (n : Nat) (hl : l.length = n) (hn : n ≤ 64) : spl lit64 0 (l.take (Nat.min n 64)) = bcells (padTo l) := by
  have hm : Nat.min n 64 = n := Nat.min_eq_left hn
  rw [hm, List.take_of_length_le (by omega), lit64_zero]
  unfold spl splice bcells padTo zeros64
  simp only [List.map_append, List.map_replicate, List.length_map, List.drop_replicate, List.take_zero, List.nil_append, Nat.zero_add, hl]
theorem Row.bsB {w : World} {g : Nat} {t : TypeId} {l : List UInt8} {n : Nat} (h : Row w g t (bcells l)) (hl : l.length = n) : Bs w (some ⟨g, 0, none⟩) n l :=
  ⟨hl, fun k x hx => ⟨g, 0, rfl, h.lt, by rw [Nat.zero_add, h.cell k, bcells_get?, hx]; rfl⟩⟩
set_option maxRecDepth 100000 in
set_option maxHeartbeats 1000000 in
theorem blockOf_short (A : Option Addr) (n c : Nat) (l : List UInt8) (w : World) (hB : Bs w A n l) (hn : n ≤ 64) :
    Calls Tryd.prog 62 #[.slice A n c] w fun e w' => e = .returned (.agg (bcells (padTo l))) ∧ Below w.heap.size w w' := by
  have HB := Lib.hid (hB.below (((Below.refl _ _).alloc (Nat.le_refl _) (.cells lit64 98)).alloc (by simp) (.cells lit64 98)))
  have hlt : decide (64 < (n : Int)) = false := by simp; omega
  have hle : ¬ (64 < (n : Int)) := by omega
  have HP := Lib.hid (spl_pad l n hB.1 hn)
  have HS := Lib.hid (show (bcells (padTo l)).size = 64 by rw [bcells_size, padTo_length l (by rw [hB.1]; exact hn)])
  have hcut := run_cut_all (P := Tryd.prog) Tryd.under44 Tryd.size5 (w.heap.size + 1) 0
  clear hB
  go_enter Tryd.func62, Tryd.ntmps62
  go_wp2_with (first
    | (with_reducible refine wpList_copyB Tryd.byteTypes rfl (.tmp 11) (.tmp 12) rfl (w.heap.size + 1) 0 64 64 A n c rfl rfl l 98 lit64 (Row.new1 w _ 98 lit64) HB.out ?hfit ?_; rotate_left; intro w3 hr3 ho3; rw [HP.out] at hr3; have HR3 := Lib.hid hr3; have HZ3 := Lib.hid (((Row.new w 98 lit64).alloc _).only ho3 (by omega)); clear hr3)
    | (with_reducible refine wpList_load_row Tryd.agg44 rfl (.tmp 3) rfl _ rfl 98 _ HR3.out HS.out ?_)
    | (with_reducible refine wpList_store_row Tryd.agg44 rfl (.tmp 2) (.tmp 14) rfl _ _ rfl rfl 98 lit64 HZ3.out HS.out lit64_size (bcells_one _) ?_; intro w9 hr9 ho9; have HR9 := Lib.hid hr9; clear hr9))
  · exact bodyPost_ret (results_row1 Tryd.agg44 Tryd.results62 rfl HR9.out HS.out) rfl ⟨rfl, ((((Below.refl _ _).alloc (Nat.le_refl _) _).alloc (by simp) _).trans (ho3.below (by omega) (by simp; omega))).trans (ho9.below (by omega) (by have := ho3.size; simp at this; omega))⟩
set_option maxRecDepth 100000 in
set_option maxHeartbeats 1000000 in
theorem blockOf_long (A : Option Addr) (n c : Nat) (l : List UInt8) (w : World) (hB : Bs w A n l) (hnc : n ≤ c) (hT : Tab 1 w) (hn : n ≤ 1152921504606846976) (h64 : 64 < n) :
    Calls Tryd.prog 62 #[.slice A n c] w fun e w' => e = .returned (.agg (bcells (padTo (sumL l)))) ∧ Below w.heap.size w w' := by
  have hb0 := ((Below.refl w.heap.size w).alloc (Nat.le_refl _) (.cells lit64 98)).alloc (by simp) (.cells lit64 98)
  have HSum := Lib.hid (Sum_any A n c l _ (hB.below hb0) hnc (hT.below hb0) hn)
  have hlt : (64 < (n : Int)) := by omega
  have HP := Lib.hid (spl_pad (sumL l) 32 (sumL_length l) (by omega))
  have HS := Lib.hid (show (bcells (padTo (sumL l))).size = 64 by rw [bcells_size, padTo_length _ (by rw [sumL_length]; omega)])
  have HS3 := Lib.hid (show (bcells (sumL l)).size = 32 by rw [bcells_size, sumL_length])
  have HL := Lib.hid (sumL_length l)
  have hcut := run_cut_all (P := Tryd.prog) Tryd.under44 Tryd.size5 (w.heap.size + 1) 0
  have hcut2 := run_cut_all (P := Tryd.prog) Tryd.underlying24' Tryd.size5
  generalize sumL l = S at *
  clear hB hT
  go_enter Tryd.func62, Tryd.ntmps62
  go_wp2_with (first
    | (go_at_call 75; refine HSum.out.mono ?_; rintro e1 w1 ⟨rfl, hb1⟩; have hs1 := hb1.size; have HZ1 := Lib.hid (((Row.new w 98 lit64).alloc (.cells lit64 98)).below hb1 (by simp; omega)); have HY1 := Lib.hid ((Row.new1 w (.cells lit64 98) 98 lit64).below hb1 (by simp)))
    | (with_reducible refine wpList_store_row Tryd.agg25 rfl (.tmp 4) (.tmp 9) rfl _ _ rfl rfl 23 lit32 (Row.new w1 23 lit32) HS3.out lit32_size (bcells_one _) ?_; intro w2 hr2 ho2; have HR2 := Lib.hid (hr2.bsB HL.out); have HZ2 := Lib.hid ((HZ1.out.alloc _).only ho2 (by simp at hs1; omega)); have HY2 := Lib.hid ((HY1.out.alloc _).only ho2 (by simp at hs1; omega)); clear hr2)
    | (with_reducible refine wpList_copyB Tryd.byteTypes rfl (.tmp 11) (.tmp 12) rfl (w.heap.size + 1) 0 64 64 _ 32 32 rfl rfl S 98 lit64 HY2.out HR2.out (by decide) ?_; intro w3 hr3 ho3; rw [HP.out] at hr3; have HR3 := Lib.hid hr3; have HZ3 := Lib.hid (HZ2.out.only ho3 (by omega)); clear hr3)
    | (with_reducible refine wpList_load_row Tryd.agg44 rfl (.tmp 3) rfl _ rfl 98 _ HR3.out HS.out ?_)
    | (with_reducible refine wpList_store_row Tryd.agg44 rfl (.tmp 2) (.tmp 14) rfl _ _ rfl rfl 98 lit64 HZ3.out HS.out lit64_size (bcells_one _) ?_; intro w9 hr9 ho9; have HR9 := Lib.hid hr9; clear hr9))
  refine bodyPost_ret (results_row1 Tryd.agg44 Tryd.results62 rfl HR9.out HS.out) rfl ⟨rfl, ?_⟩
  have hs2 := ho2.size
  have hs3 := ho3.size
  simp at hs1 hs2
  have hb2 : Below w.heap.size w w1 := hb0.trans (hb1.mono (by simp; omega))
  exact (((hb2.alloc hb2.size _).trans (ho2.below (by omega) (by simp; omega))).trans (ho3.below (by omega) (by omega))).trans (ho9.below (by omega) (by omega))
theorem blockOf_any (A : Option Addr) (n c : Nat) (l : List UInt8) (w : World) (hB : Bs w A n l) (hnc : n ≤ c) (hT : Tab 1 w) (hn : n ≤ 1152921504606846976) :
    Calls Tryd.prog 62 #[.slice A n c] w fun e w' => e = .returned (.agg (bcells (padK l))) ∧ Below w.heap.size w w' := by
  unfold padK keyL
  by_cases h : 64 < l.length
  · rw [if_pos h]; exact blockOf_long A n c l w hB hnc hT hn (by rw [← hB.1]; exact h)
  · rw [if_neg h]; exact blockOf_short A n c l w hB (by rw [← hB.1]; omega)
end
section
open Go.RowKit
/-- the first j bytes of a block masked -/
def mixL (m : UInt8) (k : List UInt8) (j : Nat) : List UInt8 := maskL m (k.take j) ++ k.drop j
theorem mixL_zero (m : UInt8) (k : List UInt8) : mixL m k 0 = k := by simp [mixL, maskL]
theorem mixL_all (m : UInt8) (k : List UInt8) (h : k.length = 64) : mixL m k 64 = maskL m k := by
  unfold mixL; rw [List.take_of_length_le (by omega), List.drop_eq_nil_of_le (by omega), List.append_nil]
theorem mixL_length (m : UInt8) (k : List UInt8) (j : Nat) : (mixL m k j).length = k.length := by
  simp [mixL, maskL, List.length_take, List.length_drop]; omega
theorem mixL_get (m : UInt8) (k : List UInt8) (j : Nat) (h : j < k.length) : (mixL m k j)[j]? = some (k.getD j 0) := by
  unfold mixL maskL
  rw [List.getElem?_append_right (by simp; omega)]
  simp only [List.length_map, List.length_take, List.getElem?_drop]
  rw [show j + (j - min j k.length) = j by omega, List.getElem?_eq_getElem h, List.getD_eq_getElem?_getD, List.getElem?_eq_getElem h]; rfl
theorem mixL_step (m : UInt8) (k : List UInt8) (j : Nat) (h : j < k.length) : (bcells (mixL m k j)).setIfInBounds j (.int .u8 (((k.getD j 0) ^^^ m).toNat : Int)) = bcells (mixL m k (j + 1)) := by
  apply Array.ext_getElem?
  intro i
  rw [Array.getElem?_setIfInBounds]
  have hl := mixL_length m k j
  have hl1 := mixL_length m k (j + 1)
  have e : maskL m (k.take (j + 1)) = maskL m (k.take j) ++ [k.getD j 0 ^^^ m] := by
    unfold maskL
    rw [List.take_add_one, List.map_append, List.getElem?_eq_getElem h, List.getD_eq_getElem?_getD, List.getElem?_eq_getElem h]; rfl
  have hlm : (maskL m (k.take j)).length = j := by simp [maskL, List.length_take]; omega
  by_cases hi : j = i
  · subst hi
    rw [if_pos rfl, if_pos (by rw [bcells_size]; omega), bcells_get?]
    unfold mixL
    rw [e, List.append_assoc, List.getElem?_append_right (by omega), hlm, Nat.sub_self]; rfl
  · rw [if_neg hi, bcells_get?, bcells_get?]
    unfold mixL
    rw [e]
    by_cases h1 : i < j
    · rw [List.getElem?_append_left (by omega), List.append_assoc, List.getElem?_append_left (by omega)]
    · rw [List.getElem?_append_right (by omega), List.getElem?_append_right (by rw [List.length_append, hlm]; simp; omega), hlm, List.length_append, hlm, List.getElem?_drop, List.getElem?_drop]
      congr 2; simp; omega
theorem maskL_length (m : UInt8) (k : List UInt8) : (maskL m k).length = k.length := by simp [maskL]
set_option maxRecDepth 100000 in
set_option maxHeartbeats 1000000 in
theorem round_any (k : List UInt8) (m : UInt8) (A : Option Addr) (n c : Nat) (l : List UInt8) (w : World) (hk : k.length = 64) (hB : Bs w A n l) (hnc : n ≤ c) (hT : Tab 1 w) (hn : n ≤ 1000000000000000) :
    Calls Tryd.prog 95 #[.agg (bcells k), .int .u8 (m.toNat : Int), .slice A n c] w fun e w' => e = .returned (.agg (bcells (roundL m k l))) ∧ Below w.heap.size w w' := by
  have HB := Lib.hid hB
  have HT := Lib.hid hT
  have HK := Lib.hid hk
  have h2 := hT.1
  have hl := hB.1
  have hm0 := mixL_zero m k
  have HRL := Lib.hid (show (bcells (roundL m k l)).size = 32 by rw [bcells_size, roundL_length])
  have HML := Lib.hid (show (maskL m k).length = 64 by rw [maskL_length, hk])
  have HALL := Lib.hid (mixL_all m k hk)
  unfold roundL at HRL ⊢
  generalize maskL m k = L at *
  clear hB hT hk
  go_enter Tryd.func95, Tryd.ntmps95
  go_wp2_with fail
  go_loopw [9] (fun i wr => ∃ (j : Nat) (zs : Array Value), j ≤ 64 ∧ i = .int .i64 (j : Int) ∧ Below w.heap.size w wr ∧ Row wr w.heap.size 98 (bcells (mixL m k j)) ∧ Row wr (w.heap.size + 1) 23 zs ∧ Hid (zs.size = 32)) (fun i _ => 64 - (intOf i).toNat)
  case atStart =>
    exact ⟨0, _, Nat.zero_le _, rfl, ((Below.refl _ _).alloc (Nat.le_refl _) _).alloc (by simp) _, by rw [hm0]; exact (Row.new _ _ _).alloc _, Row.new1 _ _ _ _, Lib.hid rfl⟩
  case round =>
    obtain ⟨j, zs, hj, rfl, hbel, hr, hz, HZS⟩ := hrel
    have HR := Lib.hid hr
    have HZ := Lib.hid hz
    have hbs := hbel.size
    have hz1 := hz.lt
    by_cases hlt : j < 64
    · have i0 : (0 : Int) ≤ (j : Int) := by omega
      have i64 : (j : Int) < 64 := by omega
      obtain ⟨X, hX⟩ : ∃ X, k.getD j 0 = X := ⟨_, rfl⟩
      have x1 : wr.cell? ⟨w.heap.size, j, none⟩ = some (.int .u8 (X.toNat : Int)) := by
        rw [hr.cell j, bcells_get?, mixL_get m k j (by rw [HK.out]; exact hlt), hX]; rfl
      have HXX := Lib.hid hX
      have hfz := hr.frozen j
      have HX := Lib.hid (u8_xor X m)
      clear hr hz hX
      go_wp2_with fail
      refine ⟨⟨j + 1, zs, by omega, by go_num, hbel.setCell (by simp) _, ?_, HZ.out.far (by simp) _, HZS⟩, by simp [intOf]; omega⟩
      have h3 := HR.out.set j (.int .u8 (((k.getD j 0) ^^^ m).toNat : Int))
      rw [mixL_step m k j (by rw [HK.out]; exact hlt)] at h3
      rw [HX.out, ← HXX.out]
      exact h3
    · obtain rfl : j = 64 := by omega
      rw [HALL.out] at HR
      have hcut := run_cut_all (P := Tryd.prog) Tryd.under44 Tryd.size5 w.heap.size 0
      have HTr := Lib.hid (HT.out.below hbel)
      have HBr := Lib.hid (HB.out.below hbel)
      clear hr hz
      go_wp2_with (first
        | (go_at_call 96; refine (New_any _).mono ?_; rintro e2 w2 ⟨g, rfl, hg0, hh2, hb2⟩; have HH2 := Lib.hid hh2; have HR2 := Lib.hid (HR.out.below hb2 (by omega)); have HZ2 := Lib.hid (HZ.out.below hb2 (by omega)); have hs2 := hb2.size; clear hh2)
        | (go_at_call_of 97 (Value.slice A n c); (refine (Write_any g L A n c l w3 (by simpa using HH3.out) ((HBr.out.below hb2).only (HBr.out.apart hg0) ho3) (HBr.out.apart hg0) hnc ((HTr.out.below hb2).only ho3 (by omega)) (by omega) (by rw [HML.out]; omega)).mono ?_; rintro e4 w4 ⟨rfl, hh4, ho4⟩; have HH4 := Lib.hid hh4; have hs4 := ho4.size; clear hh4))
        | (go_at_call 97; (refine (Write_any g [] (some ⟨w.heap.size, 0, none⟩) 64 64 L w2 HH2.out (HR2.out.bsB HML.out) (.inr ⟨_, _, rfl, by omega⟩) (Nat.le_refl _) (HTr.out.below hb2) (by omega) (by simp)).mono ?_; rintro e3 w3 ⟨rfl, hh3, ho3⟩; have HH3 := Lib.hid hh3; have hs3 := ho3.size; clear hh3))
        | (go_at_call 98; (refine (HSum_any g (L ++ l) w4 HH4.out (((HTr.out.below hb2).only ho3 (by omega)).only ho4 (by omega)) (by rw [List.length_append, HML.out, hl]; omega)).mono ?_; rintro e5 w5 ⟨rfl, hb5⟩; have HZ5 := Lib.hid (((HZ2.out.only ho3 (by omega)).only ho4 (by omega)).below hb5 (by omega)); have hs5 := hb5.size))
        | ((with_reducible refine wpList_store_row Tryd.agg25 rfl (.tmp 6) (.tmp 27) rfl _ _ rfl rfl 23 zs HZ5.out HRL.out HZS.out (bcells_one _) ?_); intro w9 hr9 ho9; have HR9 := Lib.hid hr9; clear hr9))
      refine bodyPost_ret (results_row1 Tryd.agg25 Tryd.results95 rfl HR9.out HRL.out) rfl ⟨rfl, ?_⟩
      have b2 := hbel.trans (hb2.mono hbs)
      have b3 := b2.trans (ho3.below (B := w.heap.size) (by omega) b2.size)
      have b4 := b3.trans (ho4.below (B := w.heap.size) (by omega) b3.size)
      have b5 := b4.trans (hb5.mono b4.size)
      exact b5.trans (ho9.below (by omega) b5.size)
set_option maxRecDepth 100000 in
set_option maxHeartbeats 1000000 in
theorem bmac_any (k : List UInt8) (A : Option Addr) (n c : Nat) (l : List UInt8) (w : World) (hk : k.length = 64) (hB : Bs w A n l) (hnc : n ≤ c) (hT : Tab 1 w) (hn : n ≤ 1000000000000000) :
    Calls Tryd.prog 63 #[.agg (bcells k), .slice A n c] w fun e w' => e = .returned (.agg (bcells (macB k l))) ∧ Below w.heap.size w w' := by
  have hmf : ∀ (fn : Fn) (first cap : Array Value) (w : World), (Instr.makeFunc fn first cap).run Tryd.prog w = .ok (.func fn first cap) w := fun _ _ _ _ => rfl
  have HB := Lib.hid hB
  have HT := Lib.hid hT
  have HK := Lib.hid hk
  have h2 := hT.1
  have HKS := Lib.hid (show (bcells k).size = 64 by rw [bcells_size, hk])
  have HL1 := Lib.hid (roundL_length 54 k l)
  have HS1 := Lib.hid (show (bcells (roundL 54 k l)).size = 32 by rw [bcells_size, roundL_length])
  have HS2 := Lib.hid (show (bcells (macB k l)).size = 32 by rw [bcells_size, macB_length])
  have HR54 := Lib.hid (fun w hB hT => round_any k 54 A n c l w hk hB hnc hT hn)
  have HR92 := Lib.hid (fun g w hB hT => round_any k 92 (some ⟨g, 0, none⟩) 32 32 (roundL 54 k l) w hk hB (by omega) hT (by omega))
  have hcut := run_cut_all (P := Tryd.prog) Tryd.underlying24' Tryd.size5
  unfold macB at HS2 ⊢
  generalize roundL 54 k l = L1 at *
  generalize roundL 92 k L1 = L2 at *
  have hb0 := ((Below.refl w.heap.size w).alloc (Nat.le_refl _) (.cells (bcells k) 98)).alloc (by simp) (.cells lit32 23)
  have HB0 := Lib.hid (HB.out.below hb0)
  have HT0 := Lib.hid (HT.out.below hb0)
  clear hB hT hk
  go_enter Tryd.func63, Tryd.ntmps63
  go_wp2_with (first
    | (with_reducible refine wpList_load_row Tryd.agg44 rfl (.tmp 2) rfl _ rfl 98 _ ((Row.new w 98 (bcells k)).alloc _) HKS.out ?_)
    | (go_at_call_of 95 (Value.slice A n c); refine (HR54.out _ HB0.out HT0.out).mono ?_; rintro e1 w1 ⟨rfl, hb1⟩; have hs1 := hb1.size; have HZ1 := Lib.hid ((Row.new1 w (.cells (bcells k) 98) 23 lit32).below hb1 (by simp)); have HT1 := Lib.hid (HT0.out.below hb1))
    | (with_reducible refine wpList_store_row Tryd.agg25 rfl (.tmp 6) (.tmp 11) rfl _ _ rfl rfl 23 lit32 (Row.new w1 23 lit32) HS1.out lit32_size (bcells_one _) ?_; intro w2 hr2 ho2; have HR2 := Lib.hid (hr2.bsB HL1.out); have HZ2 := Lib.hid ((HZ1.out.alloc _).only ho2 (by simp at hs1; omega)); have hs2 := ho2.size; have HT2 := Lib.hid ((HT1.out.below ((Below.refl _ _).alloc (Nat.le_refl _) _)).only ho2 (by simp at hs1; omega)); clear hr2)
    | (go_at_call 95; refine (HR92.out _ _ HR2.out HT2.out).mono ?_; rintro e3 w3 ⟨rfl, hb3⟩; have HZ3 := Lib.hid (HZ2.out.below hb3 (by simp at hs1 hs2; omega)); have hs3 := hb3.size)
    | (with_reducible refine wpList_store_row Tryd.agg25 rfl (.tmp 4) (.tmp 14) rfl _ _ rfl rfl 23 lit32 HZ3.out HS2.out lit32_size (bcells_one _) ?_; intro w9 hr9 ho9; have HR9 := Lib.hid hr9; clear hr9))
  refine bodyPost_ret (results_row1 Tryd.agg25 Tryd.results63 rfl HR9.out HS2.out) rfl ⟨rfl, ?_⟩
  simp at hs1 hs2
  have b1 := hb0.trans (hb1.mono (by simp; omega))
  have b2 := (b1.alloc b1.size (.cells lit32 23)).trans (ho2.below (B := w.heap.size) (by omega) (by simp; omega))
  have b3 := b2.trans (hb3.mono b2.size)
  exact b3.trans (ho9.below (by omega) b3.size)
end
section
open Go.RowKit
/-- they lie in blocks of their own -/
def Sep (u v : Value) : Prop := ∀ g, u.ownBlock = some g → v.ownBlock ≠ some g
theorem Sep.symm {u v : Value} (h : Sep u v) : Sep v u := fun g h1 h2 => h g h2 h1
theorem Sep.nil (v : Value) : Sep (.slice none 0 0) v := fun g h => by cases h
theorem bs_cells {w : World} {b off m : Nat} {l : List UInt8} (hr : Bs w (some ⟨b, off, none⟩) m l) (j : Nat) (u : Value) (hu : (l.map fun x => Value.int .u8 (x.toNat : Int))[j]? = some u) : w.cell? ((⟨b, off, none⟩ : Addr).add j) = some u := by
  rw [List.getElem?_map] at hu
  rcases hj : l[j]? with _ | y
  · rw [hj] at hu; cases hu
  · rw [hj] at hu
    simp only [Option.map_some, Option.some.injEq] at hu
    obtain ⟨b', off', e', _, hc'⟩ := hr.2 j y hj
    simp only [Option.some.injEq, Addr.mk.injEq, and_true] at e'
    obtain ⟨rfl, rfl⟩ := e'
    have e : (⟨b, off, none⟩ : Addr).add j = ⟨b, off + j, none⟩ := by
      unfold Addr.add; split
      · rename_i h; subst h; rfl
      · rfl
    rw [e, hc', hu]
section
variable {P : Program}
theorem run_app2 {t e : TypeId} (T : ByteTypes P t e) (ty : TypeId) (w : World) (base : Nat) (v : Value) (n : Nat) (xs : List UInt8) (hown : Own w base e v n xs) (u : Value) (k : Nat) (ys : List UInt8) (hu : Own w base e u k ys) (hsep : Sep u v)
    (b off m c : Nat) (l : List UInt8) (hr : Bs w (some ⟨b, off, none⟩) m l) (hb : n + m ≤ 140737488355328) (hbase : base ≤ w.heap.size) :
    ∃ A' c' w', (Builtin.append_ #[t, t] ty #[v, .slice (some ⟨b, off, none⟩) m c]).run P w = .ok (.slice A' (n + m) c') w' ∧ Own w' base e (.slice A' (n + m) c') (n + m) (xs ++ l) ∧ Own w' base e u k ys ∧ Sep u (.slice A' (n + m) c') ∧ Below base w w' := by
  obtain ⟨i, hi, hz, hsize, hby⟩ := info_parts T.hi
  obtain ⟨v', w', hrun, h2, h3, _, h5⟩ := run_append_own_at (P := P) w base t ty e i (.int .u8 0) 1 1 T.ht hi hz hsize hby rfl (by omega) v n _ hown ⟨b, off, none⟩ m c _ (by simp [hr.1]) (bs_cells hr)
    (by intro u hu; simp only [List.mem_map] at hu; obtain ⟨y, _, rfl⟩ := hu; rfl) (by simp only [maxLen]; omega) (by omega) hbase
  have h2' : Own w' base e v' (n + m) (xs ++ l) := by unfold Own; rw [List.map_append]; exact h2
  obtain ⟨A', c', rfl, _⟩ := h2'.form
  refine ⟨A', c', w', hrun, h2', hu.kept h3 ?_, ?_, (Below.refl base w).grown h3 hbase fun k hk => (hown.lt k hk).1⟩
  · rcases hub : u.ownBlock with _ | g
    · exact .inl rfl
    · exact .inr fun h => hsep g hub h.symm
  · intro g hg h
    rcases h5 with h5 | h5
    · exact hsep g hg (h5 ▸ h)
    · rw [h5] at h
      have := (hu.lt g hg).2
      simp only [Option.some.injEq] at h
      omega
theorem wpList_app2 {t e : TypeId} (T : ByteTypes P t e) {w : World} {ops : Array Oper} {rest : List Oper} {o : Oper} {a : Act} {Q : Exit → Act → World → Prop} (hgd : o.guard = none) (s x : Operand)
    (ho : o.op = .call { callee := .builtin .append, args := #[s, x], argTypes := #[t, t] })
    (base : Nat) (v : Value) (n : Nat) (xs : List UInt8) (hs : a.eval s = v) (hown : Own w base e v n xs) (u : Value) (k : Nat) (ys : List UInt8) (hu : Own w base e u k ys) (hsep : Sep u v)
    (b off m c : Nat) (l : List UInt8) (hx : a.eval x = .slice (some ⟨b, off, none⟩) m c) (hr : Bs w (some ⟨b, off, none⟩) m l) (hb : n + m ≤ 140737488355328) (hbase : base ≤ w.heap.size)
    (h : ∀ A' c' w', Own w' base e (.slice A' (n + m) c') (n + m) (xs ++ l) → Own w' base e u k ys → Sep u (.slice A' (n + m) c') → Below base w w' → wpList P ops Q rest (a.put o.dst (.slice A' (n + m) c')) w') :
    wpList P ops Q (o :: rest) a w := by
  refine wpList_plain hgd fun K hK => ?_
  obtain ⟨A', c', w', hrun, h2, h3, h4, h5⟩ := run_app2 T o.type w base v n xs hown u k ys hu hsep b off m c l hr hb hbase
  unfold Oper.wp execOp
  simp only [ho, resolve, invoke, builtin, Sem.run_bind, Sem.run_pure, Result.andThen_ok, List.map_toArray, List.map_cons, List.map_nil, hs, hx, hrun]
  exact hK _ _ (h A' c' w' h2 h3 h4 h5)
end
end
section
open Go.RowKit
theorem take_getD (d : List UInt8) (k : Nat) (h : k < d.length) : d.take k ++ [d.getD k 0] = d.take (k + 1) := by
  rw [List.take_add_one, List.getElem?_eq_getElem h, List.getD_eq_getElem?_getD, List.getElem?_eq_getElem h]; rfl
set_option maxRecDepth 100000 in
set_option maxHeartbeats 1000000 in
theorem DBytes_any (d : List UInt8) (w : World) (hd : d.length = 32) : Calls Tryd.prog 60 #[.agg (bcells d)] w (NewSlice w 5 d) := by
  have HD := Lib.hid hd
  clear hd
  go_enter Tryd.func60, Tryd.ntmps60
  go_wp2_with fail
  go_loopw [3, 4] (fun t i wr => ∃ (k : Nat) (A : Option Addr) (c : Nat), k ≤ 32 ∧ i = .int .i64 (k : Int) ∧ t = .slice A k c ∧ Below w.heap.size w wr ∧ Row wr w.heap.size 23 (bcells d) ∧ Own wr (w.heap.size + 1) 5 (.slice A k c) k (d.take k)) (fun _ i _ => 32 - (intOf i).toNat)
  case atStart => exact ⟨0, none, 0, Nat.zero_le _, rfl, rfl, (Below.refl _ _).alloc (Nat.le_refl _) _, Row.new _ _ _, Own.nil _ _ _⟩
  case round =>
    obtain ⟨k, A, c, hk, rfl, rfl, hbel, hr, ho⟩ := hrel
    have hbs := hbel.size
    have hr1 := hr.lt
    have HO := Lib.hid ho
    have HR := Lib.hid hr
    by_cases hlt : k < 32
    · have i0 : (0 : Int) ≤ (k : Int) := by omega
      have i1 : (k : Int) < 32 := by omega
      obtain ⟨X, hX⟩ : ∃ X, d.getD k 0 = X := ⟨_, rfl⟩
      have x1 : wr.cell? ⟨w.heap.size, k, none⟩ = some (.int .u8 (X.toNat : Int)) := by
        rw [hr.cell k, bcells_get _ _ (by rw [HD.out]; exact hlt), hX]
      have HX := Lib.hid hX
      clear hr ho hX
      go_wp2_with (at_builtin; refine wpList_app Tryd.byteTypes rfl (.tmp 9) (.tmp 13) rfl (w.heap.size + 1) _ k (d.take k) rfl (own_below HO.out ((Below.refl _ _).alloc (Nat.le_refl _) _)) _ 1 1 [X] rfl (one_of wr X 5).bs (by omega) (by simp; omega) ?_; intro A3 c3 w3 ho3 hb3 _)
      refine ⟨⟨k + 1, A3, c3, by omega, by go_num, rfl, ?_, ?_, ?_⟩, by simp [intOf]; omega⟩
      · exact (hbel.alloc hbs _).trans (hb3.mono (by omega))
      · exact (HR.out.alloc _).below hb3 (by omega)
      · rw [← take_getD d k (by rw [HD.out]; exact hlt), HX.out]; exact ho3
    · obtain rfl : k = 32 := by omega
      rw [List.take_of_length_le (by rw [HD.out]; exact Nat.le_refl _)] at HO
      clear hr ho
      go_wp2_with fail
      go_ret
      obtain ⟨A4, c4, e4, hc4⟩ := HO.out.form
      injection e4 with e5 e6 e7
      subst e5 e7
      exact ⟨_, _, _, rfl, HO.out.bs, hc4, hbel, HO.out.mono (by omega)⟩
theorem padTo_getD (k : List UInt8) (j : Nat) : (padTo k).getD j 0 = k.getD j 0 := by
  unfold padTo
  rw [List.getD_eq_getElem?_getD, List.getD_eq_getElem?_getD]
  by_cases h : j < k.length
  · rw [List.getElem?_append_left h]
  · rw [List.getElem?_append_right (by omega), List.getElem?_eq_none (l := k) (by omega), List.getElem?_replicate]
    split <;> rfl
theorem mask_take (m : UInt8) (k : List UInt8) (j : Nat) (h : j < k.length) : maskL m (k.take (j + 1)) = maskL m (k.take j) ++ [k.getD j 0 ^^^ m] := by
  unfold maskL
  rw [← take_getD k j h, List.map_append]; rfl
theorem mask_all (m : UInt8) (k : List UInt8) (h : k.length = 64) : maskL m (k.take 64) = maskL m k := by rw [List.take_of_length_le (by omega)]
set_option maxRecDepth 100000 in
set_option maxHeartbeats 1000000 in
theorem RefMac_any (A B : Option Addr) (n m c d : Nat) (k l : List UInt8) (w : World) (hA : Bs w A n k) (hB : Bs w B m l) (hnc : n ≤ c) (hF : First w) (hT : Tab 2 w) (hn : n ≤ 1000000) (hm : m ≤ 900000) :
    Calls Tryd.prog 83 #[.slice A n c, .slice B m d] w fun e w' => e = .returned (.agg (bcells (macL k l))) ∧ Below w.heap.size w w' := by
  have hb0 := (Below.refl w.heap.size w).alloc (Nat.le_refl _) (.cells lit32 23)
  have HSum := Lib.hid (RefSum_any A n c k _ (hA.below hb0) hnc (hF.below hb0) (hT.below hb0) hn)
  have HS := Lib.hid (show (bcells (macL k l)).size = 32 by rw [bcells_size, macL_length])
  have HA := Lib.hid (hA.below hb0)
  have HB := Lib.hid hB
  have HF := Lib.hid hF
  have HT := Lib.hid hT
  have hlk := hA.1
  have hll := hB.1
  have HR : Hid (macL k l = macB (padTo (keyL k)) l) := Lib.hid rfl
  have hKl := keyL_length k
  have HK : Hid (keyL k = if 64 < k.length then sumL k else k) := Lib.hid rfl
  have HSL := Lib.hid (sumL_length k)
  generalize sumL k = S at *
  generalize keyL k = KL at *
  generalize macL k l = R at *
  have HPL := Lib.hid (padTo_length KL hKl)
  clear hA hB hF hT
  by_cases h64 : 64 < n
  · have i64 : 64 < (n : Int) := by omega
    have hK : KL = S := by rw [HK.out, if_pos (by omega)]
    subst hK
    clear HK
    go_enter Tryd.func83, Tryd.ntmps83
    go_wp2_with (first
      | (go_at_call 99; refine HSum.out.mono ?_; rintro e1 w0 ⟨rfl, hb00⟩; have hs00 := hb00.size)
      | (go_at_call 60; refine (DBytes_any KL w0 HSL.out).mono ?_; rintro e1 w1 ⟨A1, n1, c1, rfl, hB1, hc1, hb01, -⟩; have HB1 := Lib.hid hB1; have hn1 := hB1.1; have HZ1 := Lib.hid (((Row.new w 23 lit32).below hb00 (by simp)).below hb01 (by simp at hs00; omega)); have hb1 : Below w.heap.size w w1 := (hb0.trans (hb00.mono (by simp))).trans (hb01.mono (by simp at hs00; omega)); clear hB1))
    clear HA HSum
    have HBt := Lib.hid (HB.out.below hb1)
    have HFt := Lib.hid (HF.out.below hb1)
    have HTt := Lib.hid (HT.out.below hb1)
    have hs1 := hb1.size
    have hz1 := HZ1.out.lt
    clear HB HF HT
    go_loopw [5, 6, 7] (fun t5 t6 i wr => ∃ (j : Nat) (A5 : Option Addr) (c5 : Nat) (A6 : Option Addr) (c6 : Nat), j ≤ 64 ∧ i = .int .i64 (j : Int) ∧ t5 = .slice A5 j c5 ∧ t6 = .slice A6 j c6 ∧ Below w1.heap.size w1 wr ∧ Own wr w1.heap.size 5 (.slice A5 j c5) j (maskL 54 ((padTo KL).take j)) ∧ Own wr w1.heap.size 5 (.slice A6 j c6) j (maskL 92 ((padTo KL).take j)) ∧ Sep (.slice A6 j c6) (.slice A5 j c5)) (fun _ _ i _ => 64 - (intOf i).toNat)
    case atStart => exact ⟨0, none, 0, none, 0, Nat.zero_le _, rfl, rfl, rfl, Below.refl _ _, Own.nil _ _ _, Own.nil _ _ _, Sep.nil _⟩
    case round =>
      obtain ⟨j, A5, c5, A6, c6, hj, rfl, rfl, rfl, hbel, ho5, ho6, hsep⟩ := hrel
      have hbs := hbel.size
      have HSep := Lib.hid hsep
      by_cases hlt : j < 64
      · obtain ⟨X, hX⟩ : ∃ X, (padTo KL).getD j 0 = X := ⟨_, rfl⟩
        have e54 := mask_take 54 (padTo KL) j (by rw [HPL.out]; exact hlt)
        have e92 := mask_take 92 (padTo KL) j (by rw [HPL.out]; exact hlt)
        rw [hX] at e54 e92
        have x54 : bits .xor .u8 (X.toNat : Int) 54 = ((X ^^^ 54).toNat : Int) := u8_xor X 54
        have x92 : bits .xor .u8 (X.toNat : Int) 92 = ((X ^^^ 92).toNat : Int) := u8_xor X 92
        rw [padTo_getD] at hX
        have E54 := Lib.hid e54
        have E92 := Lib.hid e92
        obtain ⟨Y5, hY5⟩ : ∃ Y, X ^^^ 54 = Y := ⟨_, rfl⟩
        obtain ⟨Y6, hY6⟩ : ∃ Y, X ^^^ 92 = Y := ⟨_, rfl⟩
        rw [hY5] at E54 x54
        rw [hY6] at E92 x92
        have HO5 := Lib.hid ho5
        have HO6 := Lib.hid ho6
        clear ho5 ho6 e54 e92 hY5 hY6
        generalize maskL 54 ((padTo KL).take j) = L5 at HO5 E54
        generalize maskL 92 ((padTo KL).take j) = L6 at HO6 E92
        have HX := Lib.hid hX
        have HBk := Lib.hid (HB1.out.below hbel)
        clear hX hsep
        by_cases hjn : j < n1
        · have i0 : (0 : Int) ≤ (j : Int) := by omega
          have i1 : (j : Int) < (n1 : Int) := by omega
          have i2 : (j : Int) < 64 := by omega
          obtain ⟨b, off, x, hAe, hblt, hx, hcx⟩ := HBk.out.get hjn
          have hxX : x = X := by
            have h := HX.out
            rw [List.getD_eq_getElem?_getD, hx] at h
            exact h
          subst hAe
          subst hxX
          clear hx
          go_wp2_with (first
            | (at_builtin; refine wpList_app2 Tryd.byteTypes rfl (.tmp 27) (.tmp 30) rfl w1.heap.size _ j L5 rfl (own_below HO5.out ((Below.refl _ _).alloc (Nat.le_refl _) _)) (.slice A6 j c6) j L6 (own_below HO6.out ((Below.refl _ _).alloc (Nat.le_refl _) _)) HSep.out _ _ 1 1 [Y5] rfl (one_of wr Y5 5).bs (by omega) (by simp; omega) ?_; intro A7 c7 w7 ho7 ho6 hsep7 hb7; have HO7 := Lib.hid ho7; have HO67 := Lib.hid ho6; have HS7 := Lib.hid hsep7; have hs7 := hb7.size; clear ho7 ho6 hsep7)
            | (at_builtin; refine wpList_app2 Tryd.byteTypes rfl (.tmp 32) (.tmp 35) rfl w1.heap.size _ j L6 rfl (own_below HO67.out ((Below.refl _ _).alloc (Nat.le_refl _) _)) (.slice A7 (j + 1) c7) (j + 1) (L5 ++ [Y5]) (own_below HO7.out ((Below.refl _ _).alloc (Nat.le_refl _) _)) HS7.out.symm _ _ 1 1 [Y6] rfl (one_of w7 Y6 5).bs (by omega) (by simp at hs7; simp; omega) ?_; intro A8 c8 w8 ho8 ho7 hsep8 hb8))
          refine ⟨⟨j + 1, A7, c7, A8, c8, by omega, by go_num, rfl, rfl, ?_, by rw [E54.out]; exact ho7, by rw [E92.out]; exact ho8, hsep8.symm⟩, by simp [intOf]; omega⟩
          exact (((hbel.alloc hbs _).trans hb7).alloc (Nat.le_trans hbs (by simp at hs7; omega)) _).trans hb8
        · have i1 : ¬ (j : Int) < (n1 : Int) := by omega
          have i2 : (j : Int) < 64 := by omega
          have hxX : X = 0 := by
            have h := HX.out
            rw [List.getD_eq_getElem?_getD, List.getElem?_eq_none (by omega)] at h
            exact h.symm
          subst hxX
          have y54 : bits .xor .u8 0 54 = (Y5.toNat : Int) := x54
          have y92 : bits .xor .u8 0 92 = (Y6.toNat : Int) := x92
          clear x54 x92
          go_wp2_with (first
            | (at_builtin; refine wpList_app2 Tryd.byteTypes rfl (.tmp 27) (.tmp 30) rfl w1.heap.size _ j L5 rfl (own_below HO5.out ((Below.refl _ _).alloc (Nat.le_refl _) _)) (.slice A6 j c6) j L6 (own_below HO6.out ((Below.refl _ _).alloc (Nat.le_refl _) _)) HSep.out _ _ 1 1 [Y5] rfl (one_of wr Y5 5).bs (by omega) (by simp; omega) ?_; intro A7 c7 w7 ho7 ho6 hsep7 hb7; have HO7 := Lib.hid ho7; have HO67 := Lib.hid ho6; have HS7 := Lib.hid hsep7; have hs7 := hb7.size; clear ho7 ho6 hsep7)
            | (at_builtin; refine wpList_app2 Tryd.byteTypes rfl (.tmp 32) (.tmp 35) rfl w1.heap.size _ j L6 rfl (own_below HO67.out ((Below.refl _ _).alloc (Nat.le_refl _) _)) (.slice A7 (j + 1) c7) (j + 1) (L5 ++ [Y5]) (own_below HO7.out ((Below.refl _ _).alloc (Nat.le_refl _) _)) HS7.out.symm _ _ 1 1 [Y6] rfl (one_of w7 Y6 5).bs (by omega) (by simp at hs7; simp; omega) ?_; intro A8 c8 w8 ho8 ho7 hsep8 hb8))
          refine ⟨⟨j + 1, A7, c7, A8, c8, by omega, by go_num, rfl, rfl, ?_, by rw [E54.out]; exact ho7, by rw [E92.out]; exact ho8, hsep8.symm⟩, by simp [intOf]; omega⟩
          exact (((hbel.alloc hbs _).trans hb7).alloc (Nat.le_trans hbs (by simp at hs7; omega)) _).trans hb8
      · obtain rfl : j = 64 := by omega
        rw [mask_all 54 (padTo KL) HPL.out] at ho5
        rw [mask_all 92 (padTo KL) HPL.out] at ho6
        have HR2 : Hid (R = sumL (maskL 92 (padTo KL) ++ sumL (maskL 54 (padTo KL) ++ l))) := HR
        have HB5 := Lib.hid ho5.bs
        have HB6 := Lib.hid ho6.bs
        clear ho5 ho6
        have hl5 := HB5.out.1
        have hl6 := HB6.out.1
        have HS1 := Lib.hid (fun A n c w hB hnc hF hT hn => RefSum_any A n c (maskL 54 (padTo KL) ++ l) w hB hnc hF hT hn)
        have HD1 := Lib.hid (sumL_length (maskL 54 (padTo KL) ++ l))
        generalize maskL 54 (padTo KL) = L5 at *
        generalize maskL 92 (padTo KL) = L6 at *
        generalize sumL (L5 ++ l) = D at *
        have HS2 := Lib.hid (fun A n c w hB hnc hF hT hn => RefSum_any A n c (L6 ++ D) w hB hnc hF hT hn)
        rw [← HR2.out] at HS2
        have HBr := Lib.hid (HBt.out.below hbel)
        have HFr := Lib.hid (HFt.out.below hbel)
        have HTr := Lib.hid (HTt.out.below hbel)
        have HZr := Lib.hid (HZ1.out.below hbel hz1)
        clear HBt HFt HTt HR HR2 hsep
        go_wp2_with (first
          | (go_at_call_of 102 (Value.slice B m d); refine (RefJoin_any A5 B 64 m c5 d L5 l wr HB5.out HBr.out (by omega)).mono ?_; rintro e2 w2 ⟨A2, n2, c2, rfl, hB2, hc2, hb2, -⟩; have HB2 := Lib.hid hB2; have hl2 := hB2.1; have hs2 := hb2.size; rw [List.length_append, hl5, hll] at hl2; clear hB2)
          | (go_at_call_of 99 (Value.slice A2 n2 c2); refine (HS1.out _ _ _ w2 HB2.out hc2 (HFr.out.below hb2) (HTr.out.below hb2) (by omega)).mono ?_; rintro e3 w3 ⟨rfl, hb3⟩; have hs3 := hb3.size)
          | (go_at_call 60; refine (DBytes_any D w3 HD1.out).mono ?_; rintro e4 w4 ⟨A4, n4, c4, rfl, hB4, hc4, hb4, -⟩; have HB4 := Lib.hid hB4; have hl4 := hB4.1; rw [HD1.out] at hl4; have hs4 := hb4.size; have hb24 : Below wr.heap.size wr w4 := (hb2.trans (hb3.mono hs2)).trans (hb4.mono (by omega)); clear hB4)
          | (go_at_call 102; refine (RefJoin_any A6 A4 64 n4 c6 c4 L6 D w4 (HB6.out.below hb24) HB4.out (by omega)).mono ?_; rintro e5 w5 ⟨A5', n5, c5', rfl, hB5, hc5, hb5, -⟩; have HB5' := Lib.hid hB5; have hl5' := hB5.1; rw [List.length_append, hl6, HD1.out] at hl5'; have hs5 := hb5.size; have hb25 := hb24.trans (hb5.mono (by omega)); clear hB5)
          | (go_at_call 99; refine (HS2.out _ _ _ w5 HB5'.out hc5 (HFr.out.below hb25) (HTr.out.below hb25) (by omega)).mono ?_; rintro e6 w6 ⟨rfl, hb6⟩; have hs6 := hb6.size; have hb26 := hb25.trans (hb6.mono (by omega)); have HZ6 := Lib.hid (HZr.out.below hb26 (by omega)))
          | (with_reducible refine wpList_store_row Tryd.agg25 rfl (.tmp 4) (.tmp 44) rfl _ _ rfl rfl 23 lit32 HZ6.out HS.out lit32_size (bcells_one _) ?_; intro w9 hr9 ho9; have HR9 := Lib.hid hr9; clear hr9))
        refine bodyPost_ret (results_row1 Tryd.agg25 Tryd.results83 rfl HR9.out HS.out) rfl ⟨rfl, ?_⟩
        have b1 := hb1.trans (hbel.mono hs1)
        have b2 := b1.trans (hb26.mono (by omega))
        exact b2.trans (ho9.below (Nat.le_refl _) b2.size)
  · have i64 : ¬ 64 < (n : Int) := by omega
    have hK : KL = k := by rw [HK.out, if_neg (by omega)]
    subst hK
    clear HK HSum HSL
    obtain ⟨A1, rfl⟩ : ∃ A1, A1 = A := ⟨_, rfl⟩
    obtain ⟨n1, rfl⟩ : ∃ n1, n1 = n := ⟨_, rfl⟩
    have hn1 : KL.length = n1 := HA.out.1
    go_enter Tryd.func83, Tryd.ntmps83
    go_wp2_with fail
    have HZ1 := Lib.hid (Row.new w 23 lit32)
    obtain ⟨w1, hw1⟩ : ∃ w1, w.alloc (.cells lit32 23) = w1 := ⟨_, rfl⟩
    rw [hw1] at HZ1 HA
    rw [hw1]
    have hb1 : Below w.heap.size w w1 := by rw [← hw1]; exact hb0
    have HB1 := HA
    clear hw1 hb0 HA
    have HBt := Lib.hid (HB.out.below hb1)
    have HFt := Lib.hid (HF.out.below hb1)
    have HTt := Lib.hid (HT.out.below hb1)
    have hs1 := hb1.size
    have hz1 := HZ1.out.lt
    clear HB HF HT
    go_loopw [5, 6, 7] (fun t5 t6 i wr => ∃ (j : Nat) (A5 : Option Addr) (c5 : Nat) (A6 : Option Addr) (c6 : Nat), j ≤ 64 ∧ i = .int .i64 (j : Int) ∧ t5 = .slice A5 j c5 ∧ t6 = .slice A6 j c6 ∧ Below w1.heap.size w1 wr ∧ Own wr w1.heap.size 5 (.slice A5 j c5) j (maskL 54 ((padTo KL).take j)) ∧ Own wr w1.heap.size 5 (.slice A6 j c6) j (maskL 92 ((padTo KL).take j)) ∧ Sep (.slice A6 j c6) (.slice A5 j c5)) (fun _ _ i _ => 64 - (intOf i).toNat)
    case atStart => exact ⟨0, none, 0, none, 0, Nat.zero_le _, rfl, rfl, rfl, Below.refl _ _, Own.nil _ _ _, Own.nil _ _ _, Sep.nil _⟩
    case round =>
      obtain ⟨j, A5, c5, A6, c6, hj, rfl, rfl, rfl, hbel, ho5, ho6, hsep⟩ := hrel
      have hbs := hbel.size
      have HSep := Lib.hid hsep
      by_cases hlt : j < 64
      · obtain ⟨X, hX⟩ : ∃ X, (padTo KL).getD j 0 = X := ⟨_, rfl⟩
        have e54 := mask_take 54 (padTo KL) j (by rw [HPL.out]; exact hlt)
        have e92 := mask_take 92 (padTo KL) j (by rw [HPL.out]; exact hlt)
        rw [hX] at e54 e92
        have x54 : bits .xor .u8 (X.toNat : Int) 54 = ((X ^^^ 54).toNat : Int) := u8_xor X 54
        have x92 : bits .xor .u8 (X.toNat : Int) 92 = ((X ^^^ 92).toNat : Int) := u8_xor X 92
        rw [padTo_getD] at hX
        have E54 := Lib.hid e54
        have E92 := Lib.hid e92
        obtain ⟨Y5, hY5⟩ : ∃ Y, X ^^^ 54 = Y := ⟨_, rfl⟩
        obtain ⟨Y6, hY6⟩ : ∃ Y, X ^^^ 92 = Y := ⟨_, rfl⟩
        rw [hY5] at E54 x54
        rw [hY6] at E92 x92
        have HO5 := Lib.hid ho5
        have HO6 := Lib.hid ho6
        clear ho5 ho6 e54 e92 hY5 hY6
        generalize maskL 54 ((padTo KL).take j) = L5 at HO5 E54
        generalize maskL 92 ((padTo KL).take j) = L6 at HO6 E92
        have HX := Lib.hid hX
        have HBk := Lib.hid (HB1.out.below hbel)
        clear hX hsep
        by_cases hjn : j < n1
        · have i0 : (0 : Int) ≤ (j : Int) := by omega
          have i1 : (j : Int) < (n1 : Int) := by omega
          have i2 : (j : Int) < 64 := by omega
          obtain ⟨b, off, x, hAe, hblt, hx, hcx⟩ := HBk.out.get hjn
          have hxX : x = X := by
            have h := HX.out
            rw [List.getD_eq_getElem?_getD, hx] at h
            exact h
          subst hAe
          subst hxX
          clear hx
          go_wp2_with (first
            | (at_builtin; refine wpList_app2 Tryd.byteTypes rfl (.tmp 27) (.tmp 30) rfl w1.heap.size _ j L5 rfl (own_below HO5.out ((Below.refl _ _).alloc (Nat.le_refl _) _)) (.slice A6 j c6) j L6 (own_below HO6.out ((Below.refl _ _).alloc (Nat.le_refl _) _)) HSep.out _ _ 1 1 [Y5] rfl (one_of wr Y5 5).bs (by omega) (by simp; omega) ?_; intro A7 c7 w7 ho7 ho6 hsep7 hb7; have HO7 := Lib.hid ho7; have HO67 := Lib.hid ho6; have HS7 := Lib.hid hsep7; have hs7 := hb7.size; clear ho7 ho6 hsep7)
            | (at_builtin; refine wpList_app2 Tryd.byteTypes rfl (.tmp 32) (.tmp 35) rfl w1.heap.size _ j L6 rfl (own_below HO67.out ((Below.refl _ _).alloc (Nat.le_refl _) _)) (.slice A7 (j + 1) c7) (j + 1) (L5 ++ [Y5]) (own_below HO7.out ((Below.refl _ _).alloc (Nat.le_refl _) _)) HS7.out.symm _ _ 1 1 [Y6] rfl (one_of w7 Y6 5).bs (by omega) (by simp at hs7; simp; omega) ?_; intro A8 c8 w8 ho8 ho7 hsep8 hb8))
          refine ⟨⟨j + 1, A7, c7, A8, c8, by omega, by go_num, rfl, rfl, ?_, by rw [E54.out]; exact ho7, by rw [E92.out]; exact ho8, hsep8.symm⟩, by simp [intOf]; omega⟩
          exact (((hbel.alloc hbs _).trans hb7).alloc (Nat.le_trans hbs (by simp at hs7; omega)) _).trans hb8
        · have i1 : ¬ (j : Int) < (n1 : Int) := by omega
          have i2 : (j : Int) < 64 := by omega
          have hxX : X = 0 := by
            have h := HX.out
            rw [List.getD_eq_getElem?_getD, List.getElem?_eq_none (by omega)] at h
            exact h.symm
          subst hxX
          have y54 : bits .xor .u8 0 54 = (Y5.toNat : Int) := x54
          have y92 : bits .xor .u8 0 92 = (Y6.toNat : Int) := x92
          clear x54 x92
          go_wp2_with (first
            | (at_builtin; refine wpList_app2 Tryd.byteTypes rfl (.tmp 27) (.tmp 30) rfl w1.heap.size _ j L5 rfl (own_below HO5.out ((Below.refl _ _).alloc (Nat.le_refl _) _)) (.slice A6 j c6) j L6 (own_below HO6.out ((Below.refl _ _).alloc (Nat.le_refl _) _)) HSep.out _ _ 1 1 [Y5] rfl (one_of wr Y5 5).bs (by omega) (by simp; omega) ?_; intro A7 c7 w7 ho7 ho6 hsep7 hb7; have HO7 := Lib.hid ho7; have HO67 := Lib.hid ho6; have HS7 := Lib.hid hsep7; have hs7 := hb7.size; clear ho7 ho6 hsep7)
            | (at_builtin; refine wpList_app2 Tryd.byteTypes rfl (.tmp 32) (.tmp 35) rfl w1.heap.size _ j L6 rfl (own_below HO67.out ((Below.refl _ _).alloc (Nat.le_refl _) _)) (.slice A7 (j + 1) c7) (j + 1) (L5 ++ [Y5]) (own_below HO7.out ((Below.refl _ _).alloc (Nat.le_refl _) _)) HS7.out.symm _ _ 1 1 [Y6] rfl (one_of w7 Y6 5).bs (by omega) (by simp at hs7; simp; omega) ?_; intro A8 c8 w8 ho8 ho7 hsep8 hb8))
          refine ⟨⟨j + 1, A7, c7, A8, c8, by omega, by go_num, rfl, rfl, ?_, by rw [E54.out]; exact ho7, by rw [E92.out]; exact ho8, hsep8.symm⟩, by simp [intOf]; omega⟩
          exact (((hbel.alloc hbs _).trans hb7).alloc (Nat.le_trans hbs (by simp at hs7; omega)) _).trans hb8
      · obtain rfl : j = 64 := by omega
        rw [mask_all 54 (padTo KL) HPL.out] at ho5
        rw [mask_all 92 (padTo KL) HPL.out] at ho6
        have HR2 : Hid (R = sumL (maskL 92 (padTo KL) ++ sumL (maskL 54 (padTo KL) ++ l))) := HR
        have HB5 := Lib.hid ho5.bs
        have HB6 := Lib.hid ho6.bs
        clear ho5 ho6
        have hl5 := HB5.out.1
        have hl6 := HB6.out.1
        have HS1 := Lib.hid (fun A n c w hB hnc hF hT hn => RefSum_any A n c (maskL 54 (padTo KL) ++ l) w hB hnc hF hT hn)
        have HD1 := Lib.hid (sumL_length (maskL 54 (padTo KL) ++ l))
        generalize maskL 54 (padTo KL) = L5 at *
        generalize maskL 92 (padTo KL) = L6 at *
        generalize sumL (L5 ++ l) = D at *
        have HS2 := Lib.hid (fun A n c w hB hnc hF hT hn => RefSum_any A n c (L6 ++ D) w hB hnc hF hT hn)
        rw [← HR2.out] at HS2
        have HBr := Lib.hid (HBt.out.below hbel)
        have HFr := Lib.hid (HFt.out.below hbel)
        have HTr := Lib.hid (HTt.out.below hbel)
        have HZr := Lib.hid (HZ1.out.below hbel hz1)
        clear HBt HFt HTt HR HR2 hsep
        go_wp2_with (first
          | (go_at_call_of 102 (Value.slice B m d); refine (RefJoin_any A5 B 64 m c5 d L5 l wr HB5.out HBr.out (by omega)).mono ?_; rintro e2 w2 ⟨A2, n2, c2, rfl, hB2, hc2, hb2, -⟩; have HB2 := Lib.hid hB2; have hl2 := hB2.1; have hs2 := hb2.size; rw [List.length_append, hl5, hll] at hl2; clear hB2)
          | (go_at_call_of 99 (Value.slice A2 n2 c2); refine (HS1.out _ _ _ w2 HB2.out hc2 (HFr.out.below hb2) (HTr.out.below hb2) (by omega)).mono ?_; rintro e3 w3 ⟨rfl, hb3⟩; have hs3 := hb3.size)
          | (go_at_call 60; refine (DBytes_any D w3 HD1.out).mono ?_; rintro e4 w4 ⟨A4, n4, c4, rfl, hB4, hc4, hb4, -⟩; have HB4 := Lib.hid hB4; have hl4 := hB4.1; rw [HD1.out] at hl4; have hs4 := hb4.size; have hb24 : Below wr.heap.size wr w4 := (hb2.trans (hb3.mono hs2)).trans (hb4.mono (by omega)); clear hB4)
          | (go_at_call 102; refine (RefJoin_any A6 A4 64 n4 c6 c4 L6 D w4 (HB6.out.below hb24) HB4.out (by omega)).mono ?_; rintro e5 w5 ⟨A5', n5, c5', rfl, hB5, hc5, hb5, -⟩; have HB5' := Lib.hid hB5; have hl5' := hB5.1; rw [List.length_append, hl6, HD1.out] at hl5'; have hs5 := hb5.size; have hb25 := hb24.trans (hb5.mono (by omega)); clear hB5)
          | (go_at_call 99; refine (HS2.out _ _ _ w5 HB5'.out hc5 (HFr.out.below hb25) (HTr.out.below hb25) (by omega)).mono ?_; rintro e6 w6 ⟨rfl, hb6⟩; have hs6 := hb6.size; have hb26 := hb25.trans (hb6.mono (by omega)); have HZ6 := Lib.hid (HZr.out.below hb26 (by omega)))
          | (with_reducible refine wpList_store_row Tryd.agg25 rfl (.tmp 4) (.tmp 44) rfl _ _ rfl rfl 23 lit32 HZ6.out HS.out lit32_size (bcells_one _) ?_; intro w9 hr9 ho9; have HR9 := Lib.hid hr9; clear hr9))
        refine bodyPost_ret (results_row1 Tryd.agg25 Tryd.results83 rfl HR9.out HS.out) rfl ⟨rfl, ?_⟩
        have b1 := hb1.trans (hbel.mono hs1)
        have b2 := b1.trans (hb26.mono (by omega))
        exact b2.trans (ho9.below (Nat.le_refl _) b2.size)
end
section
open Go.RowKit
section
variable {P : Program}
theorem wpList_bytes {t e u : TypeId} (T : ByteTypes P t e) (hu : P.underlying u = some .string) (he : P.underlying e = some (.int .u8)) {w : World} {ops : Array Oper} {rest : List Oper} {o : Oper} {a : Act} {Q : Exit → Act → World → Prop} (hgd : o.guard = none) (x : Operand)
    (ho : o.op = .convert u t x) (s : ByteArray) (hx : a.eval x = .string s) (hs : s.size ≤ 9223372036854775807)
    (h : ∀ A c w', OwnM w' w.heap.size e (.slice A s.size c) s.size s.data.toList → s.size ≤ c → Below w.heap.size w w' → wpList P ops Q rest (a.put o.dst (.slice A s.size c)) w') :
    wpList P ops Q (o :: rest) a w := by
  refine wpList_plain hgd fun K hK => ?_
  have hrun := run_bytes_of_string (P := P) w u t e s hu T.ht he
  have ho1 := bytes_new w s e hs
  unfold Oper.wp
  simp only [execOp, ho, hx, hrun, Sem.run_bind, Sem.run_pure, Result.andThen_ok]
  exact hK _ _ (h _ _ _ ho1 (grownCap_ge w s.size 0 e) ((Below.refl _ w).drew.alloc (Nat.le_refl _) _))
theorem wpList_appS {t e u : TypeId} (T : ByteTypes P t e) (hu : P.underlying u = some .string) {w : World} {ops : Array Oper} {rest : List Oper} {o : Oper} {a : Act} {Q : Exit → Act → World → Prop} (hgd : o.guard = none) (sl x : Operand)
    (ho : o.op = .call { callee := .builtin .append, args := #[sl, x], argTypes := #[t, u] })
    (base : Nat) (v : Value) (n : Nat) (xs : List UInt8) (hs : a.eval sl = v) (hown : Own w base e v n xs) (s : ByteArray) (hx : a.eval x = .string s)
    (hb : n + s.size ≤ 140737488355328) (hbase : base ≤ w.heap.size)
    (h : ∀ A' c' w', Own w' base e (.slice A' (n + s.size) c') (n + s.size) (xs ++ s.data.toList) → Below base w w' → wpList P ops Q rest (a.put o.dst (.slice A' (n + s.size) c')) w') :
    wpList P ops Q (o :: rest) a w := by
  obtain ⟨i, hi, hz, hsize, hby⟩ := info_parts T.hi
  refine Lib.wpList_append_own_string (w := w) hgd sl x t u ho base e i T.ht hu hi hz hsize hby v n _ hs hown s hx (by simp only [maxLen]; omega) hb hbase ?_
  intro v' w' h2 h3 _
  have h2' : Own w' base e v' (n + s.size) (xs ++ s.data.toList) := by
    unfold Own
    rw [List.map_append]
    have e : Lib.strCells s = s.data.toList.map fun x => Value.int .u8 (x.toNat : Int) := by simp [Lib.strCells]
    rw [← e]; exact h2
  obtain ⟨A', c', rfl, _⟩ := h2'.form
  exact h A' c' w' h2' ((Below.refl base w).grown h3 hbase fun k hk => (hown.lt k hk).1)
end
end
section
open Go.ChangeShapes Go.WideShapes Go.ChangeAt Go.RowKit
theorem byte_of {k : Int} (hw : (Lit.int .u8 k).wf = true) : ∃ x : UInt8, k = (x.toNat : Int) := by
  simp only [Lit.wf, Bool.and_eq_true, IntKind.min, IntKind.max] at hw
  obtain ⟨h1, h2⟩ := hw
  refine ⟨UInt8.ofNat k.toNat, ?_⟩
  simp [IntKind.bits, IntKind.signed] at h1 h2
  rw [UInt8.toNat_ofNat']
  omega
theorem cells_bytes (cs : Array Value) : ∀ n, n ≤ cs.size → (∀ i, i < n → ∃ x : UInt8, cs[i]? = some (bcell x)) → ∃ l : List UInt8, l.length = n ∧ ∀ i, i < n → cs[i]? = (l[i]?).map bcell
  | 0, _, _ => ⟨[], rfl, fun i h => by omega⟩
  | n + 1, hn, h => by
    obtain ⟨l, hl, hg⟩ := cells_bytes cs n (by omega) (fun i hi => h i (by omega))
    obtain ⟨x, hx⟩ := h n (by omega)
    refine ⟨l ++ [x], by simp [hl], fun i hi => ?_⟩
    by_cases e : i = n
    · subst e; rw [List.getElem?_append_right (by omega), hl, Nat.sub_self, hx]; rfl
    · rw [List.getElem?_append_left (by omega)]; exact hg i (by omega)
set_option maxRecDepth 100000 in
theorem open_digest {H : Type} {enc : TypeId × Value → H} {W : World} {base : Nat} {v : Value} {d : DataW H} {p : List MemPlace} (hv : Value.okWide Tryd.prog W .any base 23 v)
    (h : DataW.Trod enc Tryd.prog W 0 (fun _ => true) true 23 v d p) : ∃ s : List UInt8, s.length = 32 ∧ v = .agg (bcells s) := by
  obtain ⟨cs, rfl, hsz⟩ : ∃ cs, v = .agg cs ∧ cs.size = Tryd.prog.cellsOf 23 := by
    simp only [Value.okWide, Tryd.underlying24'] at hv
    obtain ⟨cs, h1, h2, _⟩ := hv
    exact ⟨cs, h1, h2⟩
  obtain ⟨fuel, hf⟩ := h
  obtain ⟨xs, m, rfl, hx, hlen, hxl, hel⟩ := DataW.trod_array Tryd.underlying24' hf
  have c5 : Tryd.prog.cellsOf 5 = 1 := by kernel_rfl
  have c25 : Tryd.prog.cellsOf 23 = 32 := by kernel_rfl
  rw [c25] at hsz
  obtain ⟨l, hl, hg⟩ := cells_bytes cs 32 (by omega) (fun i hi => by
    have hi' := hel i hi
    rw [c5, Nat.mul_one] at hi'
    obtain ⟨x, hx'⟩ : ∃ x, xs[i]? = some x := ⟨_, List.getElem?_eq_getElem (by omega)⟩
    rw [hx'] at hi'
    obtain ⟨k, e1, e2, hw⟩ := DataW.trod_int Tryd.underlying5 hi'
    have e3 := congrArg (·[0]?) e1
    simp [Value.cells, List.getElem?_drop] at e3
    obtain ⟨y, rfl⟩ := byte_of hw
    exact ⟨y, e3⟩)
  refine ⟨l, hl, ?_⟩
  congr 1
  apply Array.ext_getElem?
  intro j
  rw [bcells_get?]
  by_cases hj : j < 32
  · exact hg j hj
  · rw [Array.getElem?_eq_none (by omega), List.getElem?_eq_none (by omega)]; rfl
/-- a label, a byte 0, and a number's lowest eight bytes -/
def seedL (s : ByteArray) (i : Int) : List UInt8 := closedL s ++ bytesL (u64 i) 8
theorem bytesL8_length (N : Int) : (bytesL N 8).length = 8 := by
  unfold bytesL; rw [if_pos (by omega)]; exact bytesOf_length _ _
theorem bytesL4_length (N : Int) : (bytesL N 4).length = 4 := by
  unfold bytesL; rw [if_pos (by omega)]; exact bytesOf_length _ _
theorem Bs.addr {w : World} {A : Option Addr} {n : Nat} {l : List UInt8} (h : Bs w A n l) (hn : 0 < n) : ∃ b off, A = some ⟨b, off, none⟩ := by
  obtain ⟨b, off, x, e, _⟩ := h.get hn; exact ⟨b, off, e⟩
set_option maxRecDepth 100000 in
set_option maxHeartbeats 1000000 in
theorem Seed_any (k : List UInt8) (s : ByteArray) (i : Int) (w : World) (hk : k.length = 32) (hs : s.size ≤ 200) (hT : Tab 1 w) :
    Calls Tryd.prog 35 #[.agg (bcells k), .string s, .int .i64 i] w fun e w' => e = .returned (.agg (bcells (macL k (seedL s i)))) ∧ Below w.heap.size w w' := by
  have l3 := closedL_length s
  have l2 := bytesL8_length (u64 i)
  have HI := Lib.hid (bytesOf_any i 8)
  have HC := Lib.hid (fun w => closed_any s w (by omega))
  have HKey := Lib.hid (fun g w hB hT => blockOf_any (some ⟨g, 0, none⟩) 32 32 k w hB (Nat.le_refl _) hT (by omega))
  have HS := Lib.hid (show (bcells (macL k (seedL s i))).size = 32 by rw [bcells_size, macL_length])
  have HM := Lib.hid (fun A n c w hB hc hT hn => bmac_any (padK k) A n c (seedL s i) w (padK_length k) hB hc hT hn)
  have HK := Lib.hid hk
  have HT := Lib.hid hT
  have h2 := hT.1
  have hcut := run_cut_all (P := Tryd.prog) Tryd.underlying24' Tryd.size5 w.heap.size 0
  unfold macL seedL at *
  generalize padK k = K at *
  generalize closedL s = L3 at *
  generalize bytesL (u64 i) 8 = L2 at *
  generalize macB K (L3 ++ L2) = R at *
  have hb0 := ((Below.refl w.heap.size w).alloc (Nat.le_refl _) (.cells (bcells k) 23)).alloc (by simp) (.cells lit32 23)
  have HKR := Lib.hid ((Row.new w 23 (bcells k)).alloc (.cells lit32 23))
  have HZR := Lib.hid (Row.new1 w (.cells (bcells k) 23) 23 lit32)
  clear hT hk
  go_enter Tryd.func35, Tryd.ntmps35
  go_wp2_with (first
    | (go_at_call 61; refine (HI.out _).mono ?_; rintro e1 w1 ⟨A1, n1, c1, rfl, hB1, hc1, hb1, -⟩; have HB1 := Lib.hid hB1; have hn1 := hB1.1; have hs1 := hb1.size; simp at hs1; have hb1' := hb0.trans (hb1.mono (by simp; omega)); clear hB1)
    | (go_at_call 62; refine (HKey.out _ w1 ((HKR.out.below hb1 (by simp; omega)).bsB HK.out) (HT.out.below hb1')).mono ?_; rintro e2 w2 ⟨rfl, hb2⟩; have hb2' := hb1'.trans (hb2.mono hb1'.size); have hs2 := hb2.size)
    | (go_at_call 64; refine (HC.out w2).mono ?_; rintro e3 w3 ⟨A3, n3, c3, rfl, hc3, hb3, ho3⟩; have HO3 := Lib.hid ho3; have hn3 := ho3.1; have hb3' := hb2'.trans (hb3.mono hb2'.size); have hs3 := hb3.size; obtain ⟨g1, off1, hA1⟩ := HB1.out.addr (by omega); subst hA1; clear ho3)
    | (at_builtin; refine wpList_appM Tryd.byteTypes rfl (.tmp 13) (.tmp 14) rfl w2.heap.size _ n3 L3 rfl HO3.out _ _ n1 c1 L2 rfl ((HB1.out.below hb2).below hb3) (by omega) (by omega) ?_; intro A4 c4 w4 ho4 hb4; have HB4 := Lib.hid ho4.bs; have hb4' := hb3'.trans (hb4.mono hb2'.size); have hs4 := hb4.size; obtain ⟨_, _, e4, hc4⟩ := ho4.form; injection e4 with e5 e6 e7; subst e5 e7; clear ho4)
    | (go_at_call 63; refine (HM.out _ _ _ w4 HB4.out hc4 (HT.out.below hb4') (by omega)).mono ?_; rintro e5 w5 ⟨rfl, hb5⟩; have hb5' := hb4'.trans (hb5.mono hb4'.size); have HZ5 := Lib.hid (((((HZR.out.below hb1 (by simp)).below hb2 (by omega)).below hb3 (by omega)).below hb4 (by omega)).below hb5 (by omega)))
    | (with_reducible refine wpList_store_row Tryd.agg25 rfl (.tmp 6) (.tmp 16) rfl _ _ rfl rfl 23 lit32 HZ5.out HS.out lit32_size (bcells_one _) ?_; intro w9 hr9 ho9; have HR9 := Lib.hid hr9; clear hr9))
  refine bodyPost_ret (results_row1 Tryd.agg25 Tryd.results35 rfl HR9.out HS.out) rfl ⟨rfl, ?_⟩
  exact hb5'.trans (ho9.below (by omega) hb5'.size)
set_option maxRecDepth 100000 in
set_option maxHeartbeats 1000000 in
theorem RefSeed_any (k : List UInt8) (s : ByteArray) (i : Int) (w : World) (hk : k.length = 32) (hs : s.size ≤ 200) (hF : First w) (hT : Tab 2 w) :
    Calls Tryd.prog 44 #[.agg (bcells k), .string s, .int .i64 i] w fun e w' => e = .returned (.agg (bcells (macL k (seedL s i)))) ∧ Below w.heap.size w w' := by
  have l3 := closedL_length s
  have l2 := bytesL8_length (u64 i)
  have hu := u64_ok i
  have HI := Lib.hid (fun w => RefBytes_any (u64 i) 8 w hu.1 hu.2)
  have HS := Lib.hid (show (bcells (macL k (seedL s i))).size = 32 by rw [bcells_size, macL_length])
  have HM := Lib.hid (fun A B n m c d w hA hB hc hF hT hn hm => RefMac_any A B n m c d k (seedL s i) w hA hB hc hF hT hn hm)
  have HK := Lib.hid hk
  have HKS := Lib.hid (show (bcells k).size = 32 by rw [bcells_size, hk])
  have HT := Lib.hid hT
  have HF := Lib.hid hF
  have h2 := hT.1
  unfold u64 at HI
  unfold seedL closedL u64 at *
  generalize bytesL (i % 18446744073709551616) 8 = L2 at *
  obtain ⟨L3, hL3⟩ : ∃ L3, s.data.toList = L3 := ⟨_, rfl⟩
  rw [hL3] at HM HS l3 ⊢
  generalize macL k (L3 ++ [0] ++ L2) = R at *
  have hb0 := ((Below.refl w.heap.size w).alloc (Nat.le_refl _) (.cells (bcells k) 23)).alloc (by simp) (.cells lit32 23)
  have HKR := Lib.hid ((Row.new w 23 (bcells k)).alloc (.cells lit32 23))
  have HZR := Lib.hid (Row.new1 w (.cells (bcells k) 23) 23 lit32)
  have HL3 := Lib.hid hL3
  clear hT hF hk hL3
  go_enter Tryd.func44, Tryd.ntmps44
  go_wp2_with (first
    | (with_reducible refine wpList_bytes Tryd.byteTypes Tryd.underlying9 Tryd.underlying5 rfl (.tmp 10) rfl s rfl (by omega) ?_; intro A1 c1 w1 ho1 hc1 hb1; rw [HL3.out] at ho1; have HO1 := Lib.hid ho1; have hs1 := hb1.size; simp at hs1; have hb1' := hb0.trans (hb1.mono (by simp; omega)); clear ho1)
    | (at_builtin; refine wpList_appM Tryd.byteTypes rfl (.tmp 11) (.tmp 12) rfl (w.heap.size + 1 + 1) _ s.size L3 rfl ((HO1.out.mono (by simp)).below ((Below.refl _ _).alloc (Nat.le_refl _) _)) _ _ 1 1 [0] rfl (zero_new w1 5) (by omega) (by simp; omega) ?_; intro A2 c2 w2 ho2 hb2; have HO2 := Lib.hid ho2; have hs2 := hb2.size; simp at hs2; have hb2' := (hb1'.alloc hb1'.size (.cells #[.int .u8 0] 5)).trans (hb2.mono (by omega)); have HKR2 := Lib.hid (((HKR.out.below hb1 (by simp; omega)).alloc (.cells #[.int .u8 0] 5)).below hb2 (by omega)); have HZR2 := Lib.hid (((HZR.out.below hb1 (by simp)).alloc (.cells #[.int .u8 0] 5)).below hb2 (by omega)); clear ho2)
    | (go_at_call 82; refine (HI.out _).mono ?_; rintro e3 w3 ⟨A3, n3, c3, rfl, hB3, hc3, hb3, -⟩; have HB3 := Lib.hid hB3; have hn3 := hB3.1; have hb3' := hb2'.trans (hb3.mono hb2'.size); have hs3 := hb3.size; obtain ⟨g3, off3, hA3⟩ := HB3.out.addr (by omega); subst hA3; clear hB3)
    | (at_builtin; refine wpList_appM Tryd.byteTypes rfl (.tmp 20) (.tmp 21) rfl (w.heap.size + 1 + 1) _ (s.size + 1) (L3 ++ [0]) rfl (HO2.out.below hb3) _ _ n3 c3 L2 rfl HB3.out (by omega) (by omega) ?_; intro A4 c4 w4 ho4 hb4; have HB4 := Lib.hid ho4.bs; have hb4' := hb3'.trans (hb4.mono (by omega)); have hs4 := hb4.size; have HKR4 := Lib.hid ((HKR2.out.below hb3 (by omega)).below hb4 (by omega)); have HZR4 := Lib.hid ((HZR2.out.below hb3 (by omega)).below hb4 (by omega)); clear ho4)
    | (with_reducible refine wpList_load_row Tryd.agg25 rfl (.tmp 3) rfl _ rfl 23 _ HKR4.out HKS.out ?_)
    | (go_at_call 60; refine (DBytes_any k w4 HK.out).mono ?_; rintro e5 w5 ⟨A5, n5, c5, rfl, hB5, hc5, hb5, -⟩; have HB5 := Lib.hid hB5; have hn5 := hB5.1; rw [HK.out] at hn5; have hb5' := hb4'.trans (hb5.mono hb4'.size); have hs5 := hb5.size; clear hB5)
    | (go_at_call 83; refine (HM.out _ _ _ _ _ _ w5 HB5.out (HB4.out.below hb5) hc5 (HF.out.below hb5') (HT.out.below hb5') (by omega) (by omega)).mono ?_; rintro e6 w6 ⟨rfl, hb6⟩; have hb6' := hb5'.trans (hb6.mono hb5'.size); have hs6 := hb6.size; have HZR6 := Lib.hid ((HZR4.out.below hb5 (by omega)).below hb6 (by omega)))
    | (with_reducible refine wpList_store_row Tryd.agg25 rfl (.tmp 6) (.tmp 26) rfl _ _ rfl rfl 23 lit32 HZR6.out HS.out lit32_size (bcells_one _) ?_; intro w9 hr9 ho9; have HR9 := Lib.hid hr9; clear hr9))
  refine bodyPost_ret (results_row1 Tryd.agg25 Tryd.results44 rfl HR9.out HS.out) rfl ⟨rfl, ?_⟩
  exact hb6'.trans (ho9.below (by omega) hb6'.size)
end
section
open Go.RowKit
def derN (k : List UInt8) (s : ByteArray) (n : Nat) : Nat → List UInt8
  | 0 => []
  | m + 1 => derN k s n m ++ macL k (partL ((m : Int) + 1) s n)
theorem derN_length (k : List UInt8) (s : ByteArray) (n : Nat) : ∀ m, (derN k s n m).length = 32 * m
  | 0 => rfl
  | m + 1 => by rw [derN, List.length_append, derN_length k s n m, macL_length]; omega
theorem derN_add (k : List UInt8) (s : ByteArray) (n m : Nat) : ∀ j, ∃ r, derN k s n (m + j) = derN k s n m ++ r
  | 0 => ⟨[], by simp⟩
  | j + 1 => by
    obtain ⟨r, hr⟩ := derN_add k s n m j
    exact ⟨r ++ macL k (partL (((m + j : Nat) : Int) + 1) s n), by rw [← Nat.add_assoc, derN, hr, List.append_assoc]⟩
def deriveL (k : List UInt8) (s : ByteArray) (n : Nat) : List UInt8 := (derN k s n (n / 32 + 1)).take n
theorem derive_take (k : List UInt8) (s : ByteArray) (n m : Nat) (h : n ≤ 32 * m) : (derN k s n m).take n = deriveL k s n := by
  unfold deriveL
  rcases Nat.le_total m (n / 32 + 1) with hm | hm
  · obtain ⟨r, hr⟩ := derN_add k s n m (n / 32 + 1 - m)
    rw [show m + (n / 32 + 1 - m) = n / 32 + 1 by omega] at hr
    rw [hr, List.take_append_of_le_length (by rw [derN_length]; exact h)]
  · obtain ⟨r, hr⟩ := derN_add k s n (n / 32 + 1) (m - (n / 32 + 1))
    rw [show n / 32 + 1 + (m - (n / 32 + 1)) = m by omega] at hr
    rw [hr, List.take_append_of_le_length (by rw [derN_length]; omega)]
theorem deriveL_length (k : List UInt8) (s : ByteArray) (n : Nat) : (deriveL k s n).length = n := by
  unfold deriveL; rw [List.length_take, derN_length]; omega
/-- the first m parts, cut at n, and zeros up to n -/
def fillL (k : List UInt8) (s : ByteArray) (n m : Nat) : List UInt8 := (derN k s n m).take n ++ List.replicate (n - 32 * m) 0
theorem fillL_zero (k : List UInt8) (s : ByteArray) (n : Nat) : fillL k s n 0 = List.replicate n 0 := by simp [fillL, derN]
theorem fillL_length (k : List UInt8) (s : ByteArray) (n m : Nat) : (fillL k s n m).length = n := by
  unfold fillL; rw [List.length_append, List.length_take, derN_length, List.length_replicate]; omega
theorem fillL_all (k : List UInt8) (s : ByteArray) (n m : Nat) (h : n ≤ 32 * m) : fillL k s n m = deriveL k s n := by
  unfold fillL; rw [show n - 32 * m = 0 by omega, List.replicate_zero, List.append_nil, derive_take k s n m h]
theorem spl_bcells (X : List UInt8) (off : Nat) (l : List UInt8) : spl (bcells X) off l = bcells (splice X off l) := by
  unfold spl bcells splice
  simp only [List.map_append, List.map_take, List.map_drop, List.length_map]
theorem fillL_step (k : List UInt8) (s : ByteArray) (n m q : Nat) (h : 32 * m < n) (hq : Nat.min 32 (n - 32 * m) = q) :
    spl (bcells (fillL k s n m)) (32 * m) ((macL k (partL ((m : Int) + 1) s n)).take q) = bcells (fillL k s n (m + 1)) := by
  rw [spl_bcells]
  congr 1
  have hl := derN_length k s n m
  have hD := macL_length k (partL ((m : Int) + 1) s n)
  unfold fillL
  rw [derN]
  generalize macL k (partL ((m : Int) + 1) s n) = D at *
  have hq1 : q ≤ 32 := by rw [← hq]; exact Nat.min_le_left _ _
  have hq2 : q ≤ n - 32 * m := by rw [← hq]; exact Nat.min_le_right _ _
  have hq3 : q = 32 ∨ q = n - 32 * m := by
    rcases Nat.le_total 32 (n - 32 * m) with h' | h'
    · left; rw [← hq]; exact Nat.min_eq_left h'
    · right; rw [← hq]; exact Nat.min_eq_right h'
  have hDq : (D.take q).length = q := by rw [List.length_take]; omega
  generalize derN k s n m = E at *
  have e1 : E.take n = E := List.take_of_length_le (by omega)
  unfold splice
  rw [e1, List.take_append_of_le_length (by omega), List.take_of_length_le (by omega), hDq, List.drop_append, List.drop_eq_nil_of_le (by omega), List.nil_append, List.drop_replicate, List.take_append, e1, hl]
  rw [show n - 32 * m - (32 * m + q - 32 * m) = n - 32 * (m + 1) by omega]
  rw [← List.append_assoc]
  congr 2
  rcases hq3 with h3 | h3
  · rw [h3, List.take_of_length_le (by omega), List.take_of_length_le (by omega)]
  · rw [h3]
theorem made_zero (n : Nat) : madeCells #[.int .u8 0] n = bcells (List.replicate n 0) := by
  apply Array.ext_getElem?
  intro j
  rw [bcells_get?]
  by_cases h : j < n
  · rw [List.getElem?_replicate, if_pos h]
    simp [madeCells, h, Nat.mod_one]; rfl
  · rw [List.getElem?_eq_none (by simp; omega), Array.getElem?_eq_none (by rw [size_madeCells]; omega)]; rfl
section
variable {P : Program}
theorem wpList_copyK {t e : TypeId} (T : ByteTypes P t e) {ops : Array Oper} {rest : List Oper} {o : Oper} {a : Act} {w : World} {Q : Exit → Act → World → Prop} (hgd : o.guard = none) (d s : Operand)
    (ho : o.op = .call { callee := .builtin .copy, args := #[d, s], argTypes := #[t, t] }) (g off dLen dCap : Nat) (A : Option Addr) (m c : Nat)
    (hd : a.eval d = .slice (some ⟨g, off, none⟩) dLen dCap) (hs : a.eval s = .slice A m c) (l : List UInt8) (ty : TypeId) (cur : Array Value) (hr : Row w g ty cur) (hb : Bs w A m l) (k : Nat) (hk : Nat.min m dLen = k) (hfit : off + k ≤ cur.size)
    (h : ∀ w', Row w' g ty (spl cur off (l.take k)) → Only g w w' → wpList P ops Q rest (a.put o.dst (.int .i64 (k : Int))) w') :
    wpList P ops Q (o :: rest) a w := by
  subst hk; exact wpList_copyB T hgd d s ho g off dLen dCap A m c hd hs l ty cur hr hb hfit h
theorem wpList_tailAt {t e : TypeId} (T : ByteTypes P t e) {ops : Array Oper} {rest : List Oper} {o : Oper} {a : Act} {w : World} {Q : Exit → Act → World → Prop} (hgd : o.guard = none) (x y : Operand)
    (ho : o.op = .slice t x (some y) none none) (b off n c k : Nat) (hx : a.eval x = .slice (some ⟨b, off, none⟩) n c) (hy : a.eval y = .int .i64 (k : Int)) (hk : k ≤ n) (hnc : n ≤ c)
    (h : ∀ A', (k < n → A' = some ⟨b, off + k, none⟩) → wpList P ops Q rest (a.put o.dst (.slice A' (n - k) (c - k))) w) : wpList P ops Q (o :: rest) a w := by
  obtain ⟨i, hi, hz, hsize, hby⟩ := info_parts T.hi
  refine wpList_plain hgd fun K hK => ?_
  have hs : (sizeOf e).run P w = .ok 1 w := by simp [sizeOf, typeInfo, hi, hsize]
  have h1 : (k : Int) ≤ n := by omega
  obtain ⟨A', hA', hrun⟩ : ∃ A', (k < n → A' = some ⟨b, off + k, none⟩) ∧ (Instr.sliceAt t (.slice (some ⟨b, off, none⟩) n c) (some (.int .i64 (k : Int))) none none).run P w = .ok (.slice A' (n - k) (c - k)) w := by
    refine ⟨if c = k then some ⟨b, off, none⟩ else (some (⟨b, off, none⟩ : Addr)).map (·.add (k * 1)), fun hlt => by rw [if_neg (by omega), Option.map_some, Nat.mul_one, Addr.add_mid], ?_⟩
    simp [Instr.sliceAt, Instr.slice, run_underlying T.ht, Instr.sliceBounds, run_sliceBound, hs, h1]
  unfold Oper.wp execOp
  simp [ho, hx, hy, hrun, Result.andThen]
  exact hK _ _ (h A' hA')
theorem step_store_row {n : Nat} {ty : TypeId} (T : AggType P ty n) {ops : Array Oper} {op : Oper} {a : Act} {w : World} {K : Act → World → Prop} {Q : Exit → Act → World → Prop} {E : Prop} (hgd : op.guard = none) (x y : Operand) (ho : op.op = .store ty x y)
    (g : Nat) (cells : Array Value) (hx : a.eval x = .pointer (some ⟨g, 0, none⟩)) (hy : a.eval y = .agg cells) (t : TypeId) (old : Array Value) (hr : Row w g t old) (hn : cells.size = n) (hold : old.size = n) (h1 : cells.all (·.oneCell') = true)
    (h : ∀ w', Row w' g t cells → Only g w w' → K (a.put op.dst undef) w') : if Region.wanted op (yielded ops a.tmps) = true then Oper.wp P op a w K Q else E := by
  obtain ⟨d, hu, hd, hi⟩ := T
  have hw : Region.wanted op (yielded ops a.tmps) = true := by simp [Region.wanted, hgd]
  rw [if_pos hw]
  refine wp_store_row ty x y ho g cells hx hy t old hr (by rw [hi, hn]) (by rw [hold, hn]) h1 ?_
  exact h _ (hr.setRow cells) (Only.setRow g w cells)
theorem takeD {md : Region.Mode} {ops : Array Oper} {Q : Exit → Act → World → Prop} {S : World → Prop} {i : Nat} {oi : Oper} (d : Option Nat) (v : Value) {fuel : Nat} {listed : Array Bool} {a : Act} {w : World} (hi : ops[i]? = some oi) (hd : oi.dst = d)
    (hs : Region.noSelect ops = true) (hf : Region.free md ops listed i = true) (hr : (Region.ready md ops listed).contains i = true)
    (hQ : ∀ c a w, Q (.panic c) (a.put d v) w → Q (.panic c) a w) (hy : YieldsIf P ops S oi v a) (hS : S w)
    (h : wpAnyH P md ops Q S fuel (listed.setIfInBounds i true) (a.put d v) w) : wpAnyH P md ops Q S (fuel + 1) listed a w := by
  subst hd; exact wpAnyH_take hi hs hf hr hQ hy hS h
end
theorem range_row {w : World} {g : Nat} {t : TypeId} {l : List UInt8} (h : Row w g t (bcells l)) : w.rangeAt g 0 (l.map bcell) := fun j v hv => by
  rw [Nat.zero_add, h.cell j, bcells_get?, ← List.getElem?_map]; exact hv
end
end Go.Proofs.YtfelmdndjdaniaaDoor
