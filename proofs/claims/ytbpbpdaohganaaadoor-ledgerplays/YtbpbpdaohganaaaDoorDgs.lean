/-
  Digests and slices of digests at the operations: reads, stores, appends, cuts, regions that draw; what came in (ported from the elder seats).
-/
import Derived.Test.YtbpbpdaohganaaaDoorBase
import Derived.Test.YtbpbpdaohganaaaDoorSha
import Derived.Test.YtbpbpdaohganaaaDoorShaR
import Derived.Laws.IdiomStrings
import Derived.Lib.AppendStr
import Derived.Maps.AppendAt
import Derived.Deep.Matrix
import Derived.Deep.RegionHeld3
import Derived.Great.BuildSlice
import Derived.Deep.Slices
import Derived.ProofKit
import Derived.ChangeOld
import Derived.Below
namespace Go.Proofs.YtbpbpdaohganaaaDoor
open Go.ChangeShapes Go.WideShapes Go.ChangeAt Go.RowKit
/-- no cell of k cells is in the range -/
def Free (fz : Nat × Nat) (k : Nat) : Prop := ∀ j, j < k → ¬ (fz.1 ≤ j ∧ j < fz.2)
theorem storeCells_free (P : Program) (g o : Nat) (t : TypeId) (fz : Nat × Nat) : ∀ (vs : List Value) (i : Nat) (cur : Array Value) (w : World), w.heap[g]? = some (.cells cur t fz) → Free fz cur.size → o + i + vs.length ≤ cur.size → (∀ v ∈ vs, v.oneCell' = true) →
    (storeCells ⟨g, o, none⟩ vs i).run P w = .ok () (w.setRow g (cur.toList.take (o + i) ++ vs ++ cur.toList.drop (o + i + vs.length)).toArray)
  | [], i, cur, w, hg, _, _, _ => by
    have e : w.setRow g (cur.toList.take (o + i) ++ [] ++ cur.toList.drop (o + i + 0)).toArray = w := by
      rw [List.append_nil, Nat.add_zero, List.take_append_drop, Array.toArray_toList]; exact setRow_self w g cur t fz hg
    rw [List.length_nil, e]; rfl
  | v :: rest, i, cur, w, hg, hfz, hl, h1 => by
    have hlt : o + i < cur.size := by simp at hl; omega
    have ha : (⟨g, o, none⟩ : Addr).add i = ⟨g, o + i, none⟩ := by unfold Addr.add; split <;> simp_all
    have hc : w.cell? ⟨g, o + i, none⟩ = some cur[o + i] := by simp [World.cell?, hg, hlt]
    have hf : w.frozen? ⟨g, o + i, none⟩ = false := by
      have := hfz _ hlt
      obtain ⟨lo, hi⟩ := fz
      simp only [World.frozen?, hg, Bool.and_eq_false_iff, decide_eq_false_iff_not]
      simp only at this
      omega
    have hst : (store ((⟨g, o, none⟩ : Addr).add i) v).run P w = .ok () (w.setRow g (cur.setIfInBounds (o + i) v)) := by
      rw [ha, run_store P w _ v _ (h1 v (by simp)), hc]
      simp [hf, setCell_eq_setRow w g (o + i) cur t fz v hg]
    have ih := storeCells_free P g o t fz rest (i + 1) (cur.setIfInBounds (o + i) v) (w.setRow g (cur.setIfInBounds (o + i) v)) (setRow_heap w g cur _ t _ hg) (by simpa using hfz) (by simp at hl ⊢; omega) (fun x hx => h1 x (by simp [hx]))
    simp only [storeCells, Sem.run_bind, hst, Result.andThen_ok, ih, setRow_setRow]
    congr 3
    have e := list_seg_step cur.toList (o + i) v rest (by simp at hl ⊢; omega)
    simpa [Array.toList_setIfInBounds, Nat.add_assoc] using e
theorem Own.below {w w' : World} {base : Nat} {e : TypeId} {v : Value} {n : Nat} {l : List UInt8} (h : Own w base e v n l) (hb : Below w.heap.size w w') : Own w' base e v n l := by
  refine ⟨h.1, ?_⟩
  rcases h.2 with hn | ⟨g, cap, cur, hv, hbg, hg, r⟩
  · exact .inl hn
  · exact .inr ⟨g, cap, cur, hv, hbg, (hb.block g (Array.getElem?_eq_some_iff.1 hg).1).trans hg, r⟩
theorem Row.bsB {w : World} {g : Nat} {t : TypeId} {l : List UInt8} {n : Nat} (h : Row w g t (bcells l)) (hl : l.length = n) : Bs w (some ⟨g, 0, none⟩) n l :=
  ⟨hl, fun k x hx => ⟨g, 0, rfl, h.lt, by rw [Nat.zero_add, h.cell k, bcells_get?, hx]; rfl⟩⟩
theorem take_getD (d : List UInt8) (k : Nat) (h : k < d.length) : d.take k ++ [d.getD k 0] = d.take (k + 1) := by
  rw [List.take_add_one, List.getElem?_eq_getElem h, List.getD_eq_getElem?_getD, List.getElem?_eq_getElem h]; rfl
set_option maxRecDepth 100000 in
set_option maxHeartbeats 1000000 in
theorem DBytes_any (d : List UInt8) (w : World) (hd : d.length = 32) : Calls Tryd.prog 68 #[.agg (bcells d)] w (NewSlice w 5 d) := by
  have HD := Lib.hid hd
  clear hd
  go_enter Tryd.func68, Tryd.ntmps68
  go_wp2_with fail
  go_loopw [3, 4] (fun t i wr => ∃ (k : Nat) (A : Option Addr) (c : Nat), k ≤ 32 ∧ i = .int .i64 (k : Int) ∧ t = .slice A k c ∧ Below w.heap.size w wr ∧ Row wr w.heap.size 46 (bcells d) ∧ Own wr (w.heap.size + 1) 5 (.slice A k c) k (d.take k)) (fun _ i _ => 32 - (intOf i).toNat)
  case atStart => exact ⟨0, none, 0, Nat.zero_le _, rfl, rfl, (Below.refl _ _).alloc (Nat.le_refl _) _, Row.new _ _ _, Own.nil _ _ _⟩
  case round =>
    obtain ⟨k, A, c, hk, rfl, rfl, hbel, hr, ho⟩ := hrel
    have hbs := hbel.size
    have hr1 := hr.lt
    have HO := Lib.hid ho
    have HR := Lib.hid hr
    by_cases hlt : k < 32
    · have i0 : (0 : Int) ≤ (k : Int) := by omega
      have i1 : (k : Int) < 32 := by omega
      obtain ⟨X, hX⟩ : ∃ X, d.getD k 0 = X := ⟨_, rfl⟩
      have x1 : wr.cell? ⟨w.heap.size, k, none⟩ = some (.int .u8 (X.toNat : Int)) := by
        rw [hr.cell k, bcells_get _ _ (by rw [HD.out]; exact hlt), hX]
      have HX := Lib.hid hX
      clear hr ho hX
      go_wp2_with (at_builtin; refine wpList_app Tryd.byteTypes rfl (.tmp 9) (.tmp 13) rfl (w.heap.size + 1) _ k (d.take k) rfl (own_below HO.out ((Below.refl _ _).alloc (Nat.le_refl _) _)) _ 1 1 [X] rfl (one_of wr X 5).bs (by omega) (by simp; omega) ?_; intro A3 c3 w3 ho3 hb3 _)
      refine ⟨⟨k + 1, A3, c3, by omega, by go_num, rfl, ?_, ?_, ?_⟩, by simp [intOf]; omega⟩
      · exact (hbel.alloc hbs _).trans (hb3.mono (by omega))
      · exact (HR.out.alloc _).below hb3 (by omega)
      · rw [← take_getD d k (by rw [HD.out]; exact hlt), HX.out]; exact ho3
    · obtain rfl : k = 32 := by omega
      rw [List.take_of_length_le (by rw [HD.out]; exact Nat.le_refl _)] at HO
      clear hr ho
      go_wp2_with fail
      go_ret
      obtain ⟨A4, c4, e4, hc4⟩ := HO.out.form
      injection e4 with e5 e6 e7
      subst e5 e7
      exact ⟨_, _, _, rfl, HO.out.bs, hc4, hbel, HO.out.mono (by omega)⟩
theorem byte_of {k : Int} (hw : (Lit.int .u8 k).wf = true) : ∃ x : UInt8, k = (x.toNat : Int) := by
  simp only [Lit.wf, Bool.and_eq_true, IntKind.min, IntKind.max] at hw
  obtain ⟨h1, h2⟩ := hw
  refine ⟨UInt8.ofNat k.toNat, ?_⟩
  simp [IntKind.bits, IntKind.signed] at h1 h2
  rw [UInt8.toNat_ofNat']
  omega
theorem cells_bytes (cs : Array Value) : ∀ n, n ≤ cs.size → (∀ i, i < n → ∃ x : UInt8, cs[i]? = some (bcell x)) → ∃ l : List UInt8, l.length = n ∧ ∀ i, i < n → cs[i]? = (l[i]?).map bcell
  | 0, _, _ => ⟨[], rfl, fun i h => by omega⟩
  | n + 1, hn, h => by
    obtain ⟨l, hl, hg⟩ := cells_bytes cs n (by omega) (fun i hi => h i (by omega))
    obtain ⟨x, hx⟩ := h n (by omega)
    refine ⟨l ++ [x], by simp [hl], fun i hi => ?_⟩
    by_cases e : i = n
    · subst e; rw [List.getElem?_append_right (by omega), hl, Nat.sub_self, hx]; rfl
    · rw [List.getElem?_append_left (by omega)]; exact hg i (by omega)
set_option maxRecDepth 100000 in
theorem open_digest {H : Type} {enc : TypeId × Value → H} {W : World} {base : Nat} {v : Value} {d : DataW H} {p : List MemPlace} (hv : Value.okWide Tryd.prog W .any base 46 v)
    (h : DataW.Trod enc Tryd.prog W 0 (fun _ => true) true 46 v d p) : ∃ s : List UInt8, s.length = 32 ∧ v = .agg (bcells s) := by
  obtain ⟨cs, rfl, hsz⟩ : ∃ cs, v = .agg cs ∧ cs.size = Tryd.prog.cellsOf 46 := by
    simp only [Value.okWide, Tryd.underlying24'] at hv
    obtain ⟨cs, h1, h2, _⟩ := hv
    exact ⟨cs, h1, h2⟩
  obtain ⟨fuel, hf⟩ := h
  obtain ⟨xs, m, rfl, hx, hlen, hxl, hel⟩ := DataW.trod_array Tryd.underlying24' hf
  have c5 : Tryd.prog.cellsOf 5 = 1 := by kernel_rfl
  have c25 : Tryd.prog.cellsOf 46 = 32 := by kernel_rfl
  rw [c25] at hsz
  obtain ⟨l, hl, hg⟩ := cells_bytes cs 32 (by omega) (fun i hi => by
    have hi' := hel i hi
    rw [c5, Nat.mul_one] at hi'
    obtain ⟨x, hx'⟩ : ∃ x, xs[i]? = some x := ⟨_, List.getElem?_eq_getElem (by omega)⟩
    rw [hx'] at hi'
    obtain ⟨k, e1, e2, hw⟩ := DataW.trod_int Tryd.underlying5 hi'
    have e3 := congrArg (·[0]?) e1
    simp [Value.cells, List.getElem?_drop] at e3
    obtain ⟨y, rfl⟩ := byte_of hw
    exact ⟨y, e3⟩)
  refine ⟨l, hl, ?_⟩
  congr 1
  apply Array.ext_getElem?
  intro j
  rw [bcells_get?]
  by_cases hj : j < 32
  · exact hg j hj
  · rw [Array.getElem?_eq_none (by omega), List.getElem?_eq_none (by omega)]; rfl
theorem Bs.addr {w : World} {A : Option Addr} {n : Nat} {l : List UInt8} (h : Bs w A n l) (hn : 0 < n) : ∃ b off, A = some ⟨b, off, none⟩ := by
  obtain ⟨b, off, x, e, _⟩ := h.get hn; exact ⟨b, off, e⟩
theorem spl_bcells (X : List UInt8) (off : Nat) (l : List UInt8) : spl (bcells X) off l = bcells (splice X off l) := by
  unfold spl bcells splice
  simp only [List.map_append, List.map_take, List.map_drop, List.length_map]
theorem made_zero (n : Nat) : madeCells #[.int .u8 0] n = bcells (List.replicate n 0) := by
  apply Array.ext_getElem?
  intro j
  rw [bcells_get?]
  by_cases h : j < n
  · rw [List.getElem?_replicate, if_pos h]
    simp [madeCells, h, Nat.mod_one]; rfl
  · rw [List.getElem?_eq_none (by simp; omega), Array.getElem?_eq_none (by rw [size_madeCells]; omega)]; rfl
section
variable {P : Program}
theorem wpList_copyK {t e : TypeId} (T : ByteTypes P t e) {ops : Array Oper} {rest : List Oper} {o : Oper} {a : Act} {w : World} {Q : Exit → Act → World → Prop} (hgd : o.guard = none) (d s : Operand)
    (ho : o.op = .call { callee := .builtin .copy, args := #[d, s], argTypes := #[t, t] }) (g off dLen dCap : Nat) (A : Option Addr) (m c : Nat)
    (hd : a.eval d = .slice (some ⟨g, off, none⟩) dLen dCap) (hs : a.eval s = .slice A m c) (l : List UInt8) (ty : TypeId) (cur : Array Value) (hr : Row w g ty cur) (hb : Bs w A m l) (k : Nat) (hk : Nat.min m dLen = k) (hfit : off + k ≤ cur.size)
    (h : ∀ w', Row w' g ty (spl cur off (l.take k)) → Only g w w' → wpList P ops Q rest (a.put o.dst (.int .i64 (k : Int))) w') :
    wpList P ops Q (o :: rest) a w := by
  subst hk; exact wpList_copyB T hgd d s ho g off dLen dCap A m c hd hs l ty cur hr hb hfit h
theorem wpList_tailAt {t e : TypeId} (T : ByteTypes P t e) {ops : Array Oper} {rest : List Oper} {o : Oper} {a : Act} {w : World} {Q : Exit → Act → World → Prop} (hgd : o.guard = none) (x y : Operand)
    (ho : o.op = .slice t x (some y) none none) (b off n c k : Nat) (hx : a.eval x = .slice (some ⟨b, off, none⟩) n c) (hy : a.eval y = .int .i64 (k : Int)) (hk : k ≤ n) (hnc : n ≤ c)
    (h : ∀ A', (k < n → A' = some ⟨b, off + k, none⟩) → wpList P ops Q rest (a.put o.dst (.slice A' (n - k) (c - k))) w) : wpList P ops Q (o :: rest) a w := by
  obtain ⟨i, hi, hz, hsize, hby⟩ := info_parts T.hi
  refine wpList_plain hgd fun K hK => ?_
  have hs : (sizeOf e).run P w = .ok 1 w := by simp [sizeOf, typeInfo, hi, hsize]
  have h1 : (k : Int) ≤ n := by omega
  obtain ⟨A', hA', hrun⟩ : ∃ A', (k < n → A' = some ⟨b, off + k, none⟩) ∧ (Instr.sliceAt t (.slice (some ⟨b, off, none⟩) n c) (some (.int .i64 (k : Int))) none none).run P w = .ok (.slice A' (n - k) (c - k)) w := by
    refine ⟨if c = k then some ⟨b, off, none⟩ else (some (⟨b, off, none⟩ : Addr)).map (·.add (k * 1)), fun hlt => by rw [if_neg (by omega), Option.map_some, Nat.mul_one, Addr.add_mid], ?_⟩
    simp [Instr.sliceAt, Instr.slice, run_underlying T.ht, Instr.sliceBounds, run_sliceBound, hs, h1]
  unfold Oper.wp execOp
  simp [ho, hx, hy, hrun, Result.andThen]
  exact hK _ _ (h A' hA')
theorem step_store_row {n : Nat} {ty : TypeId} (T : AggType P ty n) {ops : Array Oper} {op : Oper} {a : Act} {w : World} {K : Act → World → Prop} {Q : Exit → Act → World → Prop} {E : Prop} (hgd : op.guard = none) (x y : Operand) (ho : op.op = .store ty x y)
    (g : Nat) (cells : Array Value) (hx : a.eval x = .pointer (some ⟨g, 0, none⟩)) (hy : a.eval y = .agg cells) (t : TypeId) (old : Array Value) (hr : Row w g t old) (hn : cells.size = n) (hold : old.size = n) (h1 : cells.all (·.oneCell') = true)
    (h : ∀ w', Row w' g t cells → Only g w w' → K (a.put op.dst undef) w') : if Region.wanted op (yielded ops a.tmps) = true then Oper.wp P op a w K Q else E := by
  obtain ⟨d, hu, hd, hi⟩ := T
  have hw : Region.wanted op (yielded ops a.tmps) = true := by simp [Region.wanted, hgd]
  rw [if_pos hw]
  refine wp_store_row ty x y ho g cells hx hy t old hr (by rw [hi, hn]) (by rw [hold, hn]) h1 ?_
  exact h _ (hr.setRow cells) (Only.setRow g w cells)
theorem takeD {md : Region.Mode} {ops : Array Oper} {Q : Exit → Act → World → Prop} {S : World → Prop} {i : Nat} {oi : Oper} (d : Option Nat) (v : Value) {fuel : Nat} {listed : Array Bool} {a : Act} {w : World} (hi : ops[i]? = some oi) (hd : oi.dst = d)
    (hs : Region.noSelect ops = true) (hf : Region.free md ops listed i = true) (hr : (Region.ready md ops listed).contains i = true)
    (hQ : ∀ c a w, Q (.panic c) (a.put d v) w → Q (.panic c) a w) (hy : YieldsIf P ops S oi v a) (hS : S w)
    (h : wpAnyH P md ops Q S fuel (listed.setIfInBounds i true) (a.put d v) w) : wpAnyH P md ops Q S (fuel + 1) listed a w := by
  subst hd; exact wpAnyH_take hi hs hf hr hQ hy hS h
end
theorem range_row {w : World} {g : Nat} {t : TypeId} {l : List UInt8} (h : Row w g t (bcells l)) : w.rangeAt g 0 (l.map bcell) := fun j v hv => by
  rw [Nat.zero_add, h.cell j, bcells_get?, ← List.getElem?_map]; exact hv
/-- as bytes, one behind the other -/
def flat (L : List (List UInt8)) : List UInt8 := L.flatten
/-- each has 32 bytes -/
def Digs (L : List (List UInt8)) : Prop := ∀ d ∈ L, d.length = 32
theorem Digs.nil : Digs [] := fun d h => by simp at h
theorem Digs.app {L M : List (List UInt8)} (h : Digs L) (k : Digs M) : Digs (L ++ M) := fun d hd => by
  rcases List.mem_append.1 hd with q | q
  · exact h d q
  · exact k d q
theorem Digs.two {a b : List UInt8} (h : a.length = 32) (k : b.length = 32) : Digs [a, b] := fun d hd => by
  simp at hd
  rcases hd with rfl | rfl
  · exact h
  · exact k
theorem Digs.take {L : List (List UInt8)} (h : Digs L) (n : Nat) : Digs (L.take n) := fun d hd => h d (List.mem_of_mem_take hd)
theorem Digs.get {L : List (List UInt8)} (h : Digs L) {k : Nat} {d : List UInt8} (hd : L[k]? = some d) : d.length = 32 := h d (List.mem_of_getElem? hd)
theorem flat_app (L M : List (List UInt8)) : flat (L ++ M) = flat L ++ flat M := List.flatten_append
theorem flat_length : ∀ {L : List (List UInt8)}, Digs L → (flat L).length = 32 * L.length
  | [], _ => rfl
  | d :: L, h => by
    have h1 := h d (by simp)
    have h2 := flat_length (L := L) (fun x hx => h x (by simp [hx]))
    show (d ++ flat L).length = _
    rw [List.length_append, h1, h2, List.length_cons]; omega
theorem flat_drop : ∀ {L : List (List UInt8)}, Digs L → ∀ k, (flat L).drop (32 * k) = flat (L.drop k)
  | _, _, 0 => by simp
  | [], _, k + 1 => by simp [flat]
  | d :: L, h, k + 1 => by
    have h1 := h d (by simp)
    have h2 := flat_drop (L := L) (fun x hx => h x (by simp [hx])) k
    show (d ++ flat L).drop _ = _
    rw [List.drop_append, List.drop_eq_nil_of_le (by omega), h1, List.nil_append, show 32 * (k + 1) - 32 = 32 * k by omega, h2, List.drop_succ_cons]
theorem flat_get {L : List (List UInt8)} (h : Digs L) {k : Nat} {d : List UInt8} (hd : L[k]? = some d) : ((flat L).drop (32 * k)).take 32 = d := by
  obtain ⟨hk, rfl⟩ := List.getElem?_eq_some_iff.1 hd
  rw [flat_drop h, List.drop_eq_getElem_cons hk]
  show ((L[k] ++ flat (L.drop (k + 1))).take 32) = _
  have := h.get hd
  rw [List.take_append_of_le_length (by omega), List.take_of_length_le (by omega)]
theorem flat_take {L : List (List UInt8)} {k : Nat} {d : List UInt8} (hd : L[k]? = some d) : flat (L.take (k + 1)) = flat (L.take k) ++ d := by
  rw [List.take_add_one, hd, flat_app]
  simp [flat]
theorem flat_inj : ∀ {L M : List (List UInt8)}, Digs L → Digs M → flat L = flat M → L = M
  | [], [], _, _, _ => rfl
  | [], d :: M, _, k, h => by
    have := congrArg List.length h
    rw [flat_length k, show flat [] = [] from rfl] at this
    simp at this
  | d :: L, [], k, _, h => by
    have := congrArg List.length h
    rw [flat_length k, show flat [] = [] from rfl] at this
    simp at this
  | d :: L, e :: M, h1, h2, h => by
    have e1 : d ++ flat L = e ++ flat M := h
    have q := List.append_inj e1 ((h1 d (by simp)).trans (h2 e (by simp)).symm)
    rw [q.1, flat_inj (fun x hx => h1 x (by simp [hx])) (fun x hx => h2 x (by simp [hx])) q.2]
theorem Tryd.under23 : Tryd.prog.underlying 46 = some (.array 32 5) := by kernel_rfl
theorem Tryd.under24 : Tryd.prog.underlying 28 = some (.slice 46) := by kernel_rfl
theorem Tryd.sizeD : (Tryd.prog.info? 46).map (·.size) = some 32 := by kernel_rfl
theorem Tryd.infoD : (Tryd.prog.info? 46).map (fun i => (i.zero, i.size, i.bytes)) = some (some (.agg (bcells zero32)), 32, 32) := by kernel_rfl
/-- the slice of digests at A holds L -/
def Ds (w : World) (A : Option Addr) (n : Nat) (L : List (List UInt8)) : Prop := L.length = n ∧ Digs L ∧ Bs w A (32 * n) (flat L)
theorem Ds.nil (w : World) (A : Option Addr) : Ds w A 0 [] := ⟨rfl, Digs.nil, Bs.nil w A⟩
theorem Ds.below {w w' : World} {A : Option Addr} {n : Nat} {L : List (List UInt8)} (h : Ds w A n L) (hb : Below w.heap.size w w') : Ds w' A n L := ⟨h.1, h.2.1, h.2.2.below hb⟩
theorem Ds.drewN {w : World} {A : Option Addr} {n : Nat} {L : List (List UInt8)} (h : Ds w A n L) (k : Nat) : Ds (w.drewN k) A n L := h
theorem Ds.drew {w : World} {A : Option Addr} {n : Nat} {L : List (List UInt8)} (h : Ds w A n L) : Ds w.drew A n L := h
theorem Ds.apart {w : World} {A : Option Addr} {n g : Nat} {L : List (List UInt8)} (h : Ds w A n L) (hg : w.heap.size ≤ g) : Apart A (32 * n) g := h.2.2.apart hg
theorem Ds.only {w w' : World} {A : Option Addr} {n g : Nat} {L : List (List UInt8)} (h : Ds w A n L) (ha : Apart A (32 * n) g) (ho : Only g w w') : Ds w' A n L := ⟨h.1, h.2.1, h.2.2.only ha ho⟩
/-- bytes that lie at an address, as the laws on the middle of a block ask them -/
theorem Bs.range {w : World} {b off n : Nat} {l : List UInt8} (h : Bs w (some ⟨b, off, none⟩) n l) : w.rangeAt b off (l.map bcell) := fun j v hv => by
  rw [List.getElem?_map] at hv
  cases hx : l[j]? with
  | none => rw [hx] at hv; cases hv
  | some y =>
    rw [hx] at hv
    injection hv with hv
    subst hv
    obtain ⟨b', off', e, _, hc⟩ := h.2 j y hx
    injection e with e
    injection e with e1 e2
    subst e1 e2
    exact hc
theorem Ds.get {w : World} {A : Option Addr} {n k : Nat} {L : List (List UInt8)} (h : Ds w A n L) (hk : k < n) :
    ∃ b off d, A = some ⟨b, off, none⟩ ∧ b < w.heap.size ∧ L[k]? = some d ∧ d.length = 32 ∧ Bs w (some ⟨b, off + 32 * k, none⟩) 32 d := by
  obtain ⟨h1, h2, h3⟩ := h
  obtain ⟨b, off, x, rfl, hb, _⟩ := h3.get (k := 32 * k) (by omega)
  have hkL : k < L.length := by omega
  have hd := List.getElem?_eq_getElem hkL
  have hl := h2.get hd
  refine ⟨b, off, L[k], rfl, hb, hd, hl, ?_⟩
  have h4 := (h3.drop (m := 32 * k)).take (m := 32) (by omega)
  rw [flat_get h2 hd] at h4
  exact h4
/-- a slice of digests of the call's own -/
def OwnD (w : World) (base : Nat) (v : Value) (n : Nat) (L : List (List UInt8)) : Prop := Digs L ∧ w.ownsRow base 46 32 v n ((flat L).map bcell)
theorem OwnD.nil (w : World) (base : Nat) : OwnD w base (.slice none 0 0) 0 [] := ⟨Digs.nil, World.ownsRow_nil w base 46 32⟩
theorem OwnD.length {w : World} {base : Nat} {v : Value} {n : Nat} {L : List (List UInt8)} (h : OwnD w base v n L) : L.length = n := by
  have h1 := h.2.1
  rw [List.length_map, flat_length h.1] at h1
  omega
theorem OwnD.form {w : World} {base : Nat} {v : Value} {n : Nat} {L : List (List UInt8)} (h : OwnD w base v n L) : ∃ A c, v = .slice A n c ∧ n ≤ c := by
  rcases h.2.2 with ⟨hv, hn⟩ | ⟨g, cap, cur, hv, _, hg, hnc, _, hcs, ht⟩
  · exact ⟨none, 0, by rw [hv, hn], by omega⟩
  · exact ⟨_, _, hv, hnc⟩
theorem OwnD.mono {w : World} {base base' : Nat} {v : Value} {n : Nat} {L : List (List UInt8)} (h : OwnD w base v n L) (hb : base' ≤ base) : OwnD w base' v n L := by
  refine ⟨h.1, h.2.1, ?_⟩
  rcases h.2.2 with h0 | ⟨g, cap, cur, hv, hge, hr⟩
  · exact .inl h0
  · exact .inr ⟨g, cap, cur, hv, Nat.le_trans hb hge, hr⟩
theorem OwnD.below {w w' : World} {base : Nat} {v : Value} {n : Nat} {L : List (List UInt8)} (h : OwnD w base v n L) (hb : Below w.heap.size w w') : OwnD w' base v n L := by
  refine ⟨h.1, h.2.1, ?_⟩
  rcases h.2.2 with h0 | ⟨g, cap, cur, hv, hge, hg, hr⟩
  · exact .inl h0
  · exact .inr ⟨g, cap, cur, hv, hge, (hb.block g (Array.getElem?_eq_some_iff.1 hg).1).trans hg, hr⟩
theorem OwnD.ds {w : World} {base : Nat} {A : Option Addr} {n c : Nat} {L : List (List UInt8)} (h : OwnD w base (.slice A n c) n L) : Ds w A n L := by
  have hlen := h.length
  have hfl := flat_length h.1
  refine ⟨hlen, h.1, by omega, fun k x hx => ?_⟩
  have hk := (List.getElem?_eq_some_iff.1 hx).1
  rcases h.2.2 with ⟨hv, hn⟩ | ⟨g, cap, cur, hv, _, hg, hnc, _, hcs, ht⟩
  · omega
  · injection hv with q1 q2 q3
    subst q1 q3
    refine ⟨g, 0, rfl, (Array.getElem?_eq_some_iff.1 hg).1, ?_⟩
    have := h.2.cells (g := g) rfl k (.int .u8 (x.toNat : Int)) (by rw [List.getElem?_map, hx]; rfl)
    rw [Addr.add_mid] at this
    exact this
/-- make([]Digest, 0, n) -/
theorem OwnD.made (w : World) (base n : Nat) (cs : Array Value) (hb : base ≤ w.heap.size) (hn : n ≤ 65536) (hs : cs.size = n * 32) : OwnD (w.alloc (.cells cs 46)) base (.slice (some ⟨w.heap.size, 0, none⟩) 0 n) 0 [] :=
  ⟨Digs.nil, World.ownsRow_made w cs n hb (by simp only [maxLen]; omega) hs⟩
/-- digests in new memory, and an error's number -/
def NewD (w : World) (L : List (List UInt8)) (E : Int) (e : Ending) (w' : World) : Prop :=
  ∃ A c, e = .returned (.tuple #[.slice A L.length c, .int .i64 E]) ∧ L.length ≤ c ∧ OwnD w' w.heap.size (.slice A L.length c) L.length L ∧ Below w.heap.size w w'
theorem OwnD.new {w w' : World} {A : Option Addr} {n c : Nat} {E : Int} {L : List (List UInt8)} (h : OwnD w' w.heap.size (.slice A n c) n L) (hb : Below w.heap.size w w') : NewD w L E (.returned (.tuple #[.slice A n c, .int .i64 E])) w' := by
  have hl := h.length
  subst hl
  obtain ⟨A', c', hv, hc⟩ := h.form
  injection hv with h1 h2 h3
  subst h1 h3
  exact ⟨A, c, rfl, hc, h, hb⟩
theorem NewD.nil (w : World) (E : Int) : NewD w [] E (.returned (.tuple #[.slice none 0 0, .int .i64 E])) w := ⟨none, 0, rfl, Nat.le_refl _, OwnD.nil _ _, Below.refl _ _⟩
/-- x[k] of a slice of digests -/
theorem run_indexD (b off n c k : Nat) (z : Int) (hz : z = k) (hk : k < n) (w : World) : (Instr.indexAt 28 (.slice (some ⟨b, off, none⟩) n c) (.int .i64 z)).run Tryd.prog w = .ok (.pointer (some ⟨b, off + 32 * k, none⟩)) w := by
  subst hz
  have h1 : (0 : Int) ≤ (k : Int) ∧ (k : Int) < (n : Int) := by omega
  simp [Instr.indexAt, asIntOf, run_underlying Tryd.under24, h1, Addr.add_mid, hk, Nat.mul_comm]
theorem wp_indexD {o : Oper} {a : Act} {w : World} {K : Act → World → Prop} {Q : Exit → Act → World → Prop} (x y : Operand) (ho : o.op = .indexAddr 28 x y) (b off n c k : Nat) (z : Int)
    (hx : a.eval x = .slice (some ⟨b, off, none⟩) n c) (hy : a.eval y = .int .i64 z) (hz : z = k) (hk : k < n)
    (h : K (a.put o.dst (.pointer (some ⟨b, off + 32 * k, none⟩))) w) : o.wp Tryd.prog a w K Q := by
  unfold Oper.wp execOp
  simp only [ho, hx, hy, Sem.run_bind, run_indexD b off n c k z hz hk, Result.andThen_ok]
  exact h
theorem wpList_indexD {ops : Array Oper} {rest : List Oper} {o : Oper} {a : Act} {w : World} {Q : Exit → Act → World → Prop} (hgd : o.guard = none) (x y : Operand) (ho : o.op = .indexAddr 28 x y) (b off n c k : Nat) (z : Int)
    (hx : a.eval x = .slice (some ⟨b, off, none⟩) n c) (hy : a.eval y = .int .i64 z) (hz : z = k) (hk : k < n)
    (h : wpList Tryd.prog ops Q rest (a.put o.dst (.pointer (some ⟨b, off + 32 * k, none⟩))) w) : wpList Tryd.prog ops Q (o :: rest) a w :=
  wpList_plain hgd fun _ hK => wp_indexD x y ho b off n c k z hx hy hz hk (hK _ _ h)
/-- a digest, loaded -/
theorem wpList_loadD {ops : Array Oper} {rest : List Oper} {o : Oper} {a : Act} {w : World} {Q : Exit → Act → World → Prop} (hgd : o.guard = none) (x : Operand) (ho : o.op = .load 46 x) (b off : Nat) (d : List UInt8)
    (hx : a.eval x = .pointer (some ⟨b, off, none⟩)) (hc : w.rangeAt b off (d.map bcell)) (hd : d.length = 32)
    (h : wpList Tryd.prog ops Q rest (a.put o.dst (.agg (bcells d))) w) : wpList Tryd.prog ops Q (o :: rest) a w :=
  wpList_load_mid hgd 46 x ho b off hx _ _ hc Tryd.under23 rfl (by rw [List.length_map, hd]; exact Tryd.sizeD) h
/-- a digest, stored in the middle of a block -/
theorem run_storeD {w : World} {g o : Nat} {t : TypeId} {cs : Array Value} {d : List UInt8} (hr : Row w g t cs) (hd : d.length = 32) (hfit : o + 32 ≤ cs.size) :
    (storeVar 46 ⟨g, o, none⟩ (.agg (bcells d))).run Tryd.prog w = .ok () (w.setRow g (spl cs o d)) := by
  have hst := storeCells_free Tryd.prog g o t (0, 0) (d.map bcell) 0 cs w hr (fun j _ => by simp) (by rw [List.length_map]; omega) (fun v hv => by obtain ⟨x, _, rfl⟩ := List.mem_map.1 hv; rfl)
  have e : spl cs o d = (cs.toList.take (o + 0) ++ d.map bcell ++ cs.toList.drop (o + 0 + (d.map bcell).length)).toArray := by
    unfold spl splice; simp
  rw [← e] at hst
  have he := Tryd.sizeD
  cases hq : Tryd.prog.info? 46 with
  | none => simp [hq] at he
  | some i =>
    simp [hq] at he
    simp [storeVar, sizeOf, typeInfo, hq, he, Value.cells, bcells, hd, hst]
theorem wp_storeD {o : Oper} {a : Act} {w : World} {K : Act → World → Prop} {Q : Exit → Act → World → Prop} (x y : Operand) (ho : o.op = .store 46 x y) (g off : Nat) (d : List UInt8)
    (hx : a.eval x = .pointer (some ⟨g, off, none⟩)) (hy : a.eval y = .agg (bcells d)) (t : TypeId) (cs : Array Value) (hr : Row w g t cs) (hd : d.length = 32) (hfit : off + 32 ≤ cs.size)
    (h : ∀ w', Row w' g t (spl cs off d) → Only g w w' → K (a.put o.dst undef) w') : o.wp Tryd.prog a w K Q := by
  unfold Oper.wp execOp
  simp only [ho, hx, hy, Instr.storeAt, Instr.sureAddr, Sem.run_bind, Sem.run_pure, Result.andThen_ok, run_storeD hr hd hfit]
  exact h _ (hr.setRow _) (Only.setRow g w _)
theorem wpList_storeD {ops : Array Oper} {rest : List Oper} {o : Oper} {a : Act} {w : World} {Q : Exit → Act → World → Prop} (hgd : o.guard = none) (x y : Operand) (ho : o.op = .store 46 x y) (g off : Nat) (d : List UInt8)
    (hx : a.eval x = .pointer (some ⟨g, off, none⟩)) (hy : a.eval y = .agg (bcells d)) (t : TypeId) (cs : Array Value) (hr : Row w g t cs) (hd : d.length = 32) (hfit : off + 32 ≤ cs.size)
    (h : ∀ w', Row w' g t (spl cs off d) → Only g w w' → wpList Tryd.prog ops Q rest (a.put o.dst undef) w') : wpList Tryd.prog ops Q (o :: rest) a w :=
  wpList_plain hgd fun _ hK => wp_storeD x y ho g off d hx hy t cs hr hd hfit (fun w' h1 h2 => hK _ _ (h w' h1 h2))
/-- []Digest{a, b} -/
theorem run_buildD (p q : List UInt8) (hp : p.length = 32) (hq : q.length = 32) (w : World) :
    (Instr.buildSlice 28 2 #[(0, .agg (bcells p)), (1, .agg (bcells q))]).run Tryd.prog w = .ok (.slice (some ⟨w.heap.size, 0, none⟩) 2 2) (w.alloc (.cells (bcells (p ++ q)) 46)) := by
  obtain ⟨i, hi, hz, hsize, hby⟩ := info_parts Tryd.infoD
  refine run_buildSlice w 28 46 2 _ _ i _ Tryd.under24 hi hz (by rw [hsize]; decide) (by rw [hsize]; decide) ?_
  rw [hsize]
  have hf := Great.fill_whole (s := 32) (by omega) [.agg (bcells p), .agg (bcells q)] ((Array.range (2 * 32)).map ((Value.agg (bcells zero32)).cells[· % (Value.agg (bcells zero32)).cells.size]!))
    (fun v hv => by simp at hv; rcases hv with rfl | rfl <;> simp [Value.cells, bcells_size, hp, hq]) (by simp)
  have e : (([.agg (bcells p), .agg (bcells q)] : List Value).flatMap fun v => v.cells.toList).toArray = bcells (p ++ q) := by
    simp [Value.cells, bcells]
  rw [e] at hf
  exact hf
theorem wp_buildD {o : Oper} {a : Act} {w : World} {K : Act → World → Prop} {Q : Exit → Act → World → Prop} (x y : Operand) (ho : o.op = .buildSlice 28 2 #[(0, x), (1, y)]) (p q : List UInt8)
    (hx : a.eval x = .agg (bcells p)) (hy : a.eval y = .agg (bcells q)) (hp : p.length = 32) (hq : q.length = 32)
    (h : K (a.put o.dst (.slice (some ⟨w.heap.size, 0, none⟩) 2 2)) (w.alloc (.cells (bcells (p ++ q)) 46))) : o.wp Tryd.prog a w K Q := by
  unfold Oper.wp execOp
  simp only [ho, List.map_toArray, List.map_cons, List.map_nil, hx, hy, Sem.run_bind, run_buildD p q hp hq, Result.andThen_ok]
  exact h
theorem wpList_buildD {ops : Array Oper} {rest : List Oper} {o : Oper} {a : Act} {w : World} {Q : Exit → Act → World → Prop} (hgd : o.guard = none) (x y : Operand) (ho : o.op = .buildSlice 28 2 #[(0, x), (1, y)]) (p q : List UInt8)
    (hx : a.eval x = .agg (bcells p)) (hy : a.eval y = .agg (bcells q)) (hp : p.length = 32) (hq : q.length = 32)
    (h : wpList Tryd.prog ops Q rest (a.put o.dst (.slice (some ⟨w.heap.size, 0, none⟩) 2 2)) (w.alloc (.cells (bcells (p ++ q)) 46))) : wpList Tryd.prog ops Q (o :: rest) a w :=
  wpList_plain hgd fun _ hK => wp_buildD x y ho p q hx hy hp hq (hK _ _ h)
theorem two_ds (w : World) (p q : List UInt8) (hp : p.length = 32) (hq : q.length = 32) : Ds (w.alloc (.cells (bcells (p ++ q)) 46)) (some ⟨w.heap.size, 0, none⟩) 2 [p, q] := by
  refine ⟨rfl, Digs.two hp hq, ?_⟩
  have e : flat [p, q] = p ++ q := by simp [flat]
  rw [e]
  exact (Row.new w 46 (bcells (p ++ q))).bsB (by rw [List.length_append, hp, hq])
/-- append(v, x...) of digests -/
theorem run_appD (ty : TypeId) (w : World) (base : Nat) (v : Value) (n : Nat) (L : List (List UInt8)) (hown : OwnD w base v n L)
    (A : Option Addr) (m c : Nat) (M : List (List UInt8)) (hr : Ds w A m M) (hb : n + m ≤ 1000000) (hbase : base ≤ w.heap.size) :
    ∃ A' c' w', (Builtin.append_ #[28, 28] ty #[v, .slice A m c]).run Tryd.prog w = .ok (.slice A' (n + m) c') w' ∧ OwnD w' base (.slice A' (n + m) c') (n + m) (L ++ M) ∧ Below base w w' := by
  obtain ⟨i, hi, hz, hsize, hby⟩ := info_parts Tryd.infoD
  rcases Nat.eq_zero_or_pos m with h0 | h0
  · subst h0
    obtain rfl : M = [] := List.eq_nil_of_length_eq_zero hr.1
    have hrun : (Builtin.append_ #[28, 28] ty #[v, .slice A 0 c]).run Tryd.prog w = .ok v w := by
      rcases hown.2.2 with ⟨rfl, rfl⟩ | ⟨g, cap, cur, rfl, _, _, hnc, _⟩
      · rcases A with _ | a
        · simp [Builtin.append_, run_underlying Tryd.under24, sizeOf, typeInfo, hi, Builtin.lenOf, Builtin.firstCells]
        · simp [Builtin.append_, run_underlying Tryd.under24, sizeOf, typeInfo, hi, Builtin.lenOf, Builtin.firstCells, loadCells, loadCellsFrom]
      · rcases A with _ | a
        · simp [Builtin.append_, run_underlying Tryd.under24, sizeOf, typeInfo, hi, Builtin.lenOf, Builtin.firstCells, hnc, storeCells]
        · simp [Builtin.append_, run_underlying Tryd.under24, sizeOf, typeInfo, hi, Builtin.lenOf, Builtin.firstCells, hnc, storeCells, loadCells, loadCellsFrom]
    obtain ⟨A', c', rfl, _⟩ := hown.form
    exact ⟨A', c', w, hrun, by simpa using hown, Below.refl _ _⟩
  · obtain ⟨b, off, x, rfl, hblt, hx, hc⟩ := hr.2.2.get (k := 0) (by omega)
    obtain ⟨v', w', hrun, h2, h3, _, h5⟩ := run_append_own_at (P := Tryd.prog) w base 28 ty 46 i (.agg (bcells zero32)) 32 32 Tryd.under24 hi hz hsize hby rfl (by omega) v n _ hown.2 ⟨b, off, none⟩ m c ((flat M).map bcell) (by rw [List.length_map, hr.2.2.1]; omega)
      (fun j u hu => by rw [Addr.add_mid]; exact hr.2.2.range j u hu)
      (by intro u hu; simp only [List.mem_map] at hu; obtain ⟨y, _, rfl⟩ := hu; rfl) (by simp only [maxLen]; omega) (by omega) hbase
    have h2' : OwnD w' base v' (n + m) (L ++ M) := ⟨hown.1.app hr.2.1, by rw [flat_app, List.map_append]; exact h2⟩
    obtain ⟨A', c', rfl, _⟩ := h2'.form
    exact ⟨A', c', w', hrun, h2', (Below.refl base w).grown h3 hbase fun k hk => (hown.2.lt k hk).1⟩
theorem wp_appD {o : Oper} {a : Act} {w : World} {K : Act → World → Prop} {Q : Exit → Act → World → Prop} (s x : Operand) (ho : o.op = .call { callee := .builtin .append, args := #[s, x], argTypes := #[28, 28] })
    (base : Nat) (v : Value) (n : Nat) (L : List (List UInt8)) (hs : a.eval s = v) (hown : OwnD w base v n L)
    (A : Option Addr) (m c : Nat) (M : List (List UInt8)) (hx : a.eval x = .slice A m c) (hr : Ds w A m M) (hb : n + m ≤ 1000000) (hbase : base ≤ w.heap.size)
    (h : ∀ A' c' w', OwnD w' base (.slice A' (n + m) c') (n + m) (L ++ M) → Below base w w' → K (a.put o.dst (.slice A' (n + m) c')) w') : o.wp Tryd.prog a w K Q := by
  obtain ⟨A', c', w', hrun, h2, h3⟩ := run_appD o.type w base v n L hown A m c M hr hb hbase
  unfold Oper.wp execOp
  simp only [ho, resolve, invoke, builtin, Sem.run_bind, Sem.run_pure, Result.andThen_ok, List.map_toArray, List.map_cons, List.map_nil, hs, hx, hrun]
  exact h A' c' w' h2 h3
theorem wpList_appD {ops : Array Oper} {rest : List Oper} {o : Oper} {a : Act} {w : World} {Q : Exit → Act → World → Prop} (hgd : o.guard = none) (s x : Operand) (ho : o.op = .call { callee := .builtin .append, args := #[s, x], argTypes := #[28, 28] })
    (base : Nat) (v : Value) (n : Nat) (L : List (List UInt8)) (hs : a.eval s = v) (hown : OwnD w base v n L)
    (A : Option Addr) (m c : Nat) (M : List (List UInt8)) (hx : a.eval x = .slice A m c) (hr : Ds w A m M) (hb : n + m ≤ 1000000) (hbase : base ≤ w.heap.size)
    (h : ∀ A' c' w', OwnD w' base (.slice A' (n + m) c') (n + m) (L ++ M) → Below base w w' → wpList Tryd.prog ops Q rest (a.put o.dst (.slice A' (n + m) c')) w') : wpList Tryd.prog ops Q (o :: rest) a w :=
  wpList_plain hgd fun _ hK => wp_appD s x ho base v n L hs hown A m c M hx hr hb hbase (fun A' c' w' h1 h2 => hK _ _ (h A' c' w' h1 h2))
/-- append([]Digest{}, x...): a copy in new memory -/
theorem emptyD_new (w : World) : OwnD (w.alloc (.cells #[] 46)) w.heap.size (.slice (some ⟨w.heap.size, 0, none⟩) 0 0) 0 [] := OwnD.made w _ 0 #[] (Nat.le_refl _) (by omega) rfl
theorem wpList_copyD {ops : Array Oper} {rest : List Oper} {o : Oper} {a : Act} {w : World} {Q : Exit → Act → World → Prop} (hgd : o.guard = none) (s x : Operand) (ho : o.op = .call { callee := .builtin .append, args := #[s, x], argTypes := #[28, 28] })
    (hs : a.eval s = .slice (some ⟨w.heap.size, 0, none⟩) 0 0) (A : Option Addr) (m c : Nat) (M : List (List UInt8)) (hx : a.eval x = .slice A m c) (hr : Ds w A m M) (hb : m ≤ 1000000)
    (h : ∀ A' c' w', Ds w' A' m M → m ≤ c' → Below w.heap.size w w' → wpList Tryd.prog ops Q rest (a.put o.dst (.slice A' m c')) w') : wpList Tryd.prog ops Q (o :: rest) a (w.alloc (.cells #[] 46)) := by
  have hb0 : Below w.heap.size w (w.alloc (.cells #[] 46)) := (Below.refl _ _).alloc (Nat.le_refl _) _
  refine wpList_appD hgd s x ho w.heap.size _ 0 [] hs (emptyD_new w) A m c M hx (hr.below hb0) (by omega) (by simp) ?_
  intro A' c' w' hown hbel
  rw [Nat.zero_add] at hown ⊢
  rw [List.nil_append] at hown
  obtain ⟨A2, c2, hv, hc⟩ := hown.form
  injection hv with h1 h2 h3
  subst h1 h3
  exact h A' c' w' hown.ds hc (hb0.trans hbel)
/-- a step of a region that draws its order -/
theorem step_of {P : Program} {ops : Array Oper} {o : Oper} {a : Act} {w : World} {K : Act → World → Prop} {Q : Exit → Act → World → Prop} {E : Prop} (hgd : o.guard = none) (h : o.wp P a w K Q) :
    if Region.wanted o (yielded ops a.tmps) = true then Oper.wp P o a w K Q else E := by
  have hw : Region.wanted o (yielded ops a.tmps) = true := by simp [Region.wanted, hgd]
  rw [if_pos hw]
  exact h
/-- two digests that are compared -/
theorem run_items_dec (w : World) (d : Nat) (xs ys : Array Value) (l r : List UInt8) : ∀ (is : List Nat), (∀ j ∈ is, xs[j]? = some (.int .u8 ((l.getD j 0).toNat : Int)) ∧ ys[j]? = some (.int .u8 ((r.getD j 0).toNat : Int))) →
    (Op.eqItems (d + 1) 5 (Tryd.prog.cellsOf 5) xs ys is).run Tryd.prog w = .ok (is.all fun j => decide (l.getD j 0 = r.getD j 0)) w
  | [], _ => by simp [Op.eqItems]
  | j :: is, h => by
    obtain ⟨hx, hy⟩ := h j (by simp)
    have h1 : Tryd.prog.cellsOf 5 = 1 := by kernel_rfl
    have hp := run_part_plain (P := Tryd.prog) w (e := 5) (off := j * Tryd.prog.cellsOf 5) (by kernel_rfl) (xs := xs) (by rw [h1, Nat.mul_one]; exact hx)
    have hq := run_part_plain (P := Tryd.prog) w (e := 5) (off := j * Tryd.prog.cellsOf 5) (by kernel_rfl) (xs := ys) (by rw [h1, Nat.mul_one]; exact hy)
    have he := run_equalIn_int (P := Tryd.prog) w d 5 .u8 .u8 ((l.getD j 0).toNat : Int) ((r.getD j 0).toNat : Int) Tryd.underlying5
    have ih := run_items_dec w d xs ys l r is (fun i hi => h i (by simp [hi]))
    have hc : (((l.getD j 0).toNat : Int) == ((r.getD j 0).toNat : Int)) = decide (l.getD j 0 = r.getD j 0) := by
      rw [Bool.eq_iff_iff]
      simp only [beq_iff_eq, decide_eq_true_eq]
      constructor
      · intro h; exact UInt8.toNat.inj (by omega)
      · intro h; rw [h]
    rw [hc] at he
    simp only [Op.eqItems, Sem.run_bind, hp, hq, he, Result.andThen_ok, List.all_cons]
    cases hd : decide (l.getD j 0 = r.getD j 0)
    · simp
    · simp [ih]
theorem all_getD (l r : List UInt8) (hl : l.length = 32) (hr : r.length = 32) : ((List.range 32).all fun j => decide (l.getD j 0 = r.getD j 0)) = decide (l = r) := by
  rw [Bool.eq_iff_iff]
  simp only [List.all_eq_true, List.mem_range, decide_eq_true_eq]
  constructor
  · intro h
    apply List.ext_getElem?
    intro j
    by_cases hj : j < 32
    · have := h j hj
      rw [List.getD_eq_getElem?_getD, List.getD_eq_getElem?_getD, List.getElem?_eq_getElem (by omega), List.getElem?_eq_getElem (by omega)] at this
      rw [List.getElem?_eq_getElem (by omega), List.getElem?_eq_getElem (by omega)]
      exact congrArg some this
    · rw [List.getElem?_eq_none (by omega), List.getElem?_eq_none (by omega)]
  · intro h j _; rw [h]
theorem eqD (l r : List UInt8) (hl : l.length = 32) (hr : r.length = 32) (w : World) : (Op.equalIn 10000 46 (.agg (bcells l)) (.agg (bcells r))).run Tryd.prog w = .ok (decide (l = r)) w := by
  obtain ⟨i, hi⟩ := Tryd.info5
  rw [run_equalIn_array w 9999 _ _ Tryd.under23 hi, run_items_dec w 9998 _ _ l r _ (fun j hj => ?_), all_getD l r hl hr]
  have hj' : j < 32 := by simpa using hj
  exact ⟨bcells_get l j (by omega), bcells_get r j (by omega)⟩
theorem made_zeroD (n : Nat) : madeCells (Value.agg (bcells zero32)).cells n = bcells (List.replicate n 0) := by
  apply Array.ext_getElem?
  intro j
  rw [bcells_get?]
  by_cases h : j < n
  · rw [List.getElem?_replicate, if_pos h]
    have hm : j % 32 < 32 := Nat.mod_lt _ (by omega)
    have e : ((bcells zero32)[j % 32]! : Value) = bcell 0 := by
      rw [getElem!_def, bcells_get?]
      unfold zero32
      rw [List.getElem?_replicate, if_pos hm]; rfl
    have hz : (Value.agg (bcells zero32)).cells = bcells zero32 := rfl
    have hs : (bcells zero32).size = 32 := by rw [bcells_size]; rfl
    rw [hz, madeCells, Array.getElem?_map, Array.getElem?_range, if_pos h, Option.map_some, hs, e]
    rfl
  · rw [List.getElem?_eq_none (by simp; omega), Array.getElem?_eq_none (by rw [size_madeCells]; omega)]; rfl
/-- make([]Digest, n, c) -/
theorem run_madeD (n c : Nat) (L C : Int) (hL : L = n) (hC : C = c) (hnc : n ≤ c) (hc : c ≤ 65536) (w : World) :
    (Instr.makeSlice 28 (.int .i64 L) (.int .i64 C)).run Tryd.prog w = .ok (.slice (some ⟨w.heap.size, 0, none⟩) n c) (w.alloc (.cells (bcells (List.replicate (c * 32) 0)) 46)) := by
  obtain ⟨i, hi, hz, hsize, hby⟩ := info_parts Tryd.infoD
  have hr := run_make (P := Tryd.prog) w 28 46 i (.agg (bcells zero32)) Tryd.under24 hi hz .i64 .i64 L C (by omega) (by omega) (by rw [hby]; omega) (by omega)
  rw [hr, hsize, hL, hC]
  simp only [Int.toNat_natCast]
  rw [← made_zeroD]
theorem yields_indexD {ops : Array Oper} {S : World → Prop} {o : Oper} {a : Act} (hgd : o.guard = none) (x y : Operand) (ho : o.op = .indexAddr 28 x y) (b off n c k : Nat) (z : Int)
    (hx : a.eval x = .slice (some ⟨b, off, none⟩) n c) (hy : a.eval y = .int .i64 z) (hz : z = k) (hk : k < n) : YieldsIf Tryd.prog ops S o (.pointer (some ⟨b, off + 32 * k, none⟩)) a :=
  .inl ⟨by simp [Region.wanted, hgd], fun w _ => by
    unfold execOp
    simp only [ho, hx, hy, Sem.run_bind, run_indexD b off n c k z hz hk, Result.andThen_ok]
    rfl⟩
theorem yields_loadD {ops : Array Oper} {S : World → Prop} {o : Oper} {a : Act} (hgd : o.guard = none) (x : Operand) (ho : o.op = .load 46 x) (b off : Nat) (d : List UInt8)
    (hx : a.eval x = .pointer (some ⟨b, off, none⟩)) (hS : ∀ w, S w → w.rangeAt b off (d.map bcell)) (hd : d.length = 32) : YieldsIf Tryd.prog ops S o (.agg (bcells d)) a :=
  yieldsIf_load_mid (by simp [Region.wanted, hgd]) 46 x ho b off hx _ _ hS Tryd.under23 rfl (by rw [List.length_map, hd]; exact Tryd.sizeD)
theorem yields_neqD {ops : Array Oper} {S : World → Prop} {o : Oper} {a : Act} (hgd : o.guard = none) (x y : Operand) (ho : o.op = .binOp .neq 46 x y 46) (d : List UInt8)
    (hx : a.eval x = .agg (bcells d)) (hy : a.eval y = .agg (bcells d)) (hd : d.length = 32) : YieldsIf Tryd.prog ops S o (.bool false) a :=
  .inl ⟨by simp [Region.wanted, hgd], fun w _ => by
    have he := eqD d d hd hd w
    unfold execOp
    simp only [ho, hx, hy]
    go_simp⟩
theorem splice_app (F Y l : List UInt8) (k : Nat) : splice (F ++ Y) (F.length + k) l = F ++ splice Y k l := by
  unfold splice
  rw [List.take_append, List.drop_append]
  rw [List.take_of_length_le (by omega), List.drop_eq_nil_of_le (by omega)]
  rw [show F.length + k - F.length = k by omega, show F.length + k + l.length - F.length = k + l.length by omega]
  simp
theorem splice_zero (Y Z l : List UInt8) (h : l.length = Y.length) : splice (Y ++ Z) 0 l = l ++ Z := by
  unfold splice
  rw [List.take_zero, Nat.zero_add, h, List.drop_left]
  simp
theorem wpList_indexO {ops : Array Oper} {rest : List Oper} {o : Oper} {a : Act} {w : World} {Q : Exit → Act → World → Prop} (hgd : o.guard = none) (x y : Operand) (ho : o.op = .indexAddr 28 x y) (b off n c k at' : Nat) (z : Int)
    (hx : a.eval x = .slice (some ⟨b, off, none⟩) n c) (hy : a.eval y = .int .i64 z) (hz : z = k) (hk : k < n) (hat : off + 32 * k = at')
    (h : wpList Tryd.prog ops Q rest (a.put o.dst (.pointer (some ⟨b, at', none⟩))) w) : wpList Tryd.prog ops Q (o :: rest) a w := by
  subst hat
  exact wpList_indexD hgd x y ho b off n c k z hx hy hz hk h
/-- an operation under a guard that says yes -/
theorem wpList_of {P : Program} {ops : Array Oper} {rest : List Oper} {o : Oper} {a : Act} {w : World} {Q : Exit → Act → World → Prop} (hw : Region.wanted o (yielded ops a.tmps) = true)
    (h : ∀ K : Act → World → Prop, (∀ a' w', wpList P ops Q rest a' w' → K a' w') → o.wp P a w K Q) : wpList P ops Q (o :: rest) a w := by
  refine wpList_step fun K hK => ?_
  rw [if_pos hw]
  exact h K hK
theorem wpList_loadG {ops : Array Oper} {rest : List Oper} {o : Oper} {a : Act} {w : World} {Q : Exit → Act → World → Prop} (hw : Region.wanted o (yielded ops a.tmps) = true) (x : Operand) (ho : o.op = .load 46 x) (b off : Nat) (d : List UInt8)
    (hx : a.eval x = .pointer (some ⟨b, off, none⟩)) (hc : w.rangeAt b off (d.map bcell)) (hd : d.length = 32)
    (h : wpList Tryd.prog ops Q rest (a.put o.dst (.agg (bcells d))) w) : wpList Tryd.prog ops Q (o :: rest) a w :=
  wpList_of hw fun _ hK => wp_load_mid 46 x ho b off hx _ _ hc Tryd.under23 rfl (by rw [List.length_map, hd]; exact Tryd.sizeD) (hK _ _ h)
/-- append([]Digest{}, x...) under a guard that says yes -/
theorem wpList_copyDG {ops : Array Oper} {rest : List Oper} {o : Oper} {a : Act} {w : World} {Q : Exit → Act → World → Prop} (hw : Region.wanted o (yielded ops a.tmps) = true) (s x : Operand) (ho : o.op = .call { callee := .builtin .append, args := #[s, x], argTypes := #[28, 28] })
    (hs : a.eval s = .slice (some ⟨w.heap.size, 0, none⟩) 0 0) (A : Option Addr) (m c : Nat) (M : List (List UInt8)) (hx : a.eval x = .slice A m c) (hr : Ds w A m M) (hb : m ≤ 1000000)
    (h : ∀ A' c' w', Ds w' A' m M → m ≤ c' → Below w.heap.size w w' → wpList Tryd.prog ops Q rest (a.put o.dst (.slice A' m c')) w') : wpList Tryd.prog ops Q (o :: rest) a (w.alloc (.cells #[] 46)) := by
  have hb0 : Below w.heap.size w (w.alloc (.cells #[] 46)) := (Below.refl _ _).alloc (Nat.le_refl _) _
  refine wpList_of hw fun K hK => wp_appD s x ho w.heap.size _ 0 [] hs (emptyD_new w) A m c M hx (hr.below hb0) (by omega) (by simp) ?_
  intro A' c' w' hown hbel
  rw [Nat.zero_add] at hown ⊢
  rw [List.nil_append] at hown
  obtain ⟨A2, c2, hv, hc⟩ := hown.form
  injection hv with h1 h2 h3
  subst h1 h3
  exact hK _ _ (h A' c' w' hown.ds hc (hb0.trans hbel))
/-- a digest and an error's number -/
def RecD (w : World) (R : List UInt8) (E : Int) (e : Ending) (w' : World) : Prop := e = .returned (.tuple #[.agg (bcells R), .int .i64 E]) ∧ Below w.heap.size w w'
theorem wrap_small (r : Int) (h0 : -1000000 ≤ r) (h1 : r ≤ 1000000) : IntKind.i64.wrap r = r := by rw [IntKind.wrap_i64]; omega
theorem yields_sub {ops : Array Oper} {S : World → Prop} {o : Oper} {a : Act} (hgd : o.guard = none) (x y : Operand) (ho : o.op = .binOp .sub 3 x y 3) (p q r : Int)
    (hx : a.eval x = .int .i64 p) (hy : a.eval y = .int .i64 q) (hr : p - q = r) (h0 : -1000000 ≤ r) (h1 : r ≤ 1000000) : YieldsIf Tryd.prog ops S o (.int .i64 r) a :=
  .inl ⟨by simp [Region.wanted, hgd], fun w _ => by
    have hw := wrap_small r h0 h1
    unfold execOp
    simp only [ho, hx, hy]
    go_simp⟩
theorem yields_add {ops : Array Oper} {S : World → Prop} {o : Oper} {a : Act} (hgd : o.guard = none) (x y : Operand) (ho : o.op = .binOp .add 3 x y 3) (p q r : Int)
    (hx : a.eval x = .int .i64 p) (hy : a.eval y = .int .i64 q) (hr : p + q = r) (h0 : -1000000 ≤ r) (h1 : r ≤ 1000000) : YieldsIf Tryd.prog ops S o (.int .i64 r) a :=
  .inl ⟨by simp [Region.wanted, hgd], fun w _ => by
    have hw := wrap_small r h0 h1
    unfold execOp
    simp only [ho, hx, hy]
    go_simp⟩
theorem yields_mul {ops : Array Oper} {S : World → Prop} {o : Oper} {a : Act} (hgd : o.guard = none) (x y : Operand) (ho : o.op = .binOp .mul 3 x y 3) (p q r : Int)
    (hx : a.eval x = .int .i64 p) (hy : a.eval y = .int .i64 q) (hr : p * q = r) (h0 : -1000000 ≤ r) (h1 : r ≤ 1000000) : YieldsIf Tryd.prog ops S o (.int .i64 r) a :=
  .inl ⟨by simp [Region.wanted, hgd], fun w _ => by
    have hw := wrap_small r h0 h1
    unfold execOp
    simp only [ho, hx, hy]
    go_simp⟩
theorem run_appDO (ty : TypeId) (w : World) (base g c0 : Nat) (hown : OwnD w base (.slice (some ⟨g, 0, none⟩) 0 c0) 0 [])
    (A : Option Addr) (m c : Nat) (M : List (List UInt8)) (hr : Ds w A m M) (hb : m ≤ 1000000) (hbase : base ≤ w.heap.size) :
    ∃ A' c' w', (Builtin.append_ #[28, 28] ty #[.slice (some ⟨g, 0, none⟩) 0 c0, .slice A m c]).run Tryd.prog w = .ok (.slice A' m c') w' ∧ OwnD w' base (.slice A' m c') m M ∧ Only g w w' := by
  obtain ⟨i, hi, hz, hsize, hby⟩ := info_parts Tryd.infoD
  rcases Nat.eq_zero_or_pos m with h0 | h0
  · subst h0
    obtain rfl : M = [] := List.eq_nil_of_length_eq_zero hr.1
    refine ⟨_, _, w, ?_, hown, Only.refl g w⟩
    rcases A with _ | a
    · simp [Builtin.append_, run_underlying Tryd.under24, sizeOf, typeInfo, hi, Builtin.lenOf, Builtin.firstCells, storeCells]
    · simp [Builtin.append_, run_underlying Tryd.under24, sizeOf, typeInfo, hi, Builtin.lenOf, Builtin.firstCells, storeCells, loadCells, loadCellsFrom]
  · obtain ⟨b, off, x, rfl, hblt, hx, hc⟩ := hr.2.2.get (k := 0) (by omega)
    obtain ⟨v', w', hrun, h2, h3, _, h5⟩ := run_append_own_at (P := Tryd.prog) w base 28 ty 46 i (.agg (bcells zero32)) 32 32 Tryd.under24 hi hz hsize hby rfl (by omega) _ 0 _ hown.2 ⟨b, off, none⟩ m c ((flat M).map bcell) (by rw [List.length_map, hr.2.2.1]; omega)
      (fun j u hu => by rw [Addr.add_mid]; exact hr.2.2.range j u hu)
      (by intro u hu; simp only [List.mem_map] at hu; obtain ⟨y, _, rfl⟩ := hu; rfl) (by simp only [maxLen]; omega) (by omega) hbase
    rw [Nat.zero_add] at h2
    have h2' : OwnD w' base v' m M := ⟨hr.2.1, by simpa [flat] using h2⟩
    obtain ⟨A', c', rfl, _⟩ := h2'.form
    exact ⟨A', c', w', hrun, h2', ⟨h3.os, h3.tape, h3.output, h3.size, fun k hk hne => h3.block k hk (by simp [Value.ownBlock, hne])⟩⟩
theorem wp_appDO {o : Oper} {a : Act} {w : World} {K : Act → World → Prop} {Q : Exit → Act → World → Prop} (s x : Operand) (ho : o.op = .call { callee := .builtin .append, args := #[s, x], argTypes := #[28, 28] })
    (base g c0 : Nat) (hs : a.eval s = .slice (some ⟨g, 0, none⟩) 0 c0) (hown : OwnD w base (.slice (some ⟨g, 0, none⟩) 0 c0) 0 [])
    (A : Option Addr) (m c : Nat) (M : List (List UInt8)) (hx : a.eval x = .slice A m c) (hr : Ds w A m M) (hb : m ≤ 1000000) (hbase : base ≤ w.heap.size)
    (h : ∀ A' c' w', Ds w' A' m M → Only g w w' → K (a.put o.dst (.slice A' m c')) w') : o.wp Tryd.prog a w K Q := by
  obtain ⟨A', c', w', hrun, h2, h3⟩ := run_appDO o.type w base g c0 hown A m c M hr hb hbase
  unfold Oper.wp execOp
  simp only [ho, resolve, invoke, builtin, Sem.run_bind, Sem.run_pure, Result.andThen_ok, List.map_toArray, List.map_cons, List.map_nil, hs, hx, hrun]
  exact h A' c' w' h2.ds h3
/-- []Digest{} -/
theorem run_emptyD (w : World) : (Instr.buildSlice 28 0 #[]).run Tryd.prog w = .ok (.slice (some ⟨w.heap.size, 0, none⟩) 0 0) (w.alloc (.cells #[] 46)) := by
  obtain ⟨i, hi, hz, hsize, hby⟩ := info_parts Tryd.infoD
  simp [Instr.buildSlice, run_underlying Tryd.under24, sizeOf, typeInfo, hi, Instr.fill, newRow]
  have e : Array.map (fun _ => (default : Value)) (Array.range 0) = #[] := by apply Array.ext <;> simp
  rw [e]
theorem wp_emptyD {o : Oper} {a : Act} {w : World} {K : Act → World → Prop} {Q : Exit → Act → World → Prop} (ho : o.op = .buildSlice 28 0 #[])
    (h : ∀ g w', g = w.heap.size → g < w'.heap.size → OwnD w' w.heap.size (.slice (some ⟨g, 0, none⟩) 0 0) 0 [] → Below w.heap.size w w' → K (a.put o.dst (.slice (some ⟨g, 0, none⟩) 0 0)) w') : o.wp Tryd.prog a w K Q := by
  unfold Oper.wp execOp
  simp only [ho, List.map_toArray, List.map_nil, Sem.run_bind, run_emptyD, Result.andThen_ok]
  exact h _ _ rfl (by simp) (emptyD_new w) ((Below.refl _ _).alloc (Nat.le_refl _) _)
theorem yields_loadW {ops : Array Oper} {S : World → Prop} {o : Oper} {a : Act} (hw : Region.wanted o (yielded ops a.tmps) = true) (x : Operand) (ho : o.op = .load 46 x) (b off : Nat) (d : List UInt8)
    (hx : a.eval x = .pointer (some ⟨b, off, none⟩)) (hS : ∀ w, S w → w.rangeAt b off (d.map bcell)) (hd : d.length = 32) : YieldsIf Tryd.prog ops S o (.agg (bcells d)) a :=
  yieldsIf_load_mid hw 46 x ho b off hx _ _ hS Tryd.under23 rfl (by rw [List.length_map, hd]; exact Tryd.sizeD)
theorem yields_eqlW {ops : Array Oper} {S : World → Prop} {o : Oper} {a : Act} (hw : Region.wanted o (yielded ops a.tmps) = true) (x y : Operand) (ho : o.op = .binOp .eql 46 x y 46) (d r : List UInt8)
    (b : Bool) (hx : a.eval x = .agg (bcells d)) (hy : a.eval y = .agg (bcells r)) (hd : d.length = 32) (hr : r.length = 32) (hb : decide (d = r) = b) : YieldsIf Tryd.prog ops S o (.bool b) a :=
  .inl ⟨hw, fun w _ => by
    have he := eqD d r hd hr w
    rw [hb] at he
    unfold execOp
    simp only [ho, hx, hy]
    go_simp⟩
theorem yields_neqW {ops : Array Oper} {S : World → Prop} {o : Oper} {a : Act} (hw : Region.wanted o (yielded ops a.tmps) = true) (x y : Operand) (ho : o.op = .binOp .neq 46 x y 46) (d : List UInt8)
    (hx : a.eval x = .agg (bcells d)) (hy : a.eval y = .agg (bcells d)) (hd : d.length = 32) : YieldsIf Tryd.prog ops S o (.bool false) a :=
  .inl ⟨hw, fun w _ => by
    have he := eqD d d hd hd w
    unfold execOp
    simp only [ho, hx, hy]
    go_simp⟩
theorem yields_eqI {ops : Array Oper} {S : World → Prop} {o : Oper} {a : Act} (hgd : o.guard = none) (x y : Operand) (ho : o.op = .binOp .eql 3 x y 3) (p q : Int) (b : Bool)
    (hx : a.eval x = .int .i64 p) (hy : a.eval y = .int .i64 q) (hb : (p == q) = b) : YieldsIf Tryd.prog ops S o (.bool b) a :=
  .inl ⟨by simp [Region.wanted, hgd], fun w _ => by
    unfold execOp
    simp only [ho, hx, hy]
    go_simp⟩
theorem yields_eqB {ops : Array Oper} {S : World → Prop} {o : Oper} {a : Act} (hgd : o.guard = none) (x y : Operand) (ho : o.op = .binOp .eql 4 x y 4) (b : Bool)
    (hx : a.eval x = .bool b) (hy : a.eval y = .bool b) : YieldsIf Tryd.prog ops S o (.bool true) a :=
  .inl ⟨by simp [Region.wanted, hgd], fun w _ => by
    unfold execOp
    simp only [ho, hx, hy]
    go_simp⟩
theorem yields_subW {ops : Array Oper} {S : World → Prop} {o : Oper} {a : Act} (hw : Region.wanted o (yielded ops a.tmps) = true) (x y : Operand) (ho : o.op = .binOp .sub 3 x y 3) (p q r : Int)
    (hx : a.eval x = .int .i64 p) (hy : a.eval y = .int .i64 q) (hr : p - q = r) (h0 : -1000000 ≤ r) (h1 : r ≤ 1000000) : YieldsIf Tryd.prog ops S o (.int .i64 r) a :=
  .inl ⟨hw, fun w _ => by
    have hw := wrap_small r h0 h1
    unfold execOp
    simp only [ho, hx, hy]
    go_simp⟩
theorem yields_addW {ops : Array Oper} {S : World → Prop} {o : Oper} {a : Act} (hw : Region.wanted o (yielded ops a.tmps) = true) (x y : Operand) (ho : o.op = .binOp .add 3 x y 3) (p q r : Int)
    (hx : a.eval x = .int .i64 p) (hy : a.eval y = .int .i64 q) (hr : p + q = r) (h0 : -1000000 ≤ r) (h1 : r ≤ 1000000) : YieldsIf Tryd.prog ops S o (.int .i64 r) a :=
  .inl ⟨hw, fun w _ => by
    have hw := wrap_small r h0 h1
    unfold execOp
    simp only [ho, hx, hy]
    go_simp⟩
theorem yields_mulW {ops : Array Oper} {S : World → Prop} {o : Oper} {a : Act} (hw : Region.wanted o (yielded ops a.tmps) = true) (x y : Operand) (ho : o.op = .binOp .mul 3 x y 3) (p q r : Int)
    (hx : a.eval x = .int .i64 p) (hy : a.eval y = .int .i64 q) (hr : p * q = r) (h0 : -1000000 ≤ r) (h1 : r ≤ 1000000) : YieldsIf Tryd.prog ops S o (.int .i64 r) a :=
  .inl ⟨hw, fun w _ => by
    have hw := wrap_small r h0 h1
    unfold execOp
    simp only [ho, hx, hy]
    go_simp⟩
theorem yields_indexW {ops : Array Oper} {S : World → Prop} {o : Oper} {a : Act} (hw : Region.wanted o (yielded ops a.tmps) = true) (x y : Operand) (ho : o.op = .indexAddr 28 x y) (b off n c k at' : Nat) (z : Int)
    (hx : a.eval x = .slice (some ⟨b, off, none⟩) n c) (hy : a.eval y = .int .i64 z) (hz : z = k) (hk : k < n) (hat : off + 32 * k = at') : YieldsIf Tryd.prog ops S o (.pointer (some ⟨b, at', none⟩)) a := by
  subst hat
  exact .inl ⟨hw, fun w _ => by
    unfold execOp
    simp only [ho, hx, hy, Sem.run_bind, run_indexD b off n c k z hz hk, Result.andThen_ok]
    rfl⟩
/-- a digest of a list that lies in memory -/
theorem Ds.at {w : World} {A : Option Addr} {n k : Nat} {L : List (List UInt8)} {d : List UInt8} (h : Ds w A n L) (hd : L[k]? = some d) : ∃ b off, A = some ⟨b, off, none⟩ ∧ d.length = 32 ∧ Bs w (some ⟨b, off + 32 * k, none⟩) 32 d := by
  have hk : k < n := by rw [← h.1]; exact (List.getElem?_eq_some_iff.1 hd).1
  obtain ⟨b, off, x, hA, _, hx, hl, hB⟩ := h.get hk
  obtain rfl : x = d := by rw [hx] at hd; injection hd
  exact ⟨b, off, hA, hl, hB⟩
theorem yields_indexO {ops : Array Oper} {S : World → Prop} {o : Oper} {a : Act} (hgd : o.guard = none) (x y : Operand) (ho : o.op = .indexAddr 28 x y) (b off n c k at' : Nat) (z : Int)
    (hx : a.eval x = .slice (some ⟨b, off, none⟩) n c) (hy : a.eval y = .int .i64 z) (hz : z = k) (hk : k < n) (hat : off + 32 * k = at') : YieldsIf Tryd.prog ops S o (.pointer (some ⟨b, at', none⟩)) a := by
  subst hat
  exact yields_indexD hgd x y ho b off n c k z hx hy hz hk
theorem run_allocD (w : World) : (Instr.alloc 46 true (.tuple #[])).run Tryd.prog w = .ok (.pointer (some ⟨w.heap.size, 0, none⟩)) (w.alloc (.cells lit32 46)) := by
  have hz := (zero_of_info zero25).1 w
  rw [lit32_zero]
  simp [Instr.alloc, hz, newVar, newRow, Value.cells]
theorem wp_allocD {o : Oper} {a : Act} {w : World} {K : Act → World → Prop} {Q : Exit → Act → World → Prop} (ho : o.op = .alloc 46)
    (h : ∀ g w', g = w.heap.size → Row w' g 46 lit32 → Below w.heap.size w w' → K (a.put o.dst (.pointer (some ⟨g, 0, none⟩))) w') : o.wp Tryd.prog a w K Q := by
  unfold Oper.wp execOp
  simp only [ho, Sem.run_bind, run_allocD, Result.andThen_ok]
  exact h _ _ rfl (Row.new w 46 lit32) ((Below.refl _ _).alloc (Nat.le_refl _) _)
theorem zero32_length : zero32.length = 32 := by unfold zero32; rw [List.length_replicate]
set_option maxRecDepth 100000 in
set_option maxHeartbeats 2000000 in
theorem RSame_yes (A B : Option Addr) (n c d : Nat) (L : List (List UInt8)) (w : World) (h : Ds w A n L) (h2 : Ds w B n L) (hn : n ≤ 1000000) :
    Calls Tryd.prog 22 #[.slice A n c, .slice B n d] w fun e w' => e = .returned (.bool true) ∧ ∃ m, w' = w.drewN m := by
  have hne : ((n : Int) != (n : Int)) = false := by simp
  have HA := Lib.hid h
  have HB := Lib.hid h2
  clear h h2
  go_enter Tryd.func22, Tryd.ntmps22
  go_wp2
  go_loopw [5] (fun i wr => ∃ k j : Nat, k ≤ n ∧ i = .int .i64 (k : Int) ∧ wr = w.drewN j) (fun i _ => n - (intOf i).toNat)
  case atStart => exact ⟨0, 0, Nat.zero_le _, rfl, rfl⟩
  case round =>
    obtain ⟨k, j, hk, rfl, hw⟩ := hrel
    have HW := Lib.hid hw
    have HA' : Hid (Ds wr A n L) := Lib.hid (hw ▸ HA.out.drewN j)
    have HB' : Hid (Ds wr B n L) := Lib.hid (hw ▸ HB.out.drewN j)
    clear hw
    by_cases hlt : k < n
    · have hik : (k : Int) < (n : Int) := by omega
      obtain ⟨b, off, x, rfl, hb, hx, hxl, hBx⟩ := HA'.out.get hlt
      obtain ⟨b2, off2, y, rfl, hb2, hy, hyl, hBy⟩ := HB'.out.get hlt
      obtain rfl : y = x := by rw [hx] at hy; injection hy with e; exact e.symm
      have HX := Lib.hid hxl
      have K0 := Lib.hid (show wr.drew.rangeAt b (off + 32 * k) (y.map bcell) ∧ wr.drew.rangeAt b2 (off2 + 32 * k) (y.map bcell) from ⟨hBx.range, hBy.range⟩)
      clear hx hy hxl hyl hBx hBy
      go_wp2_with fail
      refine wp_region_noPanic ?_
      refine wp_region_held_drew (S := fun w' => w'.rangeAt b (off + 32 * k) (y.map bcell) ∧ w'.rangeAt b2 (off2 + 32 * k) (y.map bcell)) (by kernel_rfl) K0.out (fun hHeld => ?_)
      refine takeD (i := 0) (some 17) (.slice (some ⟨b, off, none⟩) n c) rfl rfl (by kernel_rfl) (by kernel_rfl) (by kernel_rfl) (fun _ _ _ h => h) (Or.inl ⟨by rfl, fun _ _ => rfl⟩) hHeld ?_
      simp only [Act.put, List.setIfInBounds_toArray, List.set_cons_zero, List.set_cons_succ]
      refine takeD (i := 1) (some 18) (.int .i64 (k : Int)) rfl rfl (by kernel_rfl) (by kernel_rfl) (by kernel_rfl) (fun _ _ _ h => h) (Or.inl ⟨by rfl, fun _ _ => rfl⟩) hHeld ?_
      simp only [Act.put, List.setIfInBounds_toArray, List.set_cons_zero, List.set_cons_succ]
      refine takeD (i := 2) (some 19) (.pointer (some ⟨b, off + 32 * k, none⟩)) rfl rfl (by kernel_rfl) (by kernel_rfl) (by kernel_rfl) (fun _ _ _ h => h) (yields_indexD rfl (.tmp 17) (.tmp 18) rfl b off n c k _ rfl rfl rfl hlt) hHeld ?_
      simp only [Act.put, List.setIfInBounds_toArray, List.set_cons_zero, List.set_cons_succ]
      refine takeD (i := 3) (some 20) (.agg (bcells y)) rfl rfl (by kernel_rfl) (by kernel_rfl) (by kernel_rfl) (fun _ _ _ h => h) (yields_loadD rfl (.tmp 19) rfl b (off + 32 * k) y rfl (fun _ h => h.1) HX.out) hHeld ?_
      simp only [Act.put, List.setIfInBounds_toArray, List.set_cons_zero, List.set_cons_succ]
      refine takeD (i := 4) (some 21) (.slice (some ⟨b2, off2, none⟩) n d) rfl rfl (by kernel_rfl) (by kernel_rfl) (by kernel_rfl) (fun _ _ _ h => h) (Or.inl ⟨by rfl, fun _ _ => rfl⟩) hHeld ?_
      simp only [Act.put, List.setIfInBounds_toArray, List.set_cons_zero, List.set_cons_succ]
      refine takeD (i := 5) (some 22) (.int .i64 (k : Int)) rfl rfl (by kernel_rfl) (by kernel_rfl) (by kernel_rfl) (fun _ _ _ h => h) (Or.inl ⟨by rfl, fun _ _ => rfl⟩) hHeld ?_
      simp only [Act.put, List.setIfInBounds_toArray, List.set_cons_zero, List.set_cons_succ]
      refine takeD (i := 6) (some 23) (.pointer (some ⟨b2, off2 + 32 * k, none⟩)) rfl rfl (by kernel_rfl) (by kernel_rfl) (by kernel_rfl) (fun _ _ _ h => h) (yields_indexD rfl (.tmp 21) (.tmp 22) rfl b2 off2 n d k _ rfl rfl rfl hlt) hHeld ?_
      simp only [Act.put, List.setIfInBounds_toArray, List.set_cons_zero, List.set_cons_succ]
      refine takeD (i := 7) (some 24) (.agg (bcells y)) rfl rfl (by kernel_rfl) (by kernel_rfl) (by kernel_rfl) (fun _ _ _ h => h) (yields_loadD rfl (.tmp 23) rfl b2 (off2 + 32 * k) y rfl (fun _ h => h.2) HX.out) hHeld ?_
      simp only [Act.put, List.setIfInBounds_toArray, List.set_cons_zero, List.set_cons_succ]
      refine takeD (i := 8) (some 25) (.bool false) rfl rfl (by kernel_rfl) (by kernel_rfl) (by kernel_rfl) (fun _ _ _ h => h) (yields_neqD rfl (.tmp 20) (.tmp 24) rfl y rfl rfl HX.out) hHeld ?_
      simp only [Act.put, List.setIfInBounds_toArray, List.set_cons_zero, List.set_cons_succ]
      (try simp only [Act.put, List.setIfInBounds_toArray])
      refine wpAnyH_done (by kernel_rfl) ?_ _
      refine NoPanic.normal ?_
      go_wp2_with fail
      refine ⟨⟨k + 1, j + 1, by omega, by go_num, by rw [HW.out]; rfl⟩, by simp [intOf]; omega⟩
    · go_wp2
      go_ret
      exact ⟨rfl, _, HW.out⟩
set_option maxRecDepth 100000 in
theorem bytes_of_trod {H : Type} {enc : TypeId × Value → H} {W : World} {fuel : Nat} {cs : List Value} {x : DataW H × List MemPlace} (h : DataW.trod enc Tryd.prog W 0 (fun _ => true) true fuel 46 cs = some x) : ∃ l : List UInt8, l.length = 32 ∧ cs = l.map bcell := by
  obtain ⟨xs, m, rfl, hx, hlen, hxl, hel⟩ := DataW.trod_array Tryd.under23 h
  have c5 : Tryd.prog.cellsOf 5 = 1 := by kernel_rfl
  have c23 : Tryd.prog.cellsOf 46 = 32 := by kernel_rfl
  rw [c23] at hlen
  obtain ⟨l, hl, hg⟩ := cells_bytes cs.toArray 32 (by simp; omega) (fun i hi => by
    have hi' := hel i hi
    rw [c5, Nat.mul_one] at hi'
    obtain ⟨y, hy⟩ : ∃ y, xs[i]? = some y := ⟨_, List.getElem?_eq_getElem (by omega)⟩
    rw [hy] at hi'
    obtain ⟨k, e1, e2, hw⟩ := DataW.trod_int Tryd.underlying5 hi'
    have e3 := congrArg (·[0]?) e1
    simp [List.getElem?_drop] at e3
    obtain ⟨z, rfl⟩ := byte_of hw
    exact ⟨z, by simpa [bcell] using e3⟩)
  refine ⟨l, hl, ?_⟩
  apply List.ext_getElem?
  intro j
  rw [List.getElem?_map]
  by_cases hj : j < 32
  · have := hg j hj
    simpa using this
  · rw [List.getElem?_eq_none (by omega), List.getElem?_eq_none (by omega)]; rfl
set_option maxRecDepth 100000 in
theorem open_ds {H : Type} {enc : TypeId × Value → H} {W : World} {base : Nat} {v : Value} {d : DataW H} {p : List MemPlace} (hv : Value.okWide Tryd.prog W .any base 28 v)
    (h : DataW.Trod enc Tryd.prog W 0 (fun _ => true) true 28 v d p) : ∃ (a0 : Option Addr) (len cap : Nat) (L : List (List UInt8)), v = .slice a0 len cap ∧ Ds W a0 len L ∧ len ≤ cap := by
  obtain ⟨a0, len, cap, rfl⟩ := okWide_slice Tryd.under24 hv
  obtain ⟨fuel, hf⟩ := h
  rcases Deep.open_slice Tryd.under24 hf with ⟨hcs, _⟩ | ⟨a, len', cap', m, n, D, Pl, hcs, _, hl, _, hmm, _, hel⟩
  · simp [Value.cells] at hcs
    obtain ⟨rfl, rfl, rfl⟩ := hcs
    exact ⟨_, _, _, [], rfl, Ds.nil _ _, Nat.le_refl _⟩
  · simp [Value.cells] at hcs
    obtain ⟨rfl, rfl, rfl⟩ := hcs
    simp only [if_true] at hmm
    subst hmm
    have c23 : Tryd.prog.cellsOf 46 = 32 := by kernel_rfl
    rw [c23] at hel
    by_cases h0 : len = 0
    · subst h0; exact ⟨_, _, _, [], rfl, Ds.nil _ _, hl⟩
    obtain ⟨b, off, spot⟩ := a
    have hspot : spot = none := by
      obtain ⟨cs', h1, h2⟩ := hel 0 (by omega)
      obtain ⟨l, hl32, rfl⟩ := bytes_of_trod h2
      obtain ⟨_, _, hcell⟩ := World.cells?_some h1
      have hq := hcell 0 (by omega)
      rw [List.getElem?_map, List.getElem?_eq_getElem (by omega)] at hq
      simpa [Addr.add] using World.cell?_spot hq
    subst hspot
    have key : ∀ k, k ≤ len → ∃ L : List (List UInt8), L.length = k ∧ Digs L ∧ ∀ j x, (flat L)[j]? = some x → b < W.heap.size ∧ W.cell? ⟨b, off + j, none⟩ = some (bcell x) := by
      intro k
      induction k with
      | zero => exact fun _ => ⟨[], rfl, Digs.nil, fun j x hj => by simp [flat] at hj⟩
      | succ k ih =>
        intro hk
        obtain ⟨L, hL, hD, hc⟩ := ih (by omega)
        obtain ⟨cs', h1, h2⟩ := hel k (by omega)
        obtain ⟨l, hl32, rfl⟩ := bytes_of_trod h2
        obtain ⟨_, _, hcell⟩ := World.cells?_some h1
        have hfl : (flat L).length = 32 * k := by rw [flat_length hD, hL]
        refine ⟨L ++ [l], by simp [hL], hD.app (fun d hd => by simp at hd; subst hd; exact hl32), fun j x hj => ?_⟩
        rw [flat_app, show flat [l] = l by simp [flat]] at hj
        by_cases hlt : j < 32 * k
        · rw [List.getElem?_append_left (by omega)] at hj
          exact hc j x hj
        · obtain ⟨q, rfl⟩ : ∃ q, j = 32 * k + q := ⟨j - 32 * k, by omega⟩
          rw [List.getElem?_append_right (by omega), hfl, Nat.add_sub_cancel_left] at hj
          have hj2 : q < 32 := by have := (List.getElem?_eq_some_iff.1 hj).1; rw [hl32] at this; exact this
          have hq := hcell q hj2
          rw [List.getElem?_map, hj, Addr.add_mid, Addr.add_mid, Nat.mul_comm k 32, Nat.add_assoc] at hq
          exact ⟨World.block_lt_of_cell? W _ hq, hq⟩
    obtain ⟨L, hL, hD, hc⟩ := key len (Nat.le_refl _)
    refine ⟨_, _, _, L, rfl, ⟨hL, hD, by rw [flat_length hD, hL], fun j x hj => ?_⟩, hl⟩
    obtain ⟨hb, hcell⟩ := hc j x hj
    exact ⟨b, off, rfl, hb, hcell⟩
theorem Ds.take {w : World} {A : Option Addr} {n k : Nat} {L : List (List UInt8)} (h : Ds w A n L) (hk : k ≤ n) : Ds w A k (L.take k) := by
  obtain ⟨h1, h2, h3⟩ := h
  refine ⟨by rw [List.length_take]; omega, h2.take k, ?_⟩
  have e : flat (L.take k) = (flat L).take (32 * k) := by
    have q : flat L = flat (L.take k) ++ flat (L.drop k) := by rw [← flat_app, List.take_append_drop]
    have ql : (flat (L.take k)).length = 32 * k := by rw [flat_length (h2.take k), List.length_take]; congr 1; omega
    rw [q, ← ql, List.take_left]
  rw [e]
  exact h3.take (by omega)
theorem Digs.drop {L : List (List UInt8)} (h : Digs L) (n : Nat) : Digs (L.drop n) := fun d hd => h d (List.mem_of_mem_drop hd)
theorem Ds.dropAt {w : World} {b off n k : Nat} {L : List (List UInt8)} (h : Ds w (some ⟨b, off, none⟩) n L) : Ds w (some ⟨b, off + k * 32, none⟩) (n - k) (L.drop k) := by
  obtain ⟨h1, h2, h3⟩ := h
  refine ⟨by rw [List.length_drop]; omega, h2.drop k, ?_⟩
  have := h3.drop (m := 32 * k)
  rw [flat_drop h2, show 32 * n - 32 * k = 32 * (n - k) by omega, Nat.mul_comm 32 k] at this
  exact this
theorem cutD_from (A : Option Addr) (n c k : Nat) (z : Int) (hz : z = k) (hk : k ≤ n) (hnc : n ≤ c) :
    ∃ A', (∀ w, (Instr.sliceAt 28 (.slice A n c) (some (.int .i64 z)) none none).run Tryd.prog w = .ok (.slice A' (n - k) (c - k)) w) ∧ (∀ w L, Ds w A n L → Ds w A' (n - k) (L.drop k)) ∧ (∀ g, Apart A (32 * n) g → Apart A' (32 * (n - k)) g) := by
  subst hz
  refine ⟨if c = k then A else A.map (·.add (k * 32)), fun w => ?_, fun w L hb => ?_, fun g ha => ?_⟩
  · have h1 : (k : Int) ≤ n := by omega
    simp [Instr.sliceAt, Instr.slice, run_underlying Tryd.under24, Instr.sliceBounds, run_sliceBound, h1]
  · by_cases hck : c = k
    · obtain rfl : n = k := by omega
      rw [List.drop_eq_nil_of_le (by rw [hb.1]; exact Nat.le_refl _), Nat.sub_self]
      exact Ds.nil _ _
    · rw [if_neg hck]
      by_cases hn : n = 0
      · subst hn
        obtain rfl : k = 0 := by omega
        obtain rfl : L = [] := List.eq_nil_of_length_eq_zero hb.1
        exact Ds.nil _ _
      · obtain ⟨b, off, d, rfl, _⟩ := hb.get (k := 0) (by omega)
        rw [Option.map_some, Addr.add_mid]
        exact hb.dropAt
  · rcases ha with h0 | ⟨b, off, rfl, hne⟩
    · exact .inl (by omega)
    · by_cases hck : c = k
      · exact .inl (by omega)
      · rw [if_neg hck, Option.map_some, Addr.add_mid]
        exact .inr ⟨b, _, rfl, hne⟩
theorem wpList_fromD {ops : Array Oper} {rest : List Oper} {o : Oper} {a : Act} {w : World} {Q : Exit → Act → World → Prop} (hgd : o.guard = none) (x y : Operand) (ho : o.op = .slice 28 x (some y) none none)
    (A : Option Addr) (n c k : Nat) (z : Int) (hx : a.eval x = .slice A n c) (hy : a.eval y = .int .i64 z) (hz : z = k) (hk : k ≤ n) (hnc : n ≤ c)
    (h : ∀ A', (∀ w L, Ds w A n L → Ds w A' (n - k) (L.drop k)) → (∀ g, Apart A (32 * n) g → Apart A' (32 * (n - k)) g) → wpList Tryd.prog ops Q rest (a.put o.dst (.slice A' (n - k) (c - k))) w) : wpList Tryd.prog ops Q (o :: rest) a w := by
  obtain ⟨A', hrun, h1, h2⟩ := cutD_from A n c k z hz hk hnc
  refine wpList_plain hgd fun K hK => ?_
  unfold Oper.wp execOp
  simp [ho, hx, hy, hrun, Result.andThen]
  exact hK _ _ (h A' h1 h2)
theorem cutD_head (A : Option Addr) (n c k : Nat) (z : Int) (hz : z = k) (hk : k ≤ n) (hnc : n ≤ c) :
    ∃ A', (∀ w, (Instr.sliceAt 28 (.slice A n c) none (some (.int .i64 z)) none).run Tryd.prog w = .ok (.slice A' k c) w) ∧ (∀ w L, Ds w A n L → Ds w A' k (L.take k)) ∧ (∀ g, Apart A (32 * n) g → Apart A' (32 * k) g) := by
  subst hz
  refine ⟨if c = 0 then A else A.map (·.add (0 * 32)), fun w => ?_, fun w L hb => ?_, fun g ha => ?_⟩
  · have h2 : (k : Int) ≤ c := by omega
    simp [Instr.sliceAt, Instr.slice, run_underlying Tryd.under24, Instr.sliceBounds, run_sliceBound, h2]
  · by_cases hc : c = 0
    · rw [if_pos hc]; exact hb.take hk
    · rw [if_neg hc]
      by_cases hn : n = 0
      · subst hn
        obtain rfl : k = 0 := by omega
        obtain rfl : L = [] := List.eq_nil_of_length_eq_zero hb.1
        exact Ds.nil _ _
      · obtain ⟨b, off, d, rfl, _⟩ := hb.get (k := 0) (by omega)
        rw [Option.map_some, Addr.add_mid, Nat.zero_mul, Nat.add_zero]
        exact hb.take hk
  · rcases ha with h0 | ⟨b, off, rfl, hne⟩
    · exact .inl (by omega)
    · by_cases hc : c = 0
      · exact .inl (by omega)
      · rw [if_neg hc, Option.map_some, Addr.add_mid]
        exact .inr ⟨b, _, rfl, hne⟩
theorem wpList_headD {ops : Array Oper} {rest : List Oper} {o : Oper} {a : Act} {w : World} {Q : Exit → Act → World → Prop} (hgd : o.guard = none) (x y : Operand) (ho : o.op = .slice 28 x none (some y) none)
    (A : Option Addr) (n c k : Nat) (z : Int) (hx : a.eval x = .slice A n c) (hy : a.eval y = .int .i64 z) (hz : z = k) (hk : k ≤ n) (hnc : n ≤ c)
    (h : ∀ A', (∀ w L, Ds w A n L → Ds w A' k (L.take k)) → (∀ g, Apart A (32 * n) g → Apart A' (32 * k) g) → wpList Tryd.prog ops Q rest (a.put o.dst (.slice A' k c)) w) : wpList Tryd.prog ops Q (o :: rest) a w := by
  obtain ⟨A', hrun, h1, h2⟩ := cutD_head A n c k z hz hk hnc
  refine wpList_plain hgd fun K hK => ?_
  unfold Oper.wp execOp
  simp [ho, hx, hy, hrun, Result.andThen]
  exact hK _ _ (h A' h1 h2)
/-- copy(dst, src) of digests, k of them -/
theorem run_copyD (rt : TypeId) (w : World) (g off dLen dCap : Nat) (A : Option Addr) (m c : Nat) (M : List (List UInt8)) (ty : TypeId) (cur : Array Value)
    (hr : Row w g ty cur) (hb : Ds w A m M) (k : Nat) (hk : Nat.min m dLen = k) (hfit : off + 32 * k ≤ cur.size) :
    ∃ w', (Builtin.copy_ #[28, 28] rt #[.slice (some ⟨g, off, none⟩) dLen dCap, .slice A m c]).run Tryd.prog w = .ok (goInt (k : Nat)) w' ∧ Row w' g ty (spl cur off (flat (M.take k))) ∧ Only g w w' := by
  obtain ⟨i, hi, hz, hsize, hby⟩ := info_parts Tryd.infoD
  have hkm : k ≤ m := by rw [← hk]; exact Nat.min_le_left _ _
  have hbk := hb.take hkm
  by_cases h0 : k = 0
  · subst h0
    have e : spl cur off (flat (M.take 0)) = cur := by
      rw [List.take_zero, show flat ([] : List (List UInt8)) = [] from rfl]
      unfold spl splice
      simp
    refine ⟨w, ?_, by rw [e]; exact hr, Only.refl _ _⟩
    rcases A with _ | a
    · simp [Builtin.copy_, run_underlying Tryd.under24, Builtin.lenOf, Builtin.firstCells, sizeOf, typeInfo, hi, hk, storeCells]
    · simp [Builtin.copy_, run_underlying Tryd.under24, Builtin.lenOf, Builtin.firstCells, sizeOf, typeInfo, hi, hk, storeCells, loadCells, loadCellsFrom]
  · obtain ⟨b, o, x, rfl, _⟩ := hbk.get (k := 0) (by omega)
    have hlen : ((flat (M.take k)).map bcell).length = k * 32 := by rw [List.length_map, hbk.2.2.1, Nat.mul_comm]
    have hl := run_loadCells_list (P := Tryd.prog) w ⟨b, o, none⟩ ((flat (M.take k)).map bcell) (fun j v hv => by rw [Addr.add_mid]; exact hbk.2.2.range j v hv)
    have hst := storeCells_free Tryd.prog g off ty (0, 0) ((flat (M.take k)).map bcell) 0 cur w hr (fun j _ => by simp) (by rw [hlen]; omega) (fun v hv => by obtain ⟨x, _, rfl⟩ := List.mem_map.1 hv; rfl)
    have e : spl cur off (flat (M.take k)) = (cur.toList.take (off + 0) ++ (flat (M.take k)).map bcell ++ cur.toList.drop (off + 0 + ((flat (M.take k)).map bcell).length)).toArray := by
      unfold spl splice; simp
    rw [← e] at hst
    rw [hlen] at hl
    refine ⟨_, ?_, hr.setRow _, Only.setRow g w _⟩
    simp [Builtin.copy_, run_underlying Tryd.under24, Builtin.lenOf, Builtin.firstCells, sizeOf, typeInfo, hi, hsize, hk, hl, hst]
theorem wpList_copyDs {ops : Array Oper} {rest : List Oper} {o : Oper} {a : Act} {w : World} {Q : Exit → Act → World → Prop} (hgd : o.guard = none) (d s : Operand) (ho : o.op = .call { callee := .builtin .copy, args := #[d, s], argTypes := #[28, 28] })
    (g off dLen dCap : Nat) (A : Option Addr) (m c : Nat) (hd : a.eval d = .slice (some ⟨g, off, none⟩) dLen dCap) (hs : a.eval s = .slice A m c) (M : List (List UInt8)) (ty : TypeId) (cur : Array Value)
    (hr : Row w g ty cur) (hb : Ds w A m M) (k : Nat) (hk : Nat.min m dLen = k) (hfit : off + 32 * k ≤ cur.size)
    (h : ∀ w', Row w' g ty (spl cur off (flat (M.take k))) → Only g w w' → wpList Tryd.prog ops Q rest (a.put o.dst (.int .i64 (k : Int))) w') : wpList Tryd.prog ops Q (o :: rest) a w := by
  refine wpList_plain hgd fun K hK => ?_
  obtain ⟨w', hrun, h1, h2⟩ := run_copyD o.type w g off dLen dCap A m c M ty cur hr hb k hk hfit
  unfold Oper.wp
  simp [execOp, ho, resolve, invoke, builtin, hd, hs, hrun, Result.andThen]
  exact hK _ _ (h w' h1 h2)
theorem Digs.getD {L : List (List UInt8)} (h : Digs L) {i : Nat} (hi : i < L.length) : (L.getD i []).length = 32 := by
  rw [List.getD_eq_getElem?_getD, List.getElem?_eq_getElem hi]
  exact h _ (List.getElem_mem hi)
theorem getD_some {L : List (List UInt8)} {i : Nat} (hi : i < L.length) : L[i]? = some (L.getD i []) := by
  rw [List.getD_eq_getElem?_getD, List.getElem?_eq_getElem hi]; rfl
theorem Digs.dropL {L : List (List UInt8)} (h : Digs L) (n : Nat) : Digs (L.drop n) := fun d hd => h d (List.mem_of_mem_drop hd)
theorem Digs.one {d : List UInt8} (h : d.length = 32) : Digs [d] := fun x hx => by simp at hx; subst hx; exact h
theorem two_pow_le {k : Nat} (h : k ≤ 10) : 2 ^ k ≤ 1024 := Nat.le_trans (Nat.pow_le_pow_right (by decide) h) (by decide)
theorem wp_loadD {o : Oper} {a : Act} {w : World} {K : Act → World → Prop} {Q : Exit → Act → World → Prop} (x : Operand) (ho : o.op = .load 46 x) (b off : Nat) (d : List UInt8)
    (hx : a.eval x = .pointer (some ⟨b, off, none⟩)) (hc : w.rangeAt b off (d.map bcell)) (hd : d.length = 32) (h : K (a.put o.dst (.agg (bcells d))) w) : o.wp Tryd.prog a w K Q :=
  wp_load_mid 46 x ho b off hx _ _ hc Tryd.under23 rfl (by rw [List.length_map, hd]; exact Tryd.sizeD) h
/-- x[:k] of digests that lie at an address -/
theorem wpList_headAt {ops : Array Oper} {rest : List Oper} {o : Oper} {a : Act} {w : World} {Q : Exit → Act → World → Prop} (hgd : o.guard = none) (x y : Operand) (ho : o.op = .slice 28 x none (some y) none)
    (b off n c k : Nat) (z : Int) (hx : a.eval x = .slice (some ⟨b, off, none⟩) n c) (hy : a.eval y = .int .i64 z) (hz : z = k) (hk : k ≤ c)
    (h : wpList Tryd.prog ops Q rest (a.put o.dst (.slice (some ⟨b, off, none⟩) k c)) w) : wpList Tryd.prog ops Q (o :: rest) a w := by
  subst hz
  have hrun : (Instr.sliceAt 28 (.slice (some ⟨b, off, none⟩) n c) none (some (.int .i64 (k : Int))) none).run Tryd.prog w = .ok (.slice (some ⟨b, off, none⟩) k c) w := by
    have h2 : (k : Int) ≤ c := by omega
    simp [Instr.sliceAt, Instr.slice, run_underlying Tryd.under24, Instr.sliceBounds, run_sliceBound, h2, Addr.add_mid]
  refine wpList_plain hgd fun K hK => ?_
  unfold Oper.wp execOp
  simp [ho, hx, hy, hrun, Result.andThen]
  exact hK _ _ h
/-- a digest that lies in the middle of a row -/
theorem range_mid {w : World} {g j : Nat} {Y d : List UInt8} (h : Row w g 46 (bcells Y)) (hj : 32 * j + 32 ≤ Y.length) (he : (Y.drop (32 * j)).take 32 = d) : w.rangeAt g (32 * j) (d.map bcell) := by
  have h1 := ((h.bsB (n := Y.length) rfl).drop (m := 32 * j)).take (m := 32) (by omega)
  rw [he, Nat.zero_add] at h1
  exact h1.range
theorem OwnD.only {w w' : World} {base g : Nat} {v : Value} {n : Nat} {L : List (List UInt8)} (h : OwnD w base v n L) (ho : Only g w w') (hg : g < base) : OwnD w' base v n L := by
  refine ⟨h.1, h.2.1, ?_⟩
  rcases h.2.2 with h0 | ⟨b, cap, cur, hv, hge, hb, hr⟩
  · exact .inl h0
  · exact .inr ⟨b, cap, cur, hv, hge, (ho.block b (Array.getElem?_eq_some_iff.1 hb).1 (by omega)).trans hb, hr⟩
/-- []Digest of one -/
theorem run_build1 (p : List UInt8) (hp : p.length = 32) (w : World) :
    (Instr.buildSlice 28 1 #[(0, .agg (bcells p))]).run Tryd.prog w = .ok (.slice (some ⟨w.heap.size, 0, none⟩) 1 1) (w.alloc (.cells (bcells p) 46)) := by
  obtain ⟨i, hi, hz, hsize, hby⟩ := info_parts Tryd.infoD
  refine run_buildSlice w 28 46 1 _ _ i _ Tryd.under24 hi hz (by rw [hsize]; decide) (by rw [hsize]; decide) ?_
  rw [hsize]
  have hf := Great.fill_whole (s := 32) (by omega) [.agg (bcells p)] ((Array.range (1 * 32)).map ((Value.agg (bcells zero32)).cells[· % (Value.agg (bcells zero32)).cells.size]!))
    (fun v hv => by simp at hv; rw [hv]; simp [Value.cells, bcells_size, hp]) (by simp)
  have e : (([.agg (bcells p)] : List Value).flatMap fun v => v.cells.toList).toArray = bcells p := by
    simp [Value.cells, bcells]
  rw [e] at hf
  exact hf
theorem wpList_build1 {ops : Array Oper} {rest : List Oper} {o : Oper} {a : Act} {w : World} {Q : Exit → Act → World → Prop} (hgd : o.guard = none) (x : Operand) (ho : o.op = .buildSlice 28 1 #[(0, x)]) (p : List UInt8)
    (hx : a.eval x = .agg (bcells p)) (hp : p.length = 32)
    (h : ∀ g w', g = w.heap.size → Ds w' (some ⟨g, 0, none⟩) 1 [p] → Below w.heap.size w w' → wpList Tryd.prog ops Q rest (a.put o.dst (.slice (some ⟨g, 0, none⟩) 1 1)) w') : wpList Tryd.prog ops Q (o :: rest) a w := by
  refine wpList_plain hgd fun K hK => ?_
  have hd : Ds (w.alloc (.cells (bcells p) 46)) (some ⟨w.heap.size, 0, none⟩) 1 [p] := by
    refine ⟨rfl, Digs.one hp, ?_⟩
    have e : flat [p] = p := by simp [flat]
    rw [e]
    exact (Row.new w 46 (bcells p)).bsB hp
  unfold Oper.wp execOp
  simp only [ho, List.map_toArray, List.map_cons, List.map_nil, hx, Sem.run_bind, run_build1 p hp, Result.andThen_ok]
  exact hK _ _ (h _ _ rfl hd ((Below.refl _ _).alloc (Nat.le_refl _) _))
theorem wrap_pow {n : Nat} (h : n ≤ 10) : wrap64 ((2 : Int) ^ n) = ((2 ^ n : Nat) : Int) := by
  have e : ((2 : Int) ^ n) = ((2 ^ n : Nat) : Int) := by simp
  have h1 := two_pow_le h
  rw [e]
  generalize 2 ^ n = p at *
  unfold wrap64
  omega
theorem div_pow (i m : Nat) : ((i : Int)) / 2 ^ m = ((i / 2 ^ m : Nat) : Int) := by simp
theorem yields_eqE {ops : Array Oper} {S : World → Prop} {o : Oper} {a : Act} (hw : Region.wanted o (yielded ops a.tmps) = true) (x y : Operand) (ho : o.op = .binOp .eql 34 x y 34) (p q : Int) (b : Bool)
    (hx : a.eval x = .int .i64 p) (hy : a.eval y = .int .i64 q) (hb : (p == q) = b) : YieldsIf Tryd.prog ops S o (.bool b) a :=
  .inl ⟨hw, fun w _ => by
    unfold execOp
    simp only [ho, hx, hy]
    go_simp⟩
theorem yields_neqX {ops : Array Oper} {S : World → Prop} {o : Oper} {a : Act} (hw : Region.wanted o (yielded ops a.tmps) = true) (x y : Operand) (ho : o.op = .binOp .neq 46 x y 46) (d r : List UInt8)
    (hx : a.eval x = .agg (bcells d)) (hy : a.eval y = .agg (bcells r)) (hd : d.length = 32) (hr : r.length = 32) (hb : decide (d = r) = false) : YieldsIf Tryd.prog ops S o (.bool true) a :=
  .inl ⟨hw, fun w _ => by
    have he := eqD d r hd hr w
    rw [hb] at he
    unfold execOp
    simp only [ho, hx, hy]
    go_simp⟩
theorem yields_zero {ops : Array Oper} {S : World → Prop} {o : Oper} {a : Act} (hw : Region.wanted o (yielded ops a.tmps) = true) (ho : o.op = .build 46 #[]) : YieldsIf Tryd.prog ops S o (.agg (bcells zero32)) a :=
  .inl ⟨hw, fun w _ => by
    unfold execOp
    simp only [ho]
    go_simp
    rfl⟩
end Go.Proofs.YtbpbpdaohganaaaDoor
