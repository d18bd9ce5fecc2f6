/-
  Lists of digests, over lists of bytes (flat, Digs); a digest that came in by value, opened; what juratref03.Bytes answers; laws for a walk: a store of a whole array as a step of a region that draws, operations of such a region taken first.
-/
import Derived.Test.YtiidcnjhjojhoaaDoorSums
import Derived.Test.YtiidcnjhjojhoaaDoorMark
import Derived.Test.YtiidcnjhjojhoaaDoorRefSum
import Derived.Deep.RegionHeld3
import Derived.Deep.Matrix
namespace Go.Proofs.YtiidcnjhjojhoaaDoor
open Go.ChangeShapes Go.WideShapes Go.ChangeAt Go.RowKit
theorem Row.bsB {w : World} {g : Nat} {t : TypeId} {l : List UInt8} {n : Nat} (h : Row w g t (bcells l)) (hl : l.length = n) : Bs w (some ⟨g, 0, none⟩) n l :=
  ⟨hl, fun k x hx => ⟨g, 0, rfl, h.lt, by rw [Nat.zero_add, h.cell k, bcells_get?, hx]; rfl⟩⟩
theorem take_getD (d : List UInt8) (k : Nat) (h : k < d.length) : d.take k ++ [d.getD k 0] = d.take (k + 1) := by
  rw [List.take_add_one, List.getElem?_eq_getElem h, List.getD_eq_getElem?_getD, List.getElem?_eq_getElem h]; rfl
set_option maxRecDepth 100000 in
set_option maxHeartbeats 1000000 in
theorem DBytes_any (d : List UInt8) (w : World) (hd : d.length = 32) : Calls Tryd.prog 29 #[.agg (bcells d)] w (NewSlice w 5 d) := by
  have HD := Lib.hid hd
  clear hd
  go_enter Tryd.func29, Tryd.ntmps29
  go_wp2_with fail
  go_loopw [3, 4] (fun t i wr => ∃ (k : Nat) (A : Option Addr) (c : Nat), k ≤ 32 ∧ i = .int .i64 (k : Int) ∧ t = .slice A k c ∧ Below w.heap.size w wr ∧ Row wr w.heap.size 24 (bcells d) ∧ Own wr (w.heap.size + 1) 5 (.slice A k c) k (d.take k)) (fun _ i _ => 32 - (intOf i).toNat)
  case atStart => exact ⟨0, none, 0, Nat.zero_le _, rfl, rfl, (Below.refl _ _).alloc (Nat.le_refl _) _, Row.new _ _ _, Own.nil _ _ _⟩
  case round =>
    obtain ⟨k, A, c, hk, rfl, rfl, hbel, hr, ho⟩ := hrel
    have hbs := hbel.size
    have hr1 := hr.lt
    have HO := Lib.hid ho
    have HR := Lib.hid hr
    by_cases hlt : k < 32
    · have i0 : (0 : Int) ≤ (k : Int) := by omega
      have i1 : (k : Int) < 32 := by omega
      obtain ⟨X, hX⟩ : ∃ X, d.getD k 0 = X := ⟨_, rfl⟩
      have x1 : wr.cell? ⟨w.heap.size, k, none⟩ = some (.int .u8 (X.toNat : Int)) := by
        rw [hr.cell k, bcells_get _ _ (by rw [HD.out]; exact hlt), hX]
      have HX := Lib.hid hX
      clear hr ho hX
      go_wp2_with (at_builtin; refine wpList_app Tryd.byteTypes rfl (.tmp 9) (.tmp 13) rfl (w.heap.size + 1) _ k (d.take k) rfl (own_below HO.out ((Below.refl _ _).alloc (Nat.le_refl _) _)) _ 1 1 [X] rfl (one_of wr X 5).bs (by omega) (by simp; omega) ?_; intro A3 c3 w3 ho3 hb3 _)
      refine ⟨⟨k + 1, A3, c3, by omega, by go_num, rfl, ?_, ?_, ?_⟩, by simp [intOf]; omega⟩
      · exact (hbel.alloc hbs _).trans (hb3.mono (by omega))
      · exact (HR.out.alloc _).below hb3 (by omega)
      · rw [← take_getD d k (by rw [HD.out]; exact hlt), HX.out]; exact ho3
    · obtain rfl : k = 32 := by omega
      rw [List.take_of_length_le (by rw [HD.out]; exact Nat.le_refl _)] at HO
      clear hr ho
      go_wp2_with fail
      go_ret
      obtain ⟨A4, c4, e4, hc4⟩ := HO.out.form
      injection e4 with e5 e6 e7
      subst e5 e7
      exact ⟨_, _, _, rfl, HO.out.bs, hc4, hbel, HO.out.mono (by omega)⟩
theorem byte_of {k : Int} (hw : (Lit.int .u8 k).wf = true) : ∃ x : UInt8, k = (x.toNat : Int) := by
  simp only [Lit.wf, Bool.and_eq_true, IntKind.min, IntKind.max] at hw
  obtain ⟨h1, h2⟩ := hw
  refine ⟨UInt8.ofNat k.toNat, ?_⟩
  simp [IntKind.bits, IntKind.signed] at h1 h2
  rw [UInt8.toNat_ofNat']
  omega
theorem cells_bytes (cs : Array Value) : ∀ n, n ≤ cs.size → (∀ i, i < n → ∃ x : UInt8, cs[i]? = some (bcell x)) → ∃ l : List UInt8, l.length = n ∧ ∀ i, i < n → cs[i]? = (l[i]?).map bcell
  | 0, _, _ => ⟨[], rfl, fun i h => by omega⟩
  | n + 1, hn, h => by
    obtain ⟨l, hl, hg⟩ := cells_bytes cs n (by omega) (fun i hi => h i (by omega))
    obtain ⟨x, hx⟩ := h n (by omega)
    refine ⟨l ++ [x], by simp [hl], fun i hi => ?_⟩
    by_cases e : i = n
    · subst e; rw [List.getElem?_append_right (by omega), hl, Nat.sub_self, hx]; rfl
    · rw [List.getElem?_append_left (by omega)]; exact hg i (by omega)
theorem open_digest {H : Type} {enc : TypeId × Value → H} {W : World} {base : Nat} {v : Value} {d : DataW H} {p : List MemPlace} (hv : Value.okWide Tryd.prog W .any base 24 v)
    (h : DataW.Trod enc Tryd.prog W 0 (fun _ => true) true 24 v d p) : ∃ s : List UInt8, s.length = 32 ∧ v = .agg (bcells s) := by
  obtain ⟨cs, rfl, hsz⟩ : ∃ cs, v = .agg cs ∧ cs.size = Tryd.prog.cellsOf 24 := by
    simp only [Value.okWide, Tryd.underlying24'] at hv
    obtain ⟨cs, h1, h2, _⟩ := hv
    exact ⟨cs, h1, h2⟩
  obtain ⟨fuel, hf⟩ := h
  obtain ⟨xs, m, rfl, hx, hlen, hxl, hel⟩ := DataW.trod_array Tryd.underlying24' hf
  have c5 : Tryd.prog.cellsOf 5 = 1 := by kernel_rfl
  have c25 : Tryd.prog.cellsOf 24 = 32 := by kernel_rfl
  rw [c25] at hsz
  obtain ⟨l, hl, hg⟩ := cells_bytes cs 32 (by omega) (fun i hi => by
    have hi' := hel i hi
    rw [c5, Nat.mul_one] at hi'
    obtain ⟨x, hx'⟩ : ∃ x, xs[i]? = some x := ⟨_, List.getElem?_eq_getElem (by omega)⟩
    rw [hx'] at hi'
    obtain ⟨k, e1, e2, hw⟩ := DataW.trod_int Tryd.underlying5 hi'
    have e3 := congrArg (·[0]?) e1
    simp [Value.cells, List.getElem?_drop] at e3
    obtain ⟨y, rfl⟩ := byte_of hw
    exact ⟨y, e3⟩)
  refine ⟨l, hl, ?_⟩
  congr 1
  apply Array.ext_getElem?
  intro j
  rw [bcells_get?]
  by_cases hj : j < 32
  · exact hg j hj
  · rw [Array.getElem?_eq_none (by omega), List.getElem?_eq_none (by omega)]; rfl
theorem Bs.addr {w : World} {A : Option Addr} {n : Nat} {l : List UInt8} (h : Bs w A n l) (hn : 0 < n) : ∃ b off, A = some ⟨b, off, none⟩ := by
  obtain ⟨b, off, x, e, _⟩ := h.get hn; exact ⟨b, off, e⟩
theorem Own.below {w w' : World} {base : Nat} {e : TypeId} {v : Value} {n : Nat} {l : List UInt8} (h : Own w base e v n l) (hb : Below w.heap.size w w') : Own w' base e v n l := by
  refine ⟨h.1, ?_⟩
  rcases h.2 with hn | ⟨g, cap, cur, hv, hbg, hg, r⟩
  · exact .inl hn
  · exact .inr ⟨g, cap, cur, hv, hbg, (hb.block g (Array.getElem?_eq_some_iff.1 hg).1).trans hg, r⟩
/-- as bytes, one behind the other -/
def flat (L : List (List UInt8)) : List UInt8 := L.flatten
/-- each has 32 bytes -/
def Digs (L : List (List UInt8)) : Prop := ∀ d ∈ L, d.length = 32
theorem Digs.nil : Digs [] := fun d h => by simp at h
theorem Digs.app {L M : List (List UInt8)} (h : Digs L) (k : Digs M) : Digs (L ++ M) := fun d hd => by
  rcases List.mem_append.1 hd with q | q
  · exact h d q
  · exact k d q
theorem Digs.two {a b : List UInt8} (h : a.length = 32) (k : b.length = 32) : Digs [a, b] := fun d hd => by
  simp at hd
  rcases hd with rfl | rfl
  · exact h
  · exact k
theorem Digs.take {L : List (List UInt8)} (h : Digs L) (n : Nat) : Digs (L.take n) := fun d hd => h d (List.mem_of_mem_take hd)
theorem Digs.get {L : List (List UInt8)} (h : Digs L) {k : Nat} {d : List UInt8} (hd : L[k]? = some d) : d.length = 32 := h d (List.mem_of_getElem? hd)
theorem flat_app (L M : List (List UInt8)) : flat (L ++ M) = flat L ++ flat M := List.flatten_append
theorem flat_length : ∀ {L : List (List UInt8)}, Digs L → (flat L).length = 32 * L.length
  | [], _ => rfl
  | d :: L, h => by
    have h1 := h d (by simp)
    have h2 := flat_length (L := L) (fun x hx => h x (by simp [hx]))
    show (d ++ flat L).length = _
    rw [List.length_append, h1, h2, List.length_cons]; omega
theorem flat_drop : ∀ {L : List (List UInt8)}, Digs L → ∀ k, (flat L).drop (32 * k) = flat (L.drop k)
  | _, _, 0 => by simp
  | [], _, k + 1 => by simp [flat]
  | d :: L, h, k + 1 => by
    have h1 := h d (by simp)
    have h2 := flat_drop (L := L) (fun x hx => h x (by simp [hx])) k
    show (d ++ flat L).drop _ = _
    rw [List.drop_append, List.drop_eq_nil_of_le (by omega), h1, List.nil_append, show 32 * (k + 1) - 32 = 32 * k by omega, h2, List.drop_succ_cons]
theorem flat_get {L : List (List UInt8)} (h : Digs L) {k : Nat} {d : List UInt8} (hd : L[k]? = some d) : ((flat L).drop (32 * k)).take 32 = d := by
  obtain ⟨hk, rfl⟩ := List.getElem?_eq_some_iff.1 hd
  rw [flat_drop h, List.drop_eq_getElem_cons hk]
  show ((L[k] ++ flat (L.drop (k + 1))).take 32) = _
  have := h.get hd
  rw [List.take_append_of_le_length (by omega), List.take_of_length_le (by omega)]
theorem flat_take {L : List (List UInt8)} {k : Nat} {d : List UInt8} (hd : L[k]? = some d) : flat (L.take (k + 1)) = flat (L.take k) ++ d := by
  rw [List.take_add_one, hd, flat_app]
  simp [flat]
theorem flat_inj : ∀ {L M : List (List UInt8)}, Digs L → Digs M → flat L = flat M → L = M
  | [], [], _, _, _ => rfl
  | [], d :: M, _, k, h => by
    have := congrArg List.length h
    rw [flat_length k, show flat [] = [] from rfl] at this
    simp at this
  | d :: L, [], k, _, h => by
    have := congrArg List.length h
    rw [flat_length k, show flat [] = [] from rfl] at this
    simp at this
  | d :: L, e :: M, h1, h2, h => by
    have e1 : d ++ flat L = e ++ flat M := h
    have q := List.append_inj e1 ((h1 d (by simp)).trans (h2 e (by simp)).symm)
    rw [q.1, flat_inj (fun x hx => h1 x (by simp [hx])) (fun x hx => h2 x (by simp [hx])) q.2]
theorem spl_bcells (X : List UInt8) (off : Nat) (l : List UInt8) : spl (bcells X) off l = bcells (splice X off l) := by
  unfold spl bcells splice
  simp only [List.map_append, List.map_take, List.map_drop, List.length_map]
section
variable {P : Program}
theorem step_store_row {n : Nat} {ty : TypeId} (T : AggType P ty n) {ops : Array Oper} {op : Oper} {a : Act} {w : World} {K : Act → World → Prop} {Q : Exit → Act → World → Prop} {E : Prop} (hgd : op.guard = none) (x y : Operand) (ho : op.op = .store ty x y)
    (g : Nat) (cells : Array Value) (hx : a.eval x = .pointer (some ⟨g, 0, none⟩)) (hy : a.eval y = .agg cells) (t : TypeId) (old : Array Value) (hr : Row w g t old) (hn : cells.size = n) (hold : old.size = n) (h1 : cells.all (·.oneCell') = true)
    (h : ∀ w', Row w' g t cells → Only g w w' → K (a.put op.dst undef) w') : if Region.wanted op (yielded ops a.tmps) = true then Oper.wp P op a w K Q else E := by
  obtain ⟨d, hu, hd, hi⟩ := T
  have hw : Region.wanted op (yielded ops a.tmps) = true := by simp [Region.wanted, hgd]
  rw [if_pos hw]
  refine wp_store_row ty x y ho g cells hx hy t old hr (by rw [hi, hn]) (by rw [hold, hn]) h1 ?_
  exact h _ (hr.setRow cells) (Only.setRow g w cells)
theorem takeD {md : Region.Mode} {ops : Array Oper} {Q : Exit → Act → World → Prop} {S : World → Prop} {i : Nat} {oi : Oper} (d : Option Nat) (v : Value) {fuel : Nat} {listed : Array Bool} {a : Act} {w : World} (hi : ops[i]? = some oi) (hd : oi.dst = d)
    (hs : Region.noSelect ops = true) (hf : Region.free md ops listed i = true) (hr : (Region.ready md ops listed).contains i = true)
    (hQ : ∀ c a w, Q (.panic c) (a.put d v) w → Q (.panic c) a w) (hy : YieldsIf P ops S oi v a) (hS : S w)
    (h : wpAnyH P md ops Q S fuel (listed.setIfInBounds i true) (a.put d v) w) : wpAnyH P md ops Q S (fuel + 1) listed a w := by
  subst hd; exact wpAnyH_take hi hs hf hr hQ hy hS h
end
theorem range_row {w : World} {g : Nat} {t : TypeId} {l : List UInt8} (h : Row w g t (bcells l)) : w.rangeAt g 0 (l.map bcell) := fun j v hv => by
  rw [Nat.zero_add, h.cell j, bcells_get?, ← List.getElem?_map]; exact hv
end Go.Proofs.YtiidcnjhjojhoaaDoor
