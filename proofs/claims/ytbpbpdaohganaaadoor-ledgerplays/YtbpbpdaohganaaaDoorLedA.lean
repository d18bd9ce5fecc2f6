/-
  Ledgers in memory: what lies in the blocks of a ledger (its object, its slice of digests, its slice of leaves, the leaves), the program's and the document's; what stays of it where other blocks are written; append onto its two slices.
-/
import Derived.Test.YtbpbpdaohganaaaDoorNodeB
namespace Go.Proofs.YtbpbpdaohganaaaDoor
open Go.RowKit
/-- off the blocks F the world w' is as w was -/
structure Off (F : Nat → Prop) (w w' : World) : Prop where
  os : w'.os = w.os
  tape : w'.tape = w.tape
  output : w'.output = w.output
  size : w.heap.size ≤ w'.heap.size
  block : ∀ k, k < w.heap.size → ¬ F k → w'.heap[k]? = w.heap[k]?
theorem Off.of_below {F : Nat → Prop} {w w' : World} (h : Below w.heap.size w w') : Off F w w' := ⟨h.os, h.tape, h.output, h.size, fun k hk _ => h.block k hk⟩
theorem Off.trans {F F' : Nat → Prop} {a b c : World} (h : Off F a b) (k : Off F' b c) (hF : ∀ x, F' x → F x ∨ a.heap.size ≤ x) : Off F a c :=
  ⟨k.os.trans h.os, k.tape.trans h.tape, k.output.trans h.output, Nat.le_trans h.size k.size, fun i hi hg => (k.block i (Nat.lt_of_lt_of_le hi h.size) (fun q => by rcases hF i q with q | q; exact hg q; omega)).trans (h.block i hi hg)⟩
theorem Off.below {F : Nat → Prop} {w w' : World} {B : Nat} (h : Off F w w') (hF : ∀ x, F x → B ≤ x) (hB : B ≤ w.heap.size) : Below B w w' :=
  ⟨h.os, h.tape, h.output, h.size, fun k hk => h.block k (by omega) (fun q => by have := hF k q; omega)⟩
theorem Off.grown {F : Nat → Prop} {w w' : World} {row : Option Nat} (h : w.grownBy w' row) (hF : ∀ b, row = some b → F b) : Off F w w' :=
  ⟨h.os, h.tape, h.output, h.size, fun k hk q => h.block k hk (fun e => q (hF k e.symm))⟩
theorem Off.setCell {F : Nat → Prop} (w : World) (g o : Nat) (u : Value) (hF : F g) : Off F w (w.setCell ⟨g, o, none⟩ u) :=
  ⟨rfl, rfl, rfl, by simp [World.setCell], fun k _ q => Below.heap_setCell _ _ _ _ (fun e => q (by rw [e]; exact hF))⟩
theorem Off.drew {F : Nat → Prop} {a w : World} (h : Off F a w) : Off F a w.drew := ⟨h.os, h.tape, h.output, h.size, h.block⟩
theorem Off.mono {F F' : Nat → Prop} {a w : World} (h : Off F a w) (hF : ∀ x, F x → F' x) : Off F' a w := ⟨h.os, h.tape, h.output, h.size, fun k hk q => h.block k hk (fun e => q (hF k e))⟩
theorem Bs.off {F : Nat → Prop} {w w' : World} {A : Option Addr} {n : Nat} {l : List UInt8} (h : Bs w A n l) (hF : ∀ b off, A = some ⟨b, off, none⟩ → ¬ F b) (ho : Off F w w') : Bs w' A n l :=
  ⟨h.1, fun k x hx => by
    obtain ⟨b, off, e, hb, hc⟩ := h.2 k x hx
    exact ⟨b, off, e, Nat.lt_of_lt_of_le hb ho.size, (World.cell?_of_block (a := ⟨b, off + k, none⟩) (ho.block b hb (hF b off e))).trans hc⟩⟩
/-- what the call owns lies in blocks of its type -/
theorem ownsRow_block {w : World} {base : Nat} {e : TypeId} {size : Nat} {v : Value} {n : Nat} {xs : List Value} (h : w.ownsRow base e size v n xs) {b : Nat} (hb : v.ownBlock = some b) : base ≤ b ∧ ∃ cs, w.heap[b]? = some (.cells cs e (0, 0)) := by
  rcases h.2 with ⟨rfl, _⟩ | ⟨g, cap, cur, rfl, hg, hr, _⟩
  · simp [Value.ownBlock] at hb
  · simp [Value.ownBlock] at hb
    subst hb
    exact ⟨hg, cur, hr⟩
theorem ownsRow_keep {w w' : World} {base : Nat} {e : TypeId} {size : Nat} {v : Value} {n : Nat} {xs : List Value} (h : w.ownsRow base e size v n xs) (hk : ∀ b cs, v.ownBlock = some b → w.heap[b]? = some (.cells cs e (0, 0)) → w'.heap[b]? = some (.cells cs e (0, 0))) : w'.ownsRow base e size v n xs := by
  refine ⟨h.1, ?_⟩
  rcases h.2 with h0 | ⟨g, cap, cur, hv, hg, hr, hrest⟩
  · exact .inl h0
  · exact .inr ⟨g, cap, cur, hv, hg, hk g cur (by rw [hv]; rfl) hr, hrest⟩
theorem ownsRow_base {w : World} {base base' : Nat} {e : TypeId} {size : Nat} {v : Value} {n : Nat} {xs : List Value} (h : w.ownsRow base e size v n xs) (hb : base' ≤ base) : w.ownsRow base' e size v n xs := by
  refine ⟨h.1, ?_⟩
  rcases h.2 with h0 | ⟨g, cap, cur, hv, hg, hr⟩
  · exact .inl h0
  · exact .inr ⟨g, cap, cur, hv, Nat.le_trans hb hg, hr⟩
/-- a slice of digests in the blocks F -/
def Dgst (w : World) (F : Nat → Prop) (v : Value) (n : Nat) (D : List (List UInt8)) : Prop := OwnD w 0 v n D ∧ ∀ b, v.ownBlock = some b → F b
/-- a slice of texts in the blocks F, each text in them -/
def Texts (w : World) (F : Nat → Prop) (v : Value) (n : Nat) (L : List (List UInt8)) : Prop :=
  ∃ vs, w.ownsRow 0 31 1 v n vs ∧ (∀ b, v.ownBlock = some b → F b) ∧ vs.length = L.length ∧ ∀ (k : Nat) (x : Value) (l : List UInt8), vs[k]? = some x → L[k]? = some l → Own w 0 5 x l.length l ∧ ∀ b, x.ownBlock = some b → F b
theorem Dgst.nil (w : World) (F : Nat → Prop) : Dgst w F (.slice none 0 0) 0 [] := ⟨OwnD.nil _ _, fun b h => by simp [Value.ownBlock] at h⟩
theorem Texts.nil (w : World) (F : Nat → Prop) : Texts w F (.slice none 0 0) 0 [] := ⟨[], World.ownsRow_nil _ _ _ _, fun b h => by simp [Value.ownBlock] at h, rfl, fun k x l h => by simp at h⟩
theorem Dgst.mono {w : World} {F F' : Nat → Prop} {v : Value} {n : Nat} {D : List (List UInt8)} (h : Dgst w F v n D) (hF : ∀ b, F b → F' b) : Dgst w F' v n D := ⟨h.1, fun b hb => hF b (h.2 b hb)⟩
theorem Texts.mono {w : World} {F F' : Nat → Prop} {v : Value} {n : Nat} {L : List (List UInt8)} (h : Texts w F v n L) (hF : ∀ b, F b → F' b) : Texts w F' v n L := by
  obtain ⟨vs, h1, h2, h3, h4⟩ := h
  exact ⟨vs, h1, fun b hb => hF b (h2 b hb), h3, fun k x l hx hl => ⟨(h4 k x l hx hl).1, fun b hb => hF b ((h4 k x l hx hl).2 b hb)⟩⟩
theorem Dgst.keep {w w' : World} {F : Nat → Prop} {v : Value} {n : Nat} {D : List (List UInt8)} (h : Dgst w F v n D) (hk : ∀ b cs, F b → w.heap[b]? = some (.cells cs 46 (0, 0)) → w'.heap[b]? = some (.cells cs 46 (0, 0))) : Dgst w' F v n D :=
  ⟨⟨h.1.1, ownsRow_keep h.1.2 fun b cs hb => hk b cs (h.2 b hb)⟩, h.2⟩
theorem Texts.keep {w w' : World} {F : Nat → Prop} {v : Value} {n : Nat} {L : List (List UInt8)} (h : Texts w F v n L) (hk : ∀ b cs e, F b → (e = 31 ∨ e = 5) → w.heap[b]? = some (.cells cs e (0, 0)) → w'.heap[b]? = some (.cells cs e (0, 0))) : Texts w' F v n L := by
  obtain ⟨vs, h1, h2, h3, h4⟩ := h
  refine ⟨vs, ownsRow_keep h1 fun b cs hb => hk b cs 31 (h2 b hb) (.inl rfl), h2, h3, fun k x l hx hl => ?_⟩
  obtain ⟨q1, q2⟩ := h4 k x l hx hl
  exact ⟨ownsRow_keep q1 fun b cs hb => hk b cs 5 (q2 b hb) (.inr rfl), q2⟩
theorem Dgst.same {w w' : World} {F : Nat → Prop} {v : Value} {n : Nat} {D : List (List UInt8)} (h : Dgst w F v n D) (hk : ∀ b, F b → w'.heap[b]? = w.heap[b]?) : Dgst w' F v n D := h.keep fun b _ hb hr => (hk b hb).trans hr
theorem Texts.same {w w' : World} {F : Nat → Prop} {v : Value} {n : Nat} {L : List (List UInt8)} (h : Texts w F v n L) (hk : ∀ b, F b → w'.heap[b]? = w.heap[b]?) : Texts w' F v n L := h.keep fun b _ _ hb _ hr => (hk b hb).trans hr
theorem Texts.length {w : World} {F : Nat → Prop} {v : Value} {n : Nat} {L : List (List UInt8)} (h : Texts w F v n L) : L.length = n := by
  obtain ⟨vs, h1, _, h3, _⟩ := h
  have := h1.1
  omega
theorem Texts.form {w : World} {F : Nat → Prop} {v : Value} {n : Nat} {L : List (List UInt8)} (h : Texts w F v n L) : ∃ A c, v = .slice A n c ∧ n ≤ c := by
  obtain ⟨vs, h1, _⟩ := h
  rcases h1.2 with ⟨hv, hn⟩ | ⟨g, cap, cur, hv, _, hg, hnc, _, hcs, ht⟩
  · exact ⟨none, 0, by rw [hv, hn], by omega⟩
  · exact ⟨_, _, hv, hnc⟩
/-- the k-th text of a slice of texts -/
theorem Texts.get {w : World} {F : Nat → Prop} {A : Option Addr} {n c k : Nat} {L : List (List UInt8)} (h : Texts w F (.slice A n c) n L) (hk : k < n) :
    ∃ b A' c' l, A = some ⟨b, 0, none⟩ ∧ b < w.heap.size ∧ F b ∧ L[k]? = some l ∧ w.cell? ⟨b, k, none⟩ = some (.slice A' l.length c') ∧ l.length ≤ c' ∧ Bs w A' l.length l := by
  have hlen := h.length
  obtain ⟨vs, h1, h2, h3, h4⟩ := h
  have hkv : k < vs.length := by omega
  have hkL : k < L.length := by omega
  obtain ⟨ho, hF⟩ := h4 k vs[k] L[k] (List.getElem?_eq_getElem hkv) (List.getElem?_eq_getElem hkL)
  rcases h1.2 with ⟨hv, hn⟩ | ⟨g, cap, cur, hv, _, hg, hnc, _, hcs, ht⟩
  · omega
  · injection hv with q1 q2 q3
    subst q1 q3
    obtain ⟨A', c', hv', hc'⟩ := ho.form
    refine ⟨g, A', c', L[k], rfl, (Array.getElem?_eq_some_iff.1 hg).1, h2 g rfl, List.getElem?_eq_getElem hkL, ?_, hc', ?_⟩
    · rw [cell_of_row w g k cur 31 (0, 0) hg, ← hv', ← List.getElem?_eq_getElem hkv, ← ht, List.getElem?_take, if_pos (by omega)]; simp
    · rw [hv'] at ho; exact ho.bs
/-- append(leaves, text) -/
theorem run_appTF (ty : TypeId) (w : World) (F : Nat → Prop) (v : Value) (n : Nat) (L : List (List UInt8)) (h : Texts w F v n L) (tv : Value) (l : List UInt8) (ht : Own w 0 5 tv l.length l) (hft : ∀ b, tv.ownBlock = some b → F b)
    (b off c : Nat) (hcell : w.cell? ⟨b, off, none⟩ = some tv) (hn : n + 1 ≤ 1000000) :
    ∃ A' c' w', (Builtin.append_ #[27, 27] ty #[v, .slice (some ⟨b, off, none⟩) 1 c]).run Tryd.prog w = .ok (.slice A' (n + 1) c') w' ∧ (∀ F' : Nat → Prop, (∀ b, F b → F' b) → F' w.heap.size → Texts w' F' (.slice A' (n + 1) c') (n + 1) (L ++ [l])) ∧ w.grownBy w' v.ownBlock := by
  obtain ⟨vs, h1, h2, h3, h4⟩ := h
  obtain ⟨i, hi, hz, hsize, hby⟩ := info_parts (show (Tryd.prog.info? 31).map (fun i => (i.zero, i.size, i.bytes)) = some (some (.slice none 0 0), 1, 24) by kernel_rfl)
  obtain ⟨A0, c0, rfl, _⟩ := ht.form
  obtain ⟨v', w', hrun, g1, g2, _, g5⟩ := run_append_own_at (P := Tryd.prog) w 0 27 ty 31 i (.slice none 0 0) 1 24 Tryd.underlying27 hi hz hsize hby rfl (by omega) v n _ h1 ⟨b, off, none⟩ 1 c [.slice A0 l.length c0] rfl
    (fun j u hu => by
      rcases j with _ | j
      · simp at hu; subst hu; rw [Addr.add_mid, Nat.add_zero]; exact hcell
      · simp at hu)
    (fun u hu => by simp at hu; subst hu; rfl) (by simp only [maxLen]; omega) (by omega) (Nat.zero_le _)
  have hk : ∀ x l, Own w 0 5 x l.length l → Own w' 0 5 x l.length l := fun x l ho => ownsRow_keep ho fun b cs hb hr => by
    rw [g2.block b (Array.getElem?_eq_some_iff.1 hr).1 ?_]; exact hr
    intro e
    obtain ⟨_, cs', hr'⟩ := ownsRow_block h1 e.symm
    rw [hr] at hr'
    injection hr' with q
    injection q with _ q
    exact absurd q (by decide)
  have hO : ∀ F' : Nat → Prop, (∀ b, F b → F' b) → F' w.heap.size → Texts w' F' v' (n + 1) (L ++ [l]) := fun F' hF hnew => by
    refine ⟨_, g1, fun b hb => ?_, by simp [h3], fun k x y hx hy => ?_⟩
    · rcases g5 with q | q
      · exact hF b (h2 b (by rw [← q]; exact hb))
      · rw [q] at hb; injection hb with hb; rw [← hb]; exact hnew
    · rcases Nat.lt_or_ge k vs.length with hlt | hge
      · rw [List.getElem?_append_left hlt] at hx
        rw [List.getElem?_append_left (by omega)] at hy
        obtain ⟨q1, q2⟩ := h4 k x y hx hy
        exact ⟨hk x y q1, fun b hb => hF b (q2 b hb)⟩
      · rw [List.getElem?_append_right hge] at hx
        rw [List.getElem?_append_right (by omega)] at hy
        obtain ⟨j, hj⟩ : ∃ j, k - vs.length = j := ⟨_, rfl⟩
        rw [hj] at hx
        rw [show k - L.length = j by omega] at hy
        rcases j with _ | j
        · simp at hx hy; subst hx hy; exact ⟨hk _ _ ht, fun b hb => hF b (hft b hb)⟩
        · simp at hx
  obtain ⟨A', c', rfl, _⟩ := (hO (fun _ => True) (fun _ _ => trivial) trivial).form
  exact ⟨A', c', w', hrun, hO, g2⟩
/-- append(digests, d) -/
theorem run_appDF (ty : TypeId) (w : World) (F : Nat → Prop) (v : Value) (n : Nat) (D : List (List UInt8)) (h : Dgst w F v n D) (d : List UInt8) (hd : d.length = 32)
    (b off c : Nat) (hr : w.rangeAt b off (d.map bcell)) (hn : n + 1 ≤ 1000000) :
    ∃ A' c' w', (Builtin.append_ #[28, 28] ty #[v, .slice (some ⟨b, off, none⟩) 1 c]).run Tryd.prog w = .ok (.slice A' (n + 1) c') w' ∧ (∀ F' : Nat → Prop, (∀ b, F b → F' b) → F' w.heap.size → Dgst w' F' (.slice A' (n + 1) c') (n + 1) (D ++ [d])) ∧ w.grownBy w' v.ownBlock := by
  obtain ⟨i, hi, hz, hsize, hby⟩ := info_parts Tryd.infoD
  obtain ⟨v', w', hrun, h2, h3, _, h5⟩ := run_append_own_at (P := Tryd.prog) w 0 28 ty 46 i (.agg (bcells zero32)) 32 32 Tryd.under24 hi hz hsize hby rfl (by omega) v n _ h.1.2 ⟨b, off, none⟩ 1 c (d.map bcell) (by rw [List.length_map, hd])
    (fun j u hu => by rw [Addr.add_mid]; exact hr j u hu)
    (by intro u hu; simp only [List.mem_map] at hu; obtain ⟨y, _, rfl⟩ := hu; rfl) (by simp only [maxLen]; omega) (by omega) (Nat.zero_le _)
  have h2' : OwnD w' 0 v' (n + 1) (D ++ [d]) := ⟨h.1.1.app (Digs.one hd), by rw [flat_app, List.map_append, show flat [d] = d by simp [flat]]; exact h2⟩
  obtain ⟨A', c', rfl, _⟩ := h2'.form
  refine ⟨A', c', w', hrun, fun F' hF hnew => ⟨h2', fun b hb => ?_⟩, h3⟩
  rcases h5 with q | q
  · exact hF b (h.2 b (by rw [← q]; exact hb))
  · rw [q] at hb; injection hb with hb; rw [← hb]; exact hnew
/-- the program's ledger at block g holds the leaves L; all of it lies in the blocks F -/
def Led (w : World) (g : Nat) (F : Nat → Prop) (n : Nat) (L : List (List UInt8)) : Prop :=
  F g ∧ (∀ b, F b → b < w.heap.size) ∧ ∃ Ad cd Al cl, Row w g 74 #[.slice Ad n cd, .slice Al n cl] ∧ Dgst w F (.slice Ad n cd) n (L.map leafL) ∧ Texts w F (.slice Al n cl) n L
/-- the document's ledger -/
def LedM (w : World) (g : Nat) (F : Nat → Prop) (n : Nat) (L : List (List UInt8)) : Prop :=
  F g ∧ (∀ b, F b → b < w.heap.size) ∧ ∃ Ad cd Al cl, Row w g 30 #[.slice Al n cl, .slice Ad n cd] ∧ Dgst w F (.slice Ad n cd) n (L.map leafL) ∧ Texts w F (.slice Al n cl) n L
theorem Led.same {w w' : World} {g n : Nat} {F : Nat → Prop} {L : List (List UInt8)} (h : Led w g F n L) (hk : ∀ b, F b → w'.heap[b]? = w.heap[b]?) (hs : w.heap.size ≤ w'.heap.size) : Led w' g F n L := by
  obtain ⟨h1, h2, Ad, cd, Al, cl, h3, h4, h5⟩ := h
  exact ⟨h1, fun b hb => Nat.lt_of_lt_of_le (h2 b hb) hs, Ad, cd, Al, cl, (hk g h1).trans h3, h4.same hk, h5.same hk⟩
theorem LedM.same {w w' : World} {g n : Nat} {F : Nat → Prop} {L : List (List UInt8)} (h : LedM w g F n L) (hk : ∀ b, F b → w'.heap[b]? = w.heap[b]?) (hs : w.heap.size ≤ w'.heap.size) : LedM w' g F n L := by
  obtain ⟨h1, h2, Ad, cd, Al, cl, h3, h4, h5⟩ := h
  exact ⟨h1, fun b hb => Nat.lt_of_lt_of_le (h2 b hb) hs, Ad, cd, Al, cl, (hk g h1).trans h3, h4.same hk, h5.same hk⟩
theorem Led.below {w w' : World} {g n : Nat} {F : Nat → Prop} {L : List (List UInt8)} (h : Led w g F n L) (hb : Below w.heap.size w w') : Led w' g F n L := h.same (fun b hF => hb.block b (h.2.1 b hF)) hb.size
theorem LedM.below {w w' : World} {g n : Nat} {F : Nat → Prop} {L : List (List UInt8)} (h : LedM w g F n L) (hb : Below w.heap.size w w') : LedM w' g F n L := h.same (fun b hF => hb.block b (h.2.1 b hF)) hb.size
theorem Led.off {w w' : World} {g n : Nat} {F F2 : Nat → Prop} {L : List (List UInt8)} (h : Led w g F n L) (ho : Off F2 w w') (hF : ∀ b, F b → ¬ F2 b) : Led w' g F n L := h.same (fun b hb => ho.block b (h.2.1 b hb) (hF b hb)) ho.size
theorem LedM.off {w w' : World} {g n : Nat} {F F2 : Nat → Prop} {L : List (List UInt8)} (h : LedM w g F n L) (ho : Off F2 w w') (hF : ∀ b, F b → ¬ F2 b) : LedM w' g F n L := h.same (fun b hb => ho.block b (h.2.1 b hb) (hF b hb)) ho.size
theorem Led.length {w : World} {g n : Nat} {F : Nat → Prop} {L : List (List UInt8)} (h : Led w g F n L) : L.length = n := by
  obtain ⟨_, _, Ad, cd, Al, cl, _, _, h5⟩ := h
  exact h5.length
theorem LedM.length {w : World} {g n : Nat} {F : Nat → Prop} {L : List (List UInt8)} (h : LedM w g F n L) : L.length = n := by
  obtain ⟨_, _, Ad, cd, Al, cl, _, _, h5⟩ := h
  exact h5.length
set_option maxRecDepth 100000 in
/-- one cell, loaded; stored -/
theorem wp_loadC {o : Oper} {a : Act} {w : World} {K : Act → World → Prop} {Q : Exit → Act → World → Prop} (ty : TypeId) (x : Operand) (ho : o.op = .load ty x) (hty : ty = 27 ∨ ty = 28) (g k : Nat) (v : Value)
    (hx : a.eval x = .pointer (some ⟨g, k, none⟩)) (hc : w.cell? ⟨g, k, none⟩ = some v) (h : K (a.put o.dst v) w) : o.wp Tryd.prog a w K Q := by
  unfold Oper.wp execOp
  simp only [ho, hx]
  rcases hty with rfl | rfl <;> (go_simp; exact h)
set_option maxRecDepth 100000 in
theorem wp_storeC {o : Oper} {a : Act} {w : World} {K : Act → World → Prop} {Q : Exit → Act → World → Prop} (ty : TypeId) (x y : Operand) (ho : o.op = .store ty x y) (hty : ty = 27 ∨ ty = 28) (g k : Nat) (A : Option Addr) (n c : Nat) (T : TypeId) (cs : Array Value)
    (hx : a.eval x = .pointer (some ⟨g, k, none⟩)) (hy : a.eval y = .slice A n c) (hr : Row w g T cs) (hk : k < cs.size) (h : K (a.put o.dst undef) (w.setCell ⟨g, k, none⟩ (.slice A n c))) : o.wp Tryd.prog a w K Q := by
  have hc : w.cell? ⟨g, k, none⟩ = some cs[k] := by rw [hr.cell k]; exact Array.getElem?_eq_getElem hk
  have hf := hr.frozen k
  unfold Oper.wp execOp
  simp only [ho, hx, hy]
  rcases hty with rfl | rfl <;> (go_simp; exact h)
theorem wp_appTF {o : Oper} {a : Act} {w : World} {K : Act → World → Prop} {Q : Exit → Act → World → Prop} (s x : Operand) (ho : o.op = .call { callee := .builtin .append, args := #[s, x], argTypes := #[27, 27] })
    (F : Nat → Prop) (v : Value) (n : Nat) (L : List (List UInt8)) (hs : a.eval s = v) (hown : Texts w F v n L) (tv : Value) (l : List UInt8) (ht : Own w 0 5 tv l.length l) (hft : ∀ b, tv.ownBlock = some b → F b)
    (b off c : Nat) (hx : a.eval x = .slice (some ⟨b, off, none⟩) 1 c) (hcell : w.cell? ⟨b, off, none⟩ = some tv) (hn : n + 1 ≤ 1000000)
    (h : ∀ A' c' w', (∀ F' : Nat → Prop, (∀ b, F b → F' b) → F' w.heap.size → Texts w' F' (.slice A' (n + 1) c') (n + 1) (L ++ [l])) → w.grownBy w' v.ownBlock → K (a.put o.dst (.slice A' (n + 1) c')) w') : o.wp Tryd.prog a w K Q := by
  obtain ⟨A', c', w', hrun, h2, h3⟩ := run_appTF o.type w F v n L hown tv l ht hft b off c hcell hn
  unfold Oper.wp execOp
  simp only [ho, resolve, invoke, builtin, Sem.run_bind, Sem.run_pure, Result.andThen_ok, List.map_toArray, List.map_cons, List.map_nil, hs, hx, hrun]
  exact h A' c' w' h2 h3
theorem wp_appDF {o : Oper} {a : Act} {w : World} {K : Act → World → Prop} {Q : Exit → Act → World → Prop} (s x : Operand) (ho : o.op = .call { callee := .builtin .append, args := #[s, x], argTypes := #[28, 28] })
    (F : Nat → Prop) (v : Value) (n : Nat) (D : List (List UInt8)) (hs : a.eval s = v) (hown : Dgst w F v n D) (d : List UInt8) (hd : d.length = 32)
    (b off c : Nat) (hx : a.eval x = .slice (some ⟨b, off, none⟩) 1 c) (hr : w.rangeAt b off (d.map bcell)) (hn : n + 1 ≤ 1000000)
    (h : ∀ A' c' w', (∀ F' : Nat → Prop, (∀ b, F b → F' b) → F' w.heap.size → Dgst w' F' (.slice A' (n + 1) c') (n + 1) (D ++ [d])) → w.grownBy w' v.ownBlock → K (a.put o.dst (.slice A' (n + 1) c')) w') : o.wp Tryd.prog a w K Q := by
  obtain ⟨A', c', w', hrun, h2, h3⟩ := run_appDF o.type w F v n D hown d hd b off c hr hn
  unfold Oper.wp execOp
  simp only [ho, resolve, invoke, builtin, Sem.run_bind, Sem.run_pure, Result.andThen_ok, List.map_toArray, List.map_cons, List.map_nil, hs, hx, hrun]
  exact h A' c' w' h2 h3
/-- a literal slice of one text, of one digest -/
theorem run_buildT (A : Option Addr) (n c : Nat) (w : World) : (Instr.buildSlice 27 1 #[(0, .slice A n c)]).run Tryd.prog w = .ok (.slice (some ⟨w.heap.size, 0, none⟩) 1 1) (w.alloc (.cells #[.slice A n c] 31)) := by
  obtain ⟨i, hi, hz, hsize, hby⟩ := info_parts (show (Tryd.prog.info? 31).map (fun i => (i.zero, i.size, i.bytes)) = some (some (.slice none 0 0), 1, 24) by kernel_rfl)
  refine run_buildSlice w 27 31 1 _ _ i _ Tryd.underlying27 hi hz (by rw [hsize]; decide) (by rw [hsize]; decide) ?_
  rw [hsize]
  have hf := Great.fill_whole (s := 1) (by omega) [.slice A n c] ((Array.range (1 * 1)).map ((Value.slice none 0 0).cells[· % (Value.slice none 0 0).cells.size]!))
    (fun v hv => by simp at hv; rw [hv]; rfl) (by simp)
  exact hf
theorem wp_buildT {o : Oper} {a : Act} {w : World} {K : Act → World → Prop} {Q : Exit → Act → World → Prop} (x : Operand) (ho : o.op = .buildSlice 27 1 #[(0, x)]) (A : Option Addr) (n c : Nat)
    (hx : a.eval x = .slice A n c) (h : K (a.put o.dst (.slice (some ⟨w.heap.size, 0, none⟩) 1 1)) (w.alloc (.cells #[.slice A n c] 31))) : o.wp Tryd.prog a w K Q := by
  unfold Oper.wp execOp
  simp only [ho, List.map_toArray, List.map_cons, List.map_nil, hx, Sem.run_bind, run_buildT A n c, Result.andThen_ok]
  exact h
theorem wp_buildD1 {o : Oper} {a : Act} {w : World} {K : Act → World → Prop} {Q : Exit → Act → World → Prop} (x : Operand) (ho : o.op = .buildSlice 28 1 #[(0, x)]) (d : List UInt8) (hd : d.length = 32)
    (hx : a.eval x = .agg (bcells d)) (h : K (a.put o.dst (.slice (some ⟨w.heap.size, 0, none⟩) 1 1)) (w.alloc (.cells (bcells d) 46))) : o.wp Tryd.prog a w K Q := by
  unfold Oper.wp execOp
  simp only [ho, List.map_toArray, List.map_cons, List.map_nil, hx, Sem.run_bind, run_build1 d hd, Result.andThen_ok]
  exact h
end Go.Proofs.YtbpbpdaohganaaaDoor
