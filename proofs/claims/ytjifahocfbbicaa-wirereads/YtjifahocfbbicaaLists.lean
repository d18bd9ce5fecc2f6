/-
  Lists of texts in memory: a slice of slices that reads as texts; one of the call's own, and append of a text onto it. What wire.List, juratref04.List, juratref04.Same and the laws' copies and long answer.
-/
import Derived.Test.YtjifahocfbbicaaNums
namespace Go.Proofs.Ytjifahocfbbicaa
open Go.RowKit
/-- the slice of slices at A holds the texts L -/
def Bss (w : World) (A : Option Addr) (n : Nat) (L : List (List UInt8)) : Prop :=
  L.length = n ∧ ∀ k l, L[k]? = some l → ∃ b off A' c', A = some ⟨b, off, none⟩ ∧ b < w.heap.size ∧ w.cell? ⟨b, off + k, none⟩ = some (.slice A' l.length c') ∧ l.length ≤ c' ∧ Bs w A' l.length l
theorem Bss.nil (w : World) (A : Option Addr) : Bss w A 0 [] := ⟨rfl, fun k l h => by simp at h⟩
theorem Bss.get {w : World} {A : Option Addr} {n k : Nat} {L : List (List UInt8)} (h : Bss w A n L) (hk : k < n) :
    ∃ b off A' c' l, A = some ⟨b, off, none⟩ ∧ b < w.heap.size ∧ L[k]? = some l ∧ w.cell? ⟨b, off + k, none⟩ = some (.slice A' l.length c') ∧ l.length ≤ c' ∧ Bs w A' l.length l := by
  have hl : k < L.length := by rw [h.1]; exact hk
  obtain ⟨b, off, A', c', e, hb, hc, hn, hB⟩ := h.2 k L[k] (List.getElem?_eq_getElem hl)
  exact ⟨b, off, A', c', L[k], e, hb, List.getElem?_eq_getElem hl, hc, hn, hB⟩
theorem Bss.below {w w' : World} {A : Option Addr} {n : Nat} {L : List (List UInt8)} (h : Bss w A n L) (hb : Below w.heap.size w w') : Bss w' A n L :=
  ⟨h.1, fun k l hl => by
    obtain ⟨b, off, A', c', e, hlt, hc, hn, hB⟩ := h.2 k l hl
    exact ⟨b, off, A', c', e, Nat.lt_of_lt_of_le hlt hb.size, (hb.cell (p := ⟨b, off + k, none⟩) hlt).trans hc, hn, hB.below hb⟩⟩
theorem Bss.drewN {w : World} {A : Option Addr} {n : Nat} {L : List (List UInt8)} (h : Bss w A n L) (k : Nat) : Bss (w.drewN k) A n L := h
theorem ownsRow.belowS {w w' : World} {base size : Nat} {e : TypeId} {v : Value} {n : Nat} {xs : List Value} (h : w.ownsRow base e size v n xs) (hb : Below w.heap.size w w') : w'.ownsRow base e size v n xs := by
  refine ⟨h.1, ?_⟩
  rcases h.2 with h0 | ⟨g, cap, cur, hv, hge, hg, hr⟩
  · exact .inl h0
  · exact .inr ⟨g, cap, cur, hv, hge, (hb.block g (Array.getElem?_eq_some_iff.1 hg).1).trans hg, hr⟩
theorem Own.belowS {w w' : World} {base : Nat} {e : TypeId} {v : Value} {n : Nat} {l : List UInt8} (h : Own w base e v n l) (hb : Below w.heap.size w w') : Own w' base e v n l := ownsRow.belowS h hb
/-- a list of texts, all of the call's own -/
def OwnL (w : World) (base : Nat) (v : Value) (n : Nat) (L : List (List UInt8)) : Prop :=
  ∃ vs, w.ownsRow base 27 1 v n vs ∧ vs.length = L.length ∧ ∀ (k : Nat) (x : Value) (l : List UInt8), vs[k]? = some x → L[k]? = some l → Own w base 5 x l.length l
theorem OwnL.nil (w : World) (base : Nat) : OwnL w base (.slice none 0 0) 0 [] := ⟨[], World.ownsRow_nil w base 27 1, rfl, fun k x l h => by simp at h⟩
theorem OwnL.length {w : World} {base : Nat} {v : Value} {n : Nat} {L : List (List UInt8)} (h : OwnL w base v n L) : L.length = n := by
  obtain ⟨vs, h1, h2, _⟩ := h
  have := h1.1
  omega
theorem OwnL.form {w : World} {base : Nat} {v : Value} {n : Nat} {L : List (List UInt8)} (h : OwnL w base v n L) : ∃ A c, v = .slice A n c ∧ n ≤ c := by
  obtain ⟨vs, h1, _⟩ := h
  rcases h1.2 with ⟨hv, hn⟩ | ⟨g, cap, cur, hv, _, hg, hnc, _, hcs, ht⟩
  · exact ⟨none, 0, by rw [hv, hn], by omega⟩
  · exact ⟨_, _, hv, hnc⟩
theorem OwnL.below {w w' : World} {base : Nat} {v : Value} {n : Nat} {L : List (List UInt8)} (h : OwnL w base v n L) (hb : Below w.heap.size w w') : OwnL w' base v n L := by
  obtain ⟨vs, h1, h2, h3⟩ := h
  exact ⟨vs, ownsRow.belowS h1 hb, h2, fun k x l hx hl => (h3 k x l hx hl).belowS hb⟩
theorem OwnL.mono {w : World} {base base' : Nat} {v : Value} {n : Nat} {L : List (List UInt8)} (h : OwnL w base v n L) (hb : base' ≤ base) : OwnL w base' v n L := by
  obtain ⟨vs, h1, h2, h3⟩ := h
  refine ⟨vs, ⟨h1.1, ?_⟩, h2, fun k x l hx hl => (h3 k x l hx hl).mono hb⟩
  rcases h1.2 with h0 | ⟨g, cap, cur, hv, hge, hr⟩
  · exact .inl h0
  · exact .inr ⟨g, cap, cur, hv, Nat.le_trans hb hge, hr⟩
theorem OwnL.bss {w : World} {base : Nat} {A : Option Addr} {n c : Nat} {L : List (List UInt8)} (h : OwnL w base (.slice A n c) n L) : Bss w A n L := by
  have hlen := h.length
  obtain ⟨vs, h1, h2, h3⟩ := h
  refine ⟨hlen, fun k l hl => ?_⟩
  have hk : k < vs.length := by rw [h2]; exact (List.getElem?_eq_some_iff.1 hl).1
  have hx := List.getElem?_eq_getElem hk
  have ho := h3 k _ l hx hl
  rcases h1.2 with ⟨hv, hn⟩ | ⟨g, cap, cur, hv, _, hg, hnc, _, hcs, ht⟩
  · have := (List.getElem?_eq_some_iff.1 hl).1; omega
  · injection hv with q1 q2 q3
    subst q1 q3
    obtain ⟨A', c', hv', hc'⟩ := ho.form
    refine ⟨g, 0, A', c', rfl, (Array.getElem?_eq_some_iff.1 hg).1, ?_, hc', ?_⟩
    · rw [Nat.zero_add, cell_of_row w g k cur 27 (0, 0) hg, ← hv', ← hx, ← ht, List.getElem?_take, if_pos (by omega)]; simp
    · rw [hv'] at ho; exact ho.bs
theorem own_types {w : World} {base base' : Nat} {e e' : TypeId} {size size' : Nat} {u v : Value} {n m : Nat} {xs ys : List Value} (hu : w.ownsRow base e size u n xs) (hv : w.ownsRow base' e' size' v m ys) (hne : e ≠ e') : u.ownBlock = none ∨ u.ownBlock ≠ v.ownBlock := by
  rcases hu.2 with ⟨hu, _⟩ | ⟨g, cap, cur, hu, _, hg, _⟩
  · exact .inl (by rw [hu]; rfl)
  · refine .inr fun h => ?_
    rcases hv.2 with ⟨hv, _⟩ | ⟨g', cap', cur', hv, _, hg', _⟩
    · rw [hu, hv] at h; cases h
    · rw [hu, hv] at h
      simp only [Value.ownBlock, Option.some.injEq] at h
      subst h
      rw [hg] at hg'
      injection hg' with q
      injection q with _ q
      exact hne q
/-- append(list, text) -/
theorem run_appT (ty : TypeId) (w : World) (base : Nat) (v : Value) (n : Nat) (L : List (List UInt8)) (hown : OwnL w base v n L) (tv : Value) (l : List UInt8) (ht : Own w base 5 tv l.length l)
    (b off c : Nat) (hcell : w.cell? ⟨b, off, none⟩ = some tv) (hn : n + 1 ≤ 1000000000000) (hbase : base ≤ w.heap.size) :
    ∃ A' c' w', (Builtin.append_ #[23, 23] ty #[v, .slice (some ⟨b, off, none⟩) 1 c]).run Try.prog w = .ok (.slice A' (n + 1) c') w' ∧ OwnL w' base (.slice A' (n + 1) c') (n + 1) (L ++ [l]) ∧ Below base w w' := by
  obtain ⟨vs, h1, h2, h3⟩ := hown
  obtain ⟨i, hi, hz, hsize, hby⟩ := info_parts (show (Try.prog.info? 27).map (fun i => (i.zero, i.size, i.bytes)) = some (some (.slice none 0 0), 1, 24) by kernel_rfl)
  obtain ⟨A0, c0, rfl, _⟩ := ht.form
  obtain ⟨v', w', hrun, g1, g2, _, _⟩ := run_append_own_at (P := Try.prog) w base 23 ty 27 i (.slice none 0 0) 1 24 Try.underlying23 hi hz hsize hby rfl (by omega) v n _ h1 ⟨b, off, none⟩ 1 c [.slice A0 l.length c0] rfl
    (fun j u hu => by
      rcases j with _ | j
      · simp at hu; subst hu; rw [Addr.add_mid, Nat.add_zero]; exact hcell
      · simp at hu)
    (fun u hu => by simp at hu; subst hu; rfl) (by simp only [maxLen]; omega) (by omega) hbase
  have hk : ∀ x l, Own w base 5 x l.length l → Own w' base 5 x l.length l := fun x l ho => World.ownsRow.kept ho g2 (own_types ho h1 (by decide))
  have hO : OwnL w' base v' (n + 1) (L ++ [l]) := by
    refine ⟨_, g1, by simp [h2], fun k x y hx hy => ?_⟩
    rcases Nat.lt_or_ge k vs.length with hlt | hge
    · rw [List.getElem?_append_left hlt] at hx
      rw [List.getElem?_append_left (by omega)] at hy
      exact hk x y (h3 k x y hx hy)
    · rw [List.getElem?_append_right hge] at hx
      rw [List.getElem?_append_right (by omega)] at hy
      obtain ⟨j, hj⟩ : ∃ j, k - vs.length = j := ⟨_, rfl⟩
      rw [hj] at hx
      rw [show k - L.length = j by omega] at hy
      rcases j with _ | j
      · simp at hx hy; subst hx hy; exact hk _ _ ht
      · simp at hx
  obtain ⟨A', c', rfl, _⟩ := hO.form
  exact ⟨A', c', w', hrun, hO, (Below.refl base w).grown g2 hbase fun k hk => (World.ownsRow.lt h1 k hk).1⟩
theorem wpList_appT {w : World} {ops : Array Oper} {rest : List Oper} {o : Oper} {a : Act} {Q : Exit → Act → World → Prop} (hgd : o.guard = none) (s x : Operand)
    (ho : o.op = .call { callee := .builtin .append, args := #[s, x], argTypes := #[23, 23] })
    (base : Nat) (v : Value) (n : Nat) (L : List (List UInt8)) (hs : a.eval s = v) (hown : OwnL w base v n L) (tv : Value) (l : List UInt8) (ht : Own w base 5 tv l.length l) (hn : n + 1 ≤ 1000000000000) (hbase : base ≤ w.heap.size)
    (hx : a.eval x = .slice (some ⟨w.heap.size, 0, none⟩) 1 1)
    (h : ∀ A' c' w', OwnL w' base (.slice A' (n + 1) c') (n + 1) (L ++ [l]) → Below base w w' → wpList Try.prog ops Q rest (a.put o.dst (.slice A' (n + 1) c')) w') :
    wpList Try.prog ops Q (o :: rest) a (w.alloc (.cells #[tv] 27)) := by
  have hb0 : Below w.heap.size w (w.alloc (.cells #[tv] 27)) := (Below.refl _ _).alloc (Nat.le_refl _) _
  refine wpList_plain hgd fun K hK => ?_
  obtain ⟨A', c', w', hrun, h2, h3⟩ := run_appT o.type _ base v n L (hown.below hb0) tv l (ht.belowS hb0) w.heap.size 0 1 ((Row.new w 27 #[tv]).cell 0) hn (Nat.le_trans hbase hb0.size)
  unfold Oper.wp execOp
  simp only [ho, resolve, invoke, builtin, Sem.run_bind, Sem.run_pure, Result.andThen_ok, List.map_toArray, List.map_cons, List.map_nil, hs, hx, hrun]
  exact hK _ _ (h A' c' w' h2 ((hb0.mono hbase).trans h3))
/-- a list of texts in new memory -/
def NewList (w : World) (L : List (List UInt8)) (e : Ending) (w' : World) : Prop :=
  ∃ A c, e = .returned (.slice A L.length c) ∧ L.length ≤ c ∧ Below w.heap.size w w' ∧ OwnL w' w.heap.size (.slice A L.length c) L.length L
theorem OwnL.newList {w w' : World} {A : Option Addr} {n c : Nat} {L : List (List UInt8)} (h : OwnL w' w.heap.size (.slice A n c) n L) (hb : Below w.heap.size w w') : NewList w L (.returned (.slice A n c)) w' := by
  have hl := h.length
  subst hl
  obtain ⟨A', c', hv, hc⟩ := h.form
  injection hv with h1 h2 h3
  subst h1 h3
  exact ⟨A, c, rfl, hc, hb, h⟩
def longL (L : List (List UInt8)) : Bool := decide (100 < L.length) || L.any fun l => decide (500 < l.length)
theorem longL_no {L : List (List UInt8)} (h : longL L = false) : L.length ≤ 100 ∧ ∀ l ∈ L, l.length ≤ 500 := by
  unfold longL at h
  simp only [Bool.or_eq_false_iff, decide_eq_false_iff_not, List.any_eq_false, decide_eq_true_eq] at h
  exact ⟨by omega, fun l hl => by have := h.2 l hl; omega⟩
set_option maxHeartbeats 400000 in
theorem long_any (A : Option Addr) (n c : Nat) (L : List (List UInt8)) (w : World) (hB : Bss w A n L) :
    Calls Try.prog 10 #[.slice A n c] w fun e w' => e = .returned (.bool (longL L)) ∧ w = w' := by
  have HL := Lib.hid hB.1
  by_cases h100 : 100 < n
  · have HQ := Lib.hid (show longL L = true by unfold longL; rw [HL.out]; simp [h100])
    clear hB
    generalize longL L = q at *
    go_enter Try.func10, Try.ntmps10
    go_wp2
    go_ret
    rw [HQ.out]
    exact ⟨rfl, rfl⟩
  · have HB := Lib.hid hB
    clear hB
    go_enter Try.func10, Try.ntmps10
    go_wp2
    go_loop [3] (fun i => ∃ k : Nat, k ≤ n ∧ i = .int .i64 k ∧ Hid (∀ j l, j < k → L[j]? = some l → l.length ≤ 500)) (fun i => n - (intOf i).toNat)
    case atStart => exact ⟨0, Nat.zero_le _, rfl, Lib.hid (fun j l h => by omega)⟩
    case round =>
      obtain ⟨k, hk, rfl, HK⟩ := hrel
      by_cases hlt : k < n
      · obtain ⟨b, off, A', c', l, rfl, hb, hx, hc, hn, hB'⟩ := HB.out.get hlt
        by_cases h5 : 500 < l.length
        · have HQ := Lib.hid (show longL L = true by
            unfold longL
            rw [Bool.or_eq_true, List.any_eq_true]
            exact .inr ⟨l, List.mem_of_getElem? hx, by simp [h5]⟩)
          clear hx hB'
          go_wp2
          go_ret
          rw [HQ.out]
          exact ⟨rfl, rfl⟩
        · have HX := Lib.hid hx
          clear hx hB'
          go_wp2
          go_round
          case rel => exact ⟨k + 1, by omega, by go_num, Lib.hid fun j y hj hy => by
            by_cases hjk : j = k
            · subst hjk
              rw [HX.out] at hy
              injection hy with hy
              subst hy
              omega
            · exact HK.out j y (by omega) hy⟩
          case measure => simp [intOf]; omega
      · have HQ := Lib.hid (show longL L = false by
          unfold longL
          rw [Bool.or_eq_false_iff]
          refine ⟨by simp [HL.out]; omega, ?_⟩
          rw [List.any_eq_false]
          intro l hl
          obtain ⟨j, hj⟩ := List.getElem?_of_mem hl
          have := HK.out j l (by have := (List.getElem?_eq_some_iff.1 hj).1; have := HL.out; omega) hj
          simp; omega)
        go_wp2
        go_ret
        rw [HQ.out]
        exact ⟨rfl, rfl⟩
set_option maxHeartbeats 400000 in
theorem copies_any (A : Option Addr) (n c : Nat) (L : List (List UInt8)) (w : World) (hB : Bss w A n L) (hn : n ≤ 1000000) (hM : ∀ l ∈ L, l.length ≤ 1000000) : Calls Try.prog 19 #[.slice A n c] w (NewList w L) := by
  have HL := Lib.hid hB.1
  have HB := Lib.hid hB
  have HM := Lib.hid hM
  clear hB hM
  go_enter Try.func19, Try.ntmps19
  go_wp2
  go_loopw [3, 4] (fun o i wr => ∃ (k : Nat) (A1 : Option Addr) (c1 : Nat), k ≤ n ∧ i = .int .i64 k ∧ o = .slice A1 k c1 ∧ Below w.heap.size w wr ∧ OwnL wr w.heap.size (.slice A1 k c1) k (L.take k)) (fun _ i _ => n - (intOf i).toNat)
  case atStart => exact ⟨0, none, 0, Nat.zero_le _, rfl, rfl, Below.refl _ _, by simpa using OwnL.nil w w.heap.size⟩
  case round =>
    obtain ⟨k, A1, c1, hk, rfl, rfl, hb1, ho1⟩ := hrel
    have hs1 := hb1.size
    by_cases hlt : k < n
    · obtain ⟨b, off, A', c', l, rfl, hb, hx, hc, hnc, hB'⟩ := (HB.out.below hb1).get hlt
      have HX := Lib.hid (take_snoc hx)
      have hl : l.length ≤ 1000000 := HM.out l (List.mem_of_getElem? hx)
      have HB' := Lib.hid hB'
      have HO := Lib.hid ho1
      clear hx hB' ho1
      go_wp2_with (first
        | (go_at_call 14; refine (own_any _ _ _ l _ HB'.out (by omega)).mono ?_; rintro e w2 ⟨A2, c2, rfl, hc2, hb2, ho2⟩; have hs2 := hb2.size)
        | (at_builtin; refine wpList_appT rfl (.tmp 11) (.tmp 17) rfl w.heap.size (.slice A1 k c1) k (L.take k) rfl (HO.out.below hb2) (.slice A2 l.length c2) l (ho2.mono hs1) (by omega) (by omega) rfl ?_; intro A3 c3 w3 ho3 hb3))
      go_roundw
      case rel => exact ⟨k + 1, A3, c3, by omega, by go_num, rfl, (hb1.trans (hb2.mono hs1)).trans hb3, by rw [HX.out]; exact ho3⟩
      case measure => simp [intOf]; omega
    · obtain rfl : k = n := by omega
      have HO := Lib.hid (show OwnL wr w.heap.size (.slice A1 k c1) k L by rwa [List.take_of_length_le (by rw [HL.out]; exact Nat.le_refl _)] at ho1)
      clear ho1
      go_wp2
      go_ret
      exact HO.out.newList hb1
/-- as long as they can get -/
theorem texts_take_le {L : List (List UInt8)} (hL : L.length ≤ 1000000) (hM : ∀ l ∈ L, l.length ≤ 1000000) (k : Nat) : (numB L.length ++ textsB (L.take k)).length ≤ 1000010000000 := by
  have h1 := textsB_le 1000000 (by omega) (L.take k) (fun l hl => hM l (List.mem_of_mem_take hl))
  have h2 : (L.take k).length * (9 + 1000000) ≤ 1000000 * (9 + 1000000) := Nat.mul_le_mul_right _ (by rw [List.length_take]; omega)
  have h3 := wide8 (N := L.length) (by omega)
  rw [List.length_append, numB_length]
  omega
set_option maxHeartbeats 400000 in
theorem List_any (A : Option Addr) (n c : Nat) (L : List (List UInt8)) (w : World) (hB : Bss w A n L) (hn : n ≤ 1000000) (hM : ∀ l ∈ L, l.length ≤ 1000000) : Calls Try.prog 18 #[.slice A n c] w (NewSlice w (listB L)) := by
  have HL := Lib.hid hB.1
  have HB := Lib.hid hB
  have HM := Lib.hid hM
  have HN := Lib.hid (Num_any n w (by omega))
  have HT := Lib.hid fun k => texts_take_le (by rw [hB.1]; exact hn) hM k
  have HQ := Lib.hid (show listB L = numB n ++ textsB L by rw [listB, hB.1])
  rw [hB.1] at HT
  clear hB hM
  generalize numB n = q at *
  go_enter Try.func18, Try.ntmps18
  go_wp2_with (go_at_call 16; refine HN.out.mono ?_; rintro e w0 ⟨A0, c0, rfl, hc0, hb0, ho0⟩; have HO0 := Lib.hid ho0; clear ho0)
  go_loopw [3, 12] (fun o i wr => ∃ (k m : Nat) (A1 : Option Addr) (c1 : Nat), k ≤ n ∧ i = .int .i64 k ∧ o = .slice A1 m c1 ∧ Below w.heap.size w wr ∧ Own wr w.heap.size 5 (.slice A1 m c1) m (q ++ textsB (L.take k))) (fun _ i _ => n - (intOf i).toNat)
  case atStart => exact ⟨0, _, A0, c0, Nat.zero_le _, rfl, rfl, hb0, by simpa [textsB] using HO0.out⟩
  case round =>
    obtain ⟨k, m, A1, c1, hk, rfl, rfl, hb1, ho1⟩ := hrel
    have hs1 := hb1.size
    have hm : m ≤ 1000010000000 := by rw [← ho1.length]; exact HT.out k
    by_cases hlt : k < n
    · obtain ⟨b, off, A', c', l, rfl, hb, hx, hc, hnc, hB'⟩ := (HB.out.below hb1).get hlt
      have HX := Lib.hid (textsB_take L k l hx)
      have hl : l.length ≤ 1000000 := HM.out l (List.mem_of_getElem? hx)
      have HB' := Lib.hid hB'
      have HO := Lib.hid ho1
      have HTl : Hid ((textB l).length ≤ 1000009) := Lib.hid (by have := wide8 (N := l.length) (by omega); rw [textB_length]; omega)
      have HTA := Lib.hid fun wr h => Text_any A' l.length c' l wr h (by omega)
      clear hx hB' ho1
      generalize textB l = tl at *
      obtain ⟨tn, htn⟩ : ∃ tn, tl.length = tn := ⟨_, rfl⟩
      have htn' : tn ≤ 1000009 := by rw [← htn]; exact HTl.out
      unfold NewSlice at HTA
      rw [htn] at HTA
      clear htn HTl
      go_wp2_with (first
        | (go_at_call 13; refine (HTA.out _ HB'.out).mono ?_; rintro e w2 ⟨A2, c2, rfl, hc2, hb2, ho2⟩; have hs2 := hb2.size)
        | (at_builtin; refine wpList_app Try.byteTypes rfl (.tmp 16) (.tmp 18) rfl w.heap.size (.slice A1 m c1) m (q ++ textsB (L.take k)) rfl (HO.out.belowS hb2) A2 tn c2 tl rfl ho2.bs (by omega) (by omega) ?_; intro A3 c3 w3 ho3 hb3 _))
      go_roundw
      case rel => exact ⟨k + 1, _, A3, c3, by omega, by go_num, rfl, (hb1.trans (hb2.mono hs1)).trans hb3, by rw [HX.out, ← List.append_assoc]; exact ho3⟩
      case measure => simp [intOf]; omega
    · obtain rfl : k = n := by omega
      have HO := Lib.hid (show Own wr w.heap.size 5 (.slice A1 m c1) m (q ++ textsB L) by rwa [List.take_of_length_le (by rw [HL.out]; exact Nat.le_refl _)] at ho1)
      clear ho1
      go_wp2
      go_ret
      rw [HQ.out]
      exact HO.out.newSlice hb1
set_option maxHeartbeats 400000 in
theorem RefList_any (A : Option Addr) (n c : Nat) (L : List (List UInt8)) (w : World) (hB : Bss w A n L) (hn : n ≤ 1000000) (hM : ∀ l ∈ L, l.length ≤ 1000000) : Calls Try.prog 20 #[.slice A n c] w (NewSlice w (listB L)) := by
  have HL := Lib.hid hB.1
  have HB := Lib.hid hB
  have HM := Lib.hid hM
  have HN := Lib.hid (RefNum_any n w (by omega))
  have HT := Lib.hid fun k => texts_take_le (by rw [hB.1]; exact hn) hM k
  have HQ := Lib.hid (show listB L = numB n ++ textsB L by rw [listB, hB.1])
  rw [hB.1] at HT
  clear hB hM
  generalize numB n = q at *
  go_enter Try.func20, Try.ntmps20
  go_wp2_with (go_at_call 17; refine HN.out.mono ?_; rintro e w0 ⟨A0, c0, rfl, hc0, hb0, ho0⟩; have HO0 := Lib.hid ho0; clear ho0)
  go_loopw [3, 4] (fun o i wr => ∃ (k m : Nat) (A1 : Option Addr) (c1 : Nat), k ≤ n ∧ i = .int .i64 k ∧ o = .slice A1 m c1 ∧ Below w.heap.size w wr ∧ Own wr w.heap.size 5 (.slice A1 m c1) m (q ++ textsB (L.take k))) (fun _ i _ => n - (intOf i).toNat)
  case atStart => exact ⟨0, _, A0, c0, Nat.zero_le _, rfl, rfl, hb0, by simpa [textsB] using HO0.out⟩
  case round =>
    obtain ⟨k, m, A1, c1, hk, rfl, rfl, hb1, ho1⟩ := hrel
    have hs1 := hb1.size
    have hm : m ≤ 1000010000000 := by rw [← ho1.length]; exact HT.out k
    by_cases hlt : k < n
    · obtain ⟨b, off, A', c', l, rfl, hb, hx, hc, hnc, hB'⟩ := (HB.out.below hb1).get hlt
      have HX := Lib.hid (textsB_take L k l hx)
      have hl : l.length ≤ 1000000 := HM.out l (List.mem_of_getElem? hx)
      have HB' := Lib.hid hB'
      have HO := Lib.hid ho1
      have HTl : Hid ((textB l).length ≤ 1000009) := Lib.hid (by have := wide8 (N := l.length) (by omega); rw [textB_length]; omega)
      have HTA := Lib.hid fun wr h => RefText_any A' l.length c' l wr h (by omega)
      clear hx hB' ho1
      generalize textB l = tl at *
      obtain ⟨tn, htn⟩ : ∃ tn, tl.length = tn := ⟨_, rfl⟩
      have htn' : tn ≤ 1000009 := by rw [← htn]; exact HTl.out
      unfold NewSlice at HTA
      rw [htn] at HTA
      clear htn HTl
      go_wp2_with (first
        | (go_at_call 15; refine (HTA.out _ HB'.out).mono ?_; rintro e w2 ⟨A2, c2, rfl, hc2, hb2, ho2⟩; have hs2 := hb2.size)
        | (at_builtin; refine wpList_app Try.byteTypes rfl (.tmp 15) (.tmp 20) rfl w.heap.size (.slice A1 m c1) m (q ++ textsB (L.take k)) rfl (HO.out.belowS hb2) A2 tn c2 tl rfl ho2.bs (by omega) (by omega) ?_; intro A3 c3 w3 ho3 hb3 _))
      go_roundw
      case rel => exact ⟨k + 1, _, A3, c3, by omega, by go_num, rfl, (hb1.trans (hb2.mono hs1)).trans hb3, by rw [HX.out, ← List.append_assoc]; exact ho3⟩
      case measure => simp [intOf]; omega
    · obtain rfl : k = n := by omega
      have HO := Lib.hid (show Own wr w.heap.size 5 (.slice A1 m c1) m (q ++ textsB L) by rwa [List.take_of_length_le (by rw [HL.out]; exact Nat.le_refl _)] at ho1)
      clear ho1
      go_wp2
      go_ret
      rw [HQ.out]
      exact HO.out.newSlice hb1
end Go.Proofs.Ytjifahocfbbicaa
