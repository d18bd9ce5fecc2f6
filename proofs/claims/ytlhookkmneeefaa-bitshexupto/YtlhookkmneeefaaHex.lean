/-
  What bits.Hex, bits.Unhex and juratref01.Hex, juratref01.Unhex answer, of whatever bytes and text.
-/
import Derived.Test.YtlhookkmneeefaaCalls
import Derived.Test.YtlhookkmneeefaaHexPlain
import Derived.Deep.RegionHeld3
namespace Go.Proofs.Ytlhookkmneeefaa
open Go.RowKit
set_option maxHeartbeats 1000000 in
set_option maxRecDepth 100000 in
theorem slIndexByte_any (s : ByteArray) (c : Int) (w : World) :
    Calls Try.prog 28 #[.string s, .int .u8 c] w fun e w' => e = .returned (.int .i64 (Lib.indexByte s.data.toList c.toNat.toUInt8)) ∧ w = w' := by
  go_enter Try.func28, Try.ntmps28
  go_wp2
  rw [run_callFunc_extern Try.func29 (by kernel_rfl) (by kernel_rfl) (by kernel_rfl) (e := Extern.BytealgIndexByte.indexByte) (by kernel_rfl), Lib.run_indexByteString]
  simp only [Result.andThen]
  rw [Oper.upon_value]
  go_wp2
  go_ret
  exact ⟨rfl, rfl⟩
set_option maxHeartbeats 400000 in
theorem sIndexByte_any (s : ByteArray) (c : Int) (w : World) :
    Calls Try.prog 27 #[.string s, .int .u8 c] w fun e w' => e = .returned (.int .i64 (Lib.indexByte s.data.toList c.toNat.toUInt8)) ∧ w = w' := by
  go_enter Try.func27, Try.ntmps27
  go_wp2_with (go_at_call 28; refine (slIndexByte_any _ _ _).mono ?_; rintro e w' ⟨rfl, rfl⟩)
  go_ret
  exact ⟨rfl, rfl⟩
set_option maxHeartbeats 400000 in
theorem digitValue_any (c : Int) (w : World) (h0 : 0 ≤ c) (h : c < 256) :
    Calls Try.prog 25 #[.int .u8 c] w fun e w' => e = .returned (.int .i64 (dv c.toNat)) ∧ w = w' := by
  have hd := Lib.hid (dv_index c.toNat (by omega))
  go_enter Try.func25, Try.ntmps25
  go_wp2_with (go_at_call 27; refine (sIndexByte_any _ _ _).mono ?_; rintro e w' ⟨rfl, rfl⟩)
  go_ret
  exact ⟨retI hd.out, rfl⟩
set_option maxHeartbeats 400000 in
theorem worth_any (c : Int) (w : World) (h0 : 0 ≤ c) (h : c < 256) :
    Calls Try.prog 26 #[.int .u8 c] w fun e w' => e = .returned (.int .i64 (dv c.toNat)) ∧ w = w' := by
  go_enter Try.func26, Try.ntmps26
  go_wp2
  go_loop [3] (fun i => ∃ k : Nat, k ≤ 16 ∧ i = .int .i64 (k : Int) ∧ Hid (∀ j, j < k → (dig j : Int) ≠ c)) (fun i => 16 - (intOf i).toNat)
  case atStart => exact ⟨0, by omega, rfl, Lib.hid fun j hj => by omega⟩
  case round =>
    obtain ⟨k, hk, rfl, HK⟩ := hrel
    by_cases hlt : k < 16
    · have hdig := dig_at k hlt
      have HD := Lib.hid (dv_dig k hlt)
      by_cases hc : (dig k : Int) = c
      · have hb : ((dig k : Int) == c) = true := beq_iff_eq.2 hc
        have HC := Lib.hid (show c.toNat = dig k by omega)
        clear hc
        go_wp2
        go_ret
        exact ⟨retI (by rw [HC.out, HD.out]), rfl⟩
      · have hb : ((dig k : Int) == c) = false := beq_eq_false_iff_ne.2 hc
        have HC := Lib.hid hc
        clear hc
        go_wp2
        go_round
        case rel => exact ⟨k + 1, by omega, by go_num, Lib.hid fun j hj => by
          rcases Nat.lt_or_ge j k with h1 | h1
          · exact HK.out j h1
          · obtain rfl : j = k := by omega
            exact HC.out⟩
        case measure => simp [intOf]; omega
    · go_wp2
      go_ret
      refine ⟨retI ?_, rfl⟩
      rcases Int.lt_or_le (dv c.toNat) 0 with h1 | h1
      · have := dv_lt c.toNat
        omega
      · have := dv_lt c.toNat
        have e := dig_dv c.toNat h1
        exact absurd (by rw [e]; omega) (HK.out (dv c.toNat).toNat (by omega))
/-- string(b), b a slice of bytes -/
theorem run_str {P : Program} {t s e : TypeId} (ht : P.underlying t = some (.slice e)) (he : P.underlying e = some (.int .u8)) (hs : P.underlying s = some .string)
    {w : World} {A : Option Addr} {n : Nat} (c : Nat) {l : List UInt8} (h : Bs w A n l) : (convert t s (.slice A n c)).run P w = .ok (.string ⟨l.toArray⟩) w := by
  rw [run_convert_bytes_string w t s e A n c ht he hs]
  have hfold : ∀ (l : List UInt8) (r : ByteArray), (l.map fun x => (x.toNat : Int)).foldl (fun r n => r.push (UInt8.ofNat n.toNat)) r = ⟨r.data ++ l.toArray⟩ := by
    intro l
    induction l with
    | nil => intro r; simp
    | cons x l ih =>
      intro r
      rw [List.map_cons, List.foldl_cons, ih]
      simp [ByteArray.push]
  rcases A with _ | a
  · have h0 : l = [] := by
      rcases l with _ | ⟨x, l⟩
      · rfl
      · obtain ⟨b, off, e, _⟩ := h.2 0 x rfl
        cases e
    subst h0
    have hn : n = 0 := h.1.symm
    subst hn
    simp [Conv.bytesToString]
    rfl
  · have hload : (loadCells a n).run P w = .ok ((l.map fun x => (x.toNat : Int)).map (Value.int .u8)).toArray w := by
      have hl := run_loadCells_list (P := P) (w := w) a (l.map fun x => Value.int .u8 (x.toNat : Int)) (by
        intro j v hv
        rw [List.getElem?_map] at hv
        rcases hj : l[j]? with _ | x
        · rw [hj] at hv; cases hv
        · rw [hj] at hv
          simp at hv
          subst hv
          obtain ⟨b, off, e, _, hc⟩ := h.2 j x hj
          simp at e
          subst e
          rw [← hc]
          congr 1
          unfold Addr.add
          split
          · rename_i h; subst h; rfl
          · rfl)
      rw [List.length_map, h.1] at hl
      rw [hl]
      simp
    rw [run_bytesToString w a n c _ hload, hfold]
    simp
theorem Own.alloc {w : World} {base : Nat} {e : TypeId} {v : Value} {n : Nat} {l : List UInt8} (h : Own w base e v n l) (o : Obj) : Own (w.alloc o) base e v n l := by
  refine ⟨h.1, ?_⟩
  rcases h.2 with h0 | ⟨g, cap, cur, hv, hge, hg, hr⟩
  · exact .inl h0
  · exact .inr ⟨g, cap, cur, hv, hge, (Below.heap_alloc w o g (Array.getElem?_eq_some_iff.1 hg).1).trans hg, hr⟩
theorem Own.drew {w : World} {base : Nat} {e : TypeId} {v : Value} {n : Nat} {l : List UInt8} (h : Own w base e v n l) : Own w.drew base e v n l := h
/-- append(v, x...) at a step of a region that draws its order -/
theorem step_app {P : Program} {t e : TypeId} (T : ByteTypes P t e) {w : World} {ops : Array Oper} {o : Oper} {a : Act} {K : Act → World → Prop} {Q : Exit → Act → World → Prop} {E : Prop} (hgd : o.guard = none) (s x : Operand)
    (ho : o.op = .call { callee := .builtin .append, args := #[s, x], argTypes := #[t, t] })
    (base : Nat) (v : Value) (n : Nat) (xs : List UInt8) (hs : a.eval s = v) (hown : Own w base e v n xs)
    (A : Option Addr) (m c : Nat) (l : List UInt8) (hx : a.eval x = .slice A m c) (hr : Bs w A m l) (hb : n + m ≤ 140737488355328) (hbase : base ≤ w.heap.size)
    (h : ∀ A' c' w', Own w' base e (.slice A' (n + m) c') (n + m) (xs ++ l) → Below base w w' → K (a.put o.dst (.slice A' (n + m) c')) w') :
    if Region.wanted o (yielded ops a.tmps) = true then Oper.wp P o a w K Q else E := by
  have hw : Region.wanted o (yielded ops a.tmps) = true := by simp [Region.wanted, hgd]
  rw [if_pos hw]
  obtain ⟨A', c', w', hrun, h2, h3, _⟩ := run_app T o.type w base v n xs hown A m c l hr hb hbase
  unfold Oper.wp execOp
  simp only [ho, resolve, invoke, builtin, Sem.run_bind, Sem.run_pure, Result.andThen_ok, List.map_toArray, List.map_cons, List.map_nil, hs, hx, hrun]
  exact h A' c' w' h2 h3
theorem make_room (P : Program) {t e : TypeId} (T : ByteTypes P t e) (n : Nat) (hn : n ≤ 140737488355328) (w : World) :
    (Instr.makeSlice t (.int .i64 0) (.int .i64 (n : Int))).run P w = .ok (.slice (some ⟨w.heap.size, 0, none⟩) 0 n) (w.alloc (.cells (madeCells #[.int .u8 0] n) e)) := by
  obtain ⟨i, hi, hz, hsize, hby⟩ := info_parts T.hi
  have hr := run_make (P := P) w t e i (.int .u8 0) T.ht hi hz .i64 .i64 0 n (by omega) (by omega) (by rw [hby]; omega) (by omega)
  simp only [Int.toNat_natCast, hsize, Nat.mul_one] at hr
  exact hr
theorem ofInt_u8 (a : Nat) (ha : a < 256) : (BitVec.ofInt 8 (a : Int)).toNat = a := by
  rw [BitVec.ofInt_natCast, BitVec.toNat_ofNat]; exact Nat.mod_eq_of_lt (by omega)
theorem u8_and_15 (a : Nat) (ha : a < 256) : bits .and .u8 (a : Int) 15 = ((a % 16 : Nat) : Int) := by
  show IntKind.u8.wrap ((BitVec.ofInt 8 (a : Int) &&& BitVec.ofInt 8 (15 : Int)).toNat : Int) = _
  rw [BitVec.toNat_and, ofInt_u8 a ha, show (BitVec.ofInt 8 (15 : Int)).toNat = 2 ^ 4 - 1 from rfl, Nat.and_two_pow_sub_one_eq_mod]
  simp [IntKind.wrap, IntKind.bits, IntKind.signed]
  omega
/-- the two digits of a byte, as the program lays them -/
theorem two_digits (w : World) (x : UInt8) (t : TypeId) : Bs (w.alloc (.cells #[.int .u8 (dig (x.toNat / 16) : Int), .int .u8 (dig (x.toNat % 16) : Int)] t)) (some ⟨w.heap.size, 0, none⟩) 2 (hexL [x]) := by
  have hx := byte_lt x
  refine lit_new w t _ 2 _ rfl rfl ?_ (by omega)
  intro j y hy
  rcases j with _ | _ | j
  · simp [hexL] at hy
    subst hy
    rw [digB_toNat _ (by omega)]
    rfl
  · simp [hexL] at hy
    subst hy
    rw [digB_toNat _ (by omega)]
    rfl
  · simp [hexL] at hy
theorem two_digits_drew (w : World) (x : UInt8) (t : TypeId) (v1 v2 : Int) (h1 : v1 = dig (x.toNat / 16)) (h2 : v2 = dig (x.toNat % 16)) :
    Bs (w.alloc (.cells #[.int .u8 v1, .int .u8 v2] t)).drew (some ⟨w.heap.size, 0, none⟩) 2 (hexL [x]) := by
  subst h1 h2; exact two_digits w x t
theorem dig_div (x : UInt8) (h : ((x.toNat : Int) / 16).toNat < 16) : (((⟨#[48, 49, 50, 51, 52, 53, 54, 55, 56, 57, 97, 98, 99, 100, 101, 102]⟩ : ByteArray)[((x.toNat : Int) / 16).toNat]'h).toNat : Int) = dig (x.toNat / 16) := by
  rw [dig_at _ h]; congr 2
theorem dig_mod (x : UInt8) (h : ((x.toNat : Int) % 16).toNat < 16) : (((⟨#[48, 49, 50, 51, 52, 53, 54, 55, 56, 57, 97, 98, 99, 100, 101, 102]⟩ : ByteArray)[((x.toNat : Int) % 16).toNat]'h).toNat : Int) = dig (x.toNat % 16) := by
  rw [dig_at _ h]; congr 2
theorem retS {a b : List UInt8} (h : a = b) : Ending.returned (.string ⟨a.toArray⟩) = .returned (.string ⟨b.toArray⟩) := by rw [h]
theorem hexL_take {l : List UInt8} {k : Nat} {x : UInt8} (h : l[k]? = some x) : hexL (l.take (k + 1)) = hexL (l.take k) ++ hexL [x] := by rw [take_snoc h, hexL_append]
set_option maxHeartbeats 400000 in
theorem Hex_any (A : Option Addr) (n c : Nat) (l : List UInt8) (w : World) (h : Bs w A n l) (hn : n ≤ 70368744177664) :
    Calls Try.prog 18 #[.slice A n c] w fun e w' => e = .returned (.string ⟨(hexL l).toArray⟩) ∧ Below w.heap.size w w' := by
  have hmk := make_room Try.prog Try.byteTypes (2 * n) (by omega)
  rw [show ((2 * n : Nat) : Int) = 2 * (n : Int) by omega] at hmk
  go_enter Try.func18, Try.ntmps18
  go_wp2
  go_loopw [3, 12] (fun t i wr => ∃ (k : Nat) (A' : Option Addr) (c' : Nat), k ≤ n ∧ i = .int .i64 (k : Int) ∧ t = .slice A' (2 * k) c' ∧ Below w.heap.size w wr ∧ Own wr w.heap.size 5 (.slice A' (2 * k) c') (2 * k) (hexL (l.take k))) (fun _ i _ => n - (intOf i).toNat)
  case atStart =>
    refine ⟨0, _, _, by omega, rfl, rfl, (Below.refl _ _).alloc (Nat.le_refl _) _, ?_⟩
    exact ⟨rfl, .inr ⟨w.heap.size, 2 * n, _, rfl, Nat.le_refl _, Row.new _ _ _, by omega, by simp only [maxLen]; omega, by rw [size_madeCells]; omega, by simp [hexL]⟩⟩
  case round =>
    obtain ⟨k, A', c', hk, rfl, rfl, hbel, hown⟩ := hrel
    have HO := Lib.hid hown
    have hsz := hbel.size
    clear hown hmk
    by_cases hlt : k < n
    · obtain ⟨b, off, x, rfl, hb, hx, hc⟩ := (h.below hbel).get hlt
      have hx256 := byte_lt x
      have HX := Lib.hid (hexL_take hx)
      have hand := u8_and_15 x.toNat hx256
      have i1 : (x.toNat : Int) / 16 < 16 := by omega
      have i2 : (x.toNat : Int) % 16 < 16 := by omega
      have i3 : 0 ≤ (x.toNat : Int) / 16 := by omega
      have i4 : 0 ≤ (x.toNat : Int) % 16 := by omega
      have hbal : Below w.heap.size w wr.drew := hbel.drew
      clear hx
      go_wp2
      go_region_held3 (fun _ => True) (first | trivial | go_keep)
        ((refine step_app Try.byteTypes (by rfl) (.tmp 16) (.tmp 23) (by rfl) w.heap.size _ (2 * k) (hexL (l.take k)) (by rfl) ((HO.out.alloc _).drew) _ 2 2 (hexL [x]) (by rfl) (by exact two_digits_drew _ x 5 _ _ (dig_div x _) (dig_mod x _)) (by omega) (by simp; omega) ?_; intro A2 c2 w2 hown2 hbel2))
      all_goals
        go_wp2
        go_roundw
        case rel => exact ⟨k + 1, A2, c2, by omega, by go_num, rfl, ((hbel.alloc hsz _).drew).trans hbel2, by rw [HX.out]; exact hown2⟩
        case measure => simp [intOf]; omega
    · have hcv := run_str (P := Try.prog) Try.underlying26 Try.underlying5 Try.underlying9 c' HO.out.bs
      have HL := Lib.hid (show l.take k = l from List.take_of_length_le (by rw [h.1]; omega))
      go_wp2
      go_ret
      exact ⟨retS (by rw [HL.out]), hbel⟩
end Go.Proofs.Ytlhookkmneeefaa
