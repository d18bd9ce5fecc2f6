/-
  A reader in memory, and what wire.Read, its Err, fail, Left, End and wire.readNum, wire.readLength answer.
-/
import Derived.Test.YtjifahocfbbicaaLists
namespace Go.Proofs.Ytjifahocfbbicaa
open Go.RowKit
/-- the slice lies in block b -/
def InB (A : Option Addr) (n b : Nat) : Prop := n = 0 ∨ ∃ off, A = some ⟨b, off, none⟩
theorem InB.apart {A : Option Addr} {n b g : Nat} (h : InB A n b) (hg : b ≠ g) : Apart A n g := by
  rcases h with h | ⟨off, h⟩
  · exact .inl h
  · exact .inr ⟨b, off, h, hg⟩
/-- a reader (type t) at block g, whose bytes lie in block b: the error E (0: none), the bytes l are left -/
def Rdr (w : World) (t : TypeId) (g b : Nat) (E : Int) (l : List UInt8) : Prop :=
  ∃ A n c, Row w g t #[.slice A n c, .int .i64 E] ∧ Bs w A n l ∧ n ≤ c ∧ InB A n b ∧ b ≠ g
theorem Rdr.only {w w' : World} {t : TypeId} {g b k : Nat} {E : Int} {l : List UInt8} (h : Rdr w t g b E l) (ho : Only k w w') (hg : g ≠ k) (hb : b ≠ k) : Rdr w' t g b E l := by
  obtain ⟨A, n, c, h1, h2, h3, h4, h5⟩ := h
  exact ⟨A, n, c, h1.only ho hg, h2.only (h4.apart hb) ho, h3, h4, h5⟩
theorem Rdr.below {w w' : World} {t : TypeId} {g b : Nat} {E : Int} {l : List UInt8} (h : Rdr w t g b E l) (hb : Below w.heap.size w w') : Rdr w' t g b E l := by
  obtain ⟨A, n, c, h1, h2, h3, h4, h5⟩ := h
  exact ⟨A, n, c, h1.below hb h1.lt, h2.below hb, h3, h4, h5⟩
theorem Rdr.drewN {w : World} {t : TypeId} {g b : Nat} {E : Int} {l : List UInt8} (h : Rdr w t g b E l) (k : Nat) : Rdr (w.drewN k) t g b E l := h
theorem Rdr.lt {w : World} {t : TypeId} {g b : Nat} {E : Int} {l : List UInt8} (h : Rdr w t g b E l) : g < w.heap.size := by
  obtain ⟨A, n, c, h1, _⟩ := h; exact h1.lt
theorem own_only {w w' : World} {base g : Nat} {e : TypeId} {v : Value} {n : Nat} {l : List UInt8} (h : Own w base e v n l) (ho : Only g w w') (hg : g < base) : Own w' base e v n l := by
  refine ⟨h.1, ?_⟩
  rcases h.2 with h0 | ⟨b, cap, cur, hv, hge, hb, hr⟩
  · exact .inl h0
  · exact .inr ⟨b, cap, cur, hv, hge, (ho.block b ((Array.getElem?_eq_some_iff.1 hb).1) (by omega)).trans hb, hr⟩
theorem OwnL.only {w w' : World} {base g : Nat} {v : Value} {n : Nat} {L : List (List UInt8)} (h : OwnL w base v n L) (ho : Only g w w') (hg : g < base) : OwnL w' base v n L := by
  obtain ⟨vs, h1, h2, h3⟩ := h
  refine ⟨vs, ⟨h1.1, ?_⟩, h2, fun k x l hx hl => own_only (h3 k x l hx hl) ho hg⟩
  rcases h1.2 with h0 | ⟨b, cap, cur, hv, hge, hb, hr⟩
  · exact .inl h0
  · exact .inr ⟨b, cap, cur, hv, hge, (ho.block b ((Array.getElem?_eq_some_iff.1 hb).1) (by omega)).trans hb, hr⟩
section
variable {P : Program}
theorem size_of {t e : TypeId} (T : ByteTypes P t e) (w : World) : (sizeOf e).run P w = .ok 1 w := by
  obtain ⟨i, hi, hz, hsize, hby⟩ := info_parts T.hi
  simp [sizeOf, typeInfo, hi, hsize]
/-- 'x[k:]', 'x[lo:hi]', 'x[:hi]' -/
theorem cut_from {t e : TypeId} (T : ByteTypes P t e) (A : Option Addr) (n c k : Nat) (hk : k ≤ n) (hnc : n ≤ c) :
    ∃ A', (∀ w, (Instr.sliceAt t (.slice A n c) (some (.int .i64 (k : Int))) none none).run P w = .ok (.slice A' (n - k) (c - k)) w) ∧ (∀ w l, Bs w A n l → Bs w A' (n - k) (l.drop k)) ∧ (∀ b, InB A n b → InB A' (n - k) b) := by
  obtain ⟨A', h1, h2, h3⟩ := cut_tail T A n c k hk hnc
  refine ⟨if c = k then A else A.map (·.add (k * 1)), fun w => ?_, fun w l hb => ?_, fun b hb => ?_⟩
  · have h1 : (k : Int) ≤ n := by omega
    simp [Instr.sliceAt, Instr.slice, run_underlying T.ht, Instr.sliceBounds, run_sliceBound, size_of T w, h1]
  · by_cases hck : c = k
    · obtain rfl : n = k := by omega
      rw [List.drop_eq_nil_of_le (by rw [hb.1]; exact Nat.le_refl _), Nat.sub_self]
      exact Bs.nil _ _
    · rw [if_neg hck]
      by_cases hn : n = 0
      · subst hn
        obtain rfl : k = 0 := by omega
        rw [hb.empty rfl]; exact Bs.nil _ _
      · obtain ⟨b, off, x, hA, _⟩ := hb.get (k := 0) (by omega)
        subst hA
        rw [Nat.mul_one, Option.map_some, Addr.add_mid]
        exact hb.drop
  · rcases hb with h0 | ⟨off, rfl⟩
    · exact .inl (by omega)
    · by_cases hck : c = k
      · exact .inl (by omega)
      · rw [if_neg hck, Option.map_some, Addr.add_mid]
        exact .inr ⟨_, rfl⟩
theorem wpList_from {t e : TypeId} (T : ByteTypes P t e) {ops : Array Oper} {rest : List Oper} {o : Oper} {a : Act} {w : World} {Q : Exit → Act → World → Prop} (hgd : o.guard = none) (x y : Operand)
    (ho : o.op = .slice t x (some y) none none) (A : Option Addr) (n c k : Nat) (hx : a.eval x = .slice A n c) (hy : a.eval y = .int .i64 (k : Int)) (hk : k ≤ n) (hnc : n ≤ c)
    (h : ∀ A', (∀ w l, Bs w A n l → Bs w A' (n - k) (l.drop k)) → (∀ b, InB A n b → InB A' (n - k) b) → wpList P ops Q rest (a.put o.dst (.slice A' (n - k) (c - k))) w) : wpList P ops Q (o :: rest) a w := by
  obtain ⟨A', hrun, h1, h2⟩ := cut_from T A n c k hk hnc
  refine wpList_plain hgd fun K hK => ?_
  unfold Oper.wp execOp
  simp [ho, hx, hy, hrun, Result.andThen]
  exact hK _ _ (h A' h1 h2)
theorem wpList_mid {t e : TypeId} (T : ByteTypes P t e) {ops : Array Oper} {rest : List Oper} {o : Oper} {a : Act} {w : World} {Q : Exit → Act → World → Prop} (hgd : o.guard = none) (x y z : Operand)
    (ho : o.op = .slice t x (some y) (some z) none) (A : Option Addr) (n c k m : Nat) (hx : a.eval x = .slice A n c) (hy : a.eval y = .int .i64 (k : Int)) (zi : Int) (hz : a.eval z = .int .i64 zi) (hzi : zi = m) (hk : k ≤ m) (hm : m ≤ n) (hnc : n ≤ c)
    (h : ∀ A', (∀ w l, Bs w A n l → Bs w A' (m - k) ((l.drop k).take (m - k))) → wpList P ops Q rest (a.put o.dst (.slice A' (m - k) (c - k))) w) : wpList P ops Q (o :: rest) a w := by
  subst hzi
  have hrun : ∀ w, (Instr.sliceAt t (.slice A n c) (some (.int .i64 (k : Int))) (some (.int .i64 (m : Int))) none).run P w = .ok (.slice (if c = k then A else A.map (·.add (k * 1))) (m - k) (c - k)) w := fun w => by
    have h1 : (k : Int) ≤ m := by omega
    have h2 : (m : Int) ≤ c := by omega
    simp [Instr.sliceAt, Instr.slice, run_underlying T.ht, Instr.sliceBounds, run_sliceBound, size_of T w, h1, h2]
  refine wpList_plain hgd fun K hK => ?_
  unfold Oper.wp execOp
  simp [ho, hx, hy, hz, hrun, Result.andThen]
  refine hK _ _ ?_
  rw [show k * 1 = k by omega] at *
  refine h _ fun w l hb => ?_
  by_cases hck : c = k
  · obtain rfl : m = k := by omega
    rw [Nat.sub_self, List.take_zero]; exact Bs.nil _ _
  · rw [if_neg hck]
    by_cases hn : n = 0
    · rw [show m - k = 0 by omega, List.take_zero]; exact Bs.nil _ _
    · obtain ⟨b, off, x, hA, _⟩ := hb.get (k := 0) (by omega)
      subst hA
      rw [Option.map_some, Addr.add_mid]
      exact hb.drop.take (by omega)
end
/-- the method value r.fail -/
def failV (g : Nat) : Value := .func (.func 42) #[.pointer (some ⟨g, 0, none⟩)] #[]
theorem row2_set1 {w : World} {g : Nat} {t : TypeId} {v x : Value} (h : Row w g t #[v, x]) (u : Value) : Row (w.setCell ⟨g, 1, none⟩ u) g t #[v, u] := h.set 1 u
theorem row2_set0 {w : World} {g : Nat} {t : TypeId} {v x : Value} (h : Row w g t #[v, x]) (u : Value) : Row (w.setCell ⟨g, 0, none⟩ u) g t #[u, x] := h.set 0 u
set_option maxHeartbeats 400000 in
theorem fail_any (g : Nat) (v x : Value) (E : Int) (w : World) (h : Row w g 61 #[v, x]) :
    Calls Try.prog 42 #[.pointer (some ⟨g, 0, none⟩), .int .i64 E] w fun e w' => e = .returned (.tuple #[]) ∧ Row w' g 61 #[v, .int .i64 E] ∧ Only g w w' := by
  have h1 : w.cell? ⟨g, 1, none⟩ = some x := h.cell 1
  have f1 := h.frozen 1
  have H := Lib.hid h
  clear h
  go_enter Try.func42, Try.ntmps42
  go_wp2
  exact bodyPost_end (v := .tuple #[]) (by simp [results, Try.results42]) rfl ⟨rfl, row2_set1 H.out _, Only.setCell g 1 w _⟩
set_option maxHeartbeats 400000 in
theorem Err_any (g : Nat) (v : Value) (E : Int) (w : World) (h : Row w g 61 #[v, .int .i64 E]) :
    Calls Try.prog 35 #[.pointer (some ⟨g, 0, none⟩)] w fun e w' => e = .returned (.int .i64 E) ∧ w = w' := by
  have h1 : w.cell? ⟨g, 1, none⟩ = some (.int .i64 E) := h.cell 1
  clear h
  go_enter Try.func35, Try.ntmps35
  go_wp2
  go_ret
  exact ⟨rfl, rfl⟩
set_option maxHeartbeats 400000 in
theorem Err_nil (w : World) : Calls Try.prog 35 #[.pointer none] w fun e w' => e = .returned (.int .i64 2) ∧ w = w' := by
  go_enter Try.func35, Try.ntmps35
  go_wp2
  go_ret
  exact ⟨rfl, rfl⟩
set_option maxHeartbeats 400000 in
theorem Left_any (g b : Nat) (E : Int) (l : List UInt8) (w : World) (h : Rdr w 61 g b E l) :
    Calls Try.prog 36 #[.pointer (some ⟨g, 0, none⟩)] w fun e w' => e = .returned (.int .i64 (l.length : Int)) ∧ w = w' := by
  obtain ⟨A, n, c, hr, hB, _⟩ := h
  have h0 : w.cell? ⟨g, 0, none⟩ = some (.slice A n c) := hr.cell 0
  obtain rfl := hB.1
  clear hr hB
  generalize l.length = n at *
  go_enter Try.func36, Try.ntmps36
  go_wp2
  go_ret
  exact ⟨rfl, rfl⟩
set_option maxHeartbeats 400000 in
theorem Left_nil (w : World) : Calls Try.prog 36 #[.pointer none] w fun e w' => e = .returned (.int .i64 0) ∧ w = w' := by
  go_enter Try.func36, Try.ntmps36
  go_wp2
  go_ret
  exact ⟨rfl, rfl⟩
/-- a number's reading: two numbers come back, the error is met -/
def Rd2 (w : World) (g : Nat) (v : Value) (k : IntKind) (r : Int × Nat × Nat) (e : Ending) (w' : World) : Prop :=
  e = .returned (.tuple #[.int k (r.2.1 : Int), .int .i64 (r.2.2 : Int)]) ∧ Row w' g 61 #[v, .int .i64 r.1] ∧ Only g w w'
set_option maxHeartbeats 1000000 in
theorem readNum_any (A : Option Addr) (n c : Nat) (l : List UInt8) (g : Nat) (v : Value) (w : World) (hB : Bs w A n l) (hnc : n ≤ c) (hn : n ≤ 1000000000000) (hr : Row w g 61 #[v, .int .i64 0]) :
    Calls Try.prog 41 #[.slice A n c, failV g] w (Rd2 w g v .u64 (rdNum l)) := by
  have HR := Lib.hid hr
  have HB := Lib.hid hB
  have HL := Lib.hid hB.1
  clear hr
  rcases l with _ | ⟨x, r⟩
  · obtain rfl : n = 0 := hB.1.symm
    clear hB
    have HQ := Lib.hid (show rdNum [] = (40, 0, 0) from rfl)
    generalize rdNum [] = q at *
    unfold failV
    go_enter Try.func41, Try.ntmps41
    go_wp2_with (go_at_call 42; refine (fail_any g v _ 40 _ HR.out).mono ?_; rintro e w1 ⟨rfl, h1, h2⟩)
    go_ret2
    rw [HQ.out]
    exact ⟨rfl, h1, h2⟩
  · obtain ⟨b, off, x', rfl, hb, hx, hc0⟩ := hB.get (k := 0) (by rw [← hB.1]; simp)
    obtain rfl : x' = x := by simpa using hx.symm
    rw [Nat.add_zero] at hc0
    have hx256 := byte_lt x'
    have hn1 : r.length + 1 = n := HL.out
    have hnpos : (0 : Int) < (n : Int) := by omega
    have hz : ((n : Int) == 0) = false := by simp; omega
    clear hx
    by_cases h8 : 8 < x'.toNat
    · have HQ := Lib.hid (show rdNum (x' :: r) = (41, 0, 0) by simp only [rdNum, if_pos h8])
      clear hB
      generalize rdNum (x' :: r) = q at *
      unfold failV
      go_enter Try.func41, Try.ntmps41
      go_wp2_with (go_at_call 42; refine (fail_any g v _ 41 _ HR.out).mono ?_; rintro e w1 ⟨rfl, h1, h2⟩)
      go_ret2
      rw [HQ.out]
      exact ⟨rfl, h1, h2⟩
    · by_cases hs : r.length < x'.toNat
      · have HQ := Lib.hid (show rdNum (x' :: r) = (40, 0, 0) by simp only [rdNum, if_neg h8, if_pos hs])
        have hs' : (n : Int) ≤ (x'.toNat : Int) := by omega
        clear hB
        generalize rdNum (x' :: r) = q at *
        unfold failV
        go_enter Try.func41, Try.ntmps41
        go_wp2_with (go_at_call 42; refine (fail_any g v _ 40 _ HR.out).mono ?_; rintro e w1 ⟨rfl, h1, h2⟩)
        go_ret2
        rw [HQ.out]
        exact ⟨rfl, h1, h2⟩
      · have hs' : (x'.toNat : Int) < (n : Int) := by omega
        by_cases h0 : x'.toNat = 0
        · have HQ := Lib.hid (show rdNum (x' :: r) = (0, num [], 1 + 0) by simp [rdNum, h0])
          have HZ := Lib.hid h0
          rw [h0] at hc0
          have HN := Lib.hid (fun A c => Number_ok A 0 c [] w (Bs.nil _ _) (by omega))
          clear hB h0 hs' hs h8 hx256
          generalize rdNum (x' :: r) = q at *
          generalize num [] = N at *
          unfold failV
          go_enter Try.func41, Try.ntmps41
          go_wp2_with (first
            | ((with_reducible refine wpList_mid Try.byteTypes rfl (.tmp 15) (.const (.int .i64 1)) (.tmp 16) rfl (some ⟨b, off, none⟩) n c 1 1 rfl rfl _ rfl (by omega) (by omega) (by omega) (by omega) ?_); intro A1 hA1)
            | (go_at_call 47; refine (HN.out _ _).mono ?_; rintro e w1 ⟨rfl, rfl⟩))
          go_ret2
          rw [HQ.out]
          exact ⟨rfl, HR.out, Only.refl _ _⟩
        · obtain ⟨y, r', rfl⟩ : ∃ y r', r = y :: r' := by
            rcases r with _ | ⟨y, r'⟩
            · simp at hs; omega
            · exact ⟨y, r', rfl⟩
          obtain ⟨b', off', y', e', hb', hy, hc1⟩ := hB.get (k := 1) (by omega)
          simp only [Option.some.injEq, Addr.mk.injEq, and_true] at e'
          obtain ⟨rfl, rfl⟩ := e'
          obtain rfl : y' = y := by simpa using hy.symm
          have hxp : (0 : Int) < (x'.toNat : Int) := by omega
          have h1n : (1 : Int) < (n : Int) := by omega
          clear hy
          by_cases hy0 : y' = 0
          · subst hy0
            have HQ := Lib.hid (show rdNum (x' :: 0 :: r') = (41, 0, 0) by simp only [rdNum, if_neg h8, if_neg hs]; rw [if_pos ⟨by omega, rfl⟩])
            clear hB
            generalize rdNum (x' :: 0 :: r') = q at *
            simp only [show (0 : UInt8).toNat = 0 from rfl] at hc1
            unfold failV
            go_enter Try.func41, Try.ntmps41
            go_wp2_with (go_at_call 42; refine (fail_any g v _ 41 _ HR.out).mono ?_; rintro e w1 ⟨rfl, h1, h2⟩)
            go_ret2
            rw [HQ.out]
            exact ⟨rfl, h1, h2⟩
          · have hy1 : ((y'.toNat : Int) == 0) = false := by
              simp only [beq_eq_false_iff_ne, ne_eq]
              intro e
              exact hy0 (UInt8.toNat_inj.1 (by show y'.toNat = 0; omega))
            have HQ := Lib.hid (show rdNum (x' :: y' :: r') = (0, num ((y' :: r').take x'.toNat), 1 + x'.toNat) by
              simp only [rdNum, if_neg h8, if_neg hs]
              rw [if_neg]
              rintro ⟨_, h⟩
              exact hy0 (by simpa using h))
            obtain ⟨k, hk⟩ : ∃ k, x'.toNat = k := ⟨_, rfl⟩
            have HBB := Lib.hid hB
            have HN := Lib.hid (fun A c h => Number_ok A k c ((y' :: r').take k) w h (by omega))
            rw [hk] at HQ hxp hs' hc0 h8 hx256
            have e9 : (x' :: y' :: r').drop 1 = y' :: r' := rfl
            have HLK := Lib.hid hs
            clear hB h0 hs hk hn1
            generalize rdNum (x' :: y' :: r') = q at *
            generalize num ((y' :: r').take k) = N at *
            unfold failV
            go_enter Try.func41, Try.ntmps41
            go_wp2_with (first
              | ((with_reducible refine wpList_mid Try.byteTypes rfl (.tmp 15) (.const (.int .i64 1)) (.tmp 16) rfl (some ⟨b, off, none⟩) n c 1 (1 + k) rfl rfl _ rfl (by omega) (by omega) (by omega) (by omega) ?_); intro A1 hA1; rw [show 1 + k - 1 = k by omega] at *)
              | (go_at_call 47; refine (HN.out _ _ (hA1 _ _ HBB.out)).mono ?_; rintro e w1 ⟨rfl, rfl⟩))
            go_ret2
            rw [HQ.out]
            exact ⟨by simp, HR.out, Only.refl _ _⟩
end Go.Proofs.Ytjifahocfbbicaa
