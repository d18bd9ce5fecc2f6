/-
  A vault's steps are made; a list of steps is run up to the first error.
-/
import Derived.Test.YtgiobcpljbpmiaaDoorVltC
namespace Go.Proofs.YtgiobcpljbpmiaaDoor
open Go.RowKit
/-- a step with its two variables -/
def Clo (w : World) (B N v : Nat) (z : Int) (f : Value) : Prop :=
  ∃ b1 b2, f = .func (.func N) #[] #[.pointer (some ⟨b1, 0, none⟩), .pointer (some ⟨b2, 0, none⟩)] ∧ B ≤ b1 ∧ B ≤ b2 ∧ Row w b1 27 #[.pointer (some ⟨v, 0, none⟩)] ∧ Row w b2 3 #[.int .i64 z]
theorem Clo.below {w w' : World} {B N v : Nat} {z : Int} {f : Value} (h : Clo w B N v z f) (hb : Below w.heap.size w w') : Clo w' B N v z f := by
  obtain ⟨b1, b2, h0, h1, h2, h3, h4⟩ := h
  exact ⟨b1, b2, h0, h1, h2, h3.below hb h3.lt, h4.below hb h4.lt⟩
theorem Clo.mono {w : World} {B B' N v : Nat} {z : Int} {f : Value} (h : Clo w B N v z f) (hb : B' ≤ B) : Clo w B' N v z f := by
  obtain ⟨b1, b2, h0, h1, h2, h3, h4⟩ := h
  exact ⟨b1, b2, h0, Nat.le_trans hb h1, Nat.le_trans hb h2, h3, h4⟩
/-- a step that puts a frame -/
def CloP (w : World) (B v : Nat) (z : Int) (q : Nat) (t : List UInt8) (f : Value) : Prop :=
  ∃ b1 b2 b3 A n c, f = .func (.func 57) #[] #[.pointer (some ⟨b1, 0, none⟩), .pointer (some ⟨b2, 0, none⟩), .pointer (some ⟨b3, 0, none⟩)] ∧ B ≤ b1 ∧ B ≤ b2 ∧ B ≤ b3 ∧ Row w b1 27 #[.pointer (some ⟨v, 0, none⟩)] ∧ Row w b2 3 #[.int .i64 z] ∧ Row w b3 68 #[.int .i64 (q : Int), .slice A n c] ∧ Own w B 5 (.slice A n c) n t
theorem CloP.below {w w' : World} {B v q : Nat} {z : Int} {t : List UInt8} {f : Value} (h : CloP w B v z q t f) (hb : Below w.heap.size w w') : CloP w' B v z q t f := by
  obtain ⟨b1, b2, b3, A, n, c, h0, h1, h2, h3, h4, h5, h6, h7⟩ := h
  exact ⟨b1, b2, b3, A, n, c, h0, h1, h2, h3, h4.below hb h4.lt, h5.below hb h5.lt, h6.below hb h6.lt, h7.below hb⟩
def MadeF (w : World) (N v : Nat) (z : Int) (e : Ending) (w' : World) : Prop := ∃ f, e = .returned f ∧ Clo w' w.heap.size N v z f ∧ Below w.heap.size w w'
set_option maxRecDepth 100000 in
theorem sync_any (v : Nat) (z : Int) (w : World) : Calls Tryd.prog 35 #[.pointer (some ⟨v, 0, none⟩), .int .i64 z] w (MadeF w 54 v z) := by
  have hmf : ∀ (fn : Fn) (first cap : Array Value) (w : World), (Instr.makeFunc fn first cap).run Tryd.prog w = .ok (.func fn first cap) w := fun _ _ _ _ => rfl
  go_enter Tryd.func35, Tryd.ntmps35
  go_wp2
  go_ret
  have hb := (Below.refl w.heap.size w).alloc (Nat.le_refl _) (.cells #[.pointer (some ⟨v, 0, none⟩)] 27)
  have h1 := (Row.new w 27 #[.pointer (some ⟨v, 0, none⟩)]).alloc (.cells #[.int .i64 z] 3)
  have h2 := Row.new (w.alloc (.cells #[.pointer (some ⟨v, 0, none⟩)] 27)) 3 #[.int .i64 z]
  exact ⟨_, rfl, ⟨_, _, rfl, Nat.le_refl _, by simp, h1, by simpa using h2⟩, hb.alloc (by simp) _⟩
set_option maxRecDepth 100000 in
theorem empty_any (v : Nat) (z : Int) (w : World) : Calls Tryd.prog 41 #[.pointer (some ⟨v, 0, none⟩), .int .i64 z] w (MadeF w 58 v z) := by
  have hmf : ∀ (fn : Fn) (first cap : Array Value) (w : World), (Instr.makeFunc fn first cap).run Tryd.prog w = .ok (.func fn first cap) w := fun _ _ _ _ => rfl
  go_enter Tryd.func41, Tryd.ntmps41
  go_wp2
  go_ret
  have hb := (Below.refl w.heap.size w).alloc (Nat.le_refl _) (.cells #[.pointer (some ⟨v, 0, none⟩)] 27)
  have h1 := (Row.new w 27 #[.pointer (some ⟨v, 0, none⟩)]).alloc (.cells #[.int .i64 z] 3)
  have h2 := Row.new (w.alloc (.cells #[.pointer (some ⟨v, 0, none⟩)] 27)) 3 #[.int .i64 z]
  exact ⟨_, rfl, ⟨_, _, rfl, Nat.le_refl _, by simp, h1, by simpa using h2⟩, hb.alloc (by simp) _⟩
set_option maxRecDepth 100000 in
theorem recall_any (v : Nat) (z : Int) (w : World) : Calls Tryd.prog 33 #[.pointer (some ⟨v, 0, none⟩), .int .i64 z] w (MadeF w 49 v z) := by
  have hmf : ∀ (fn : Fn) (first cap : Array Value) (w : World), (Instr.makeFunc fn first cap).run Tryd.prog w = .ok (.func fn first cap) w := fun _ _ _ _ => rfl
  go_enter Tryd.func33, Tryd.ntmps33
  go_wp2
  go_ret
  have hb := (Below.refl w.heap.size w).alloc (Nat.le_refl _) (.cells #[.pointer (some ⟨v, 0, none⟩)] 27)
  have h1 := (Row.new w 27 #[.pointer (some ⟨v, 0, none⟩)]).alloc (.cells #[.int .i64 z] 3)
  have h2 := Row.new (w.alloc (.cells #[.pointer (some ⟨v, 0, none⟩)] 27)) 3 #[.int .i64 z]
  exact ⟨_, rfl, ⟨_, _, rfl, Nat.le_refl _, by simp, h1, by simpa using h2⟩, hb.alloc (by simp) _⟩
set_option maxRecDepth 100000 in
theorem put_any (v q B n c : Nat) (z : Int) (A : Option Addr) (t : List UInt8) (w : World) (hO : Own w B 5 (.slice A n c) n t) (hB : B ≤ w.heap.size) :
    Calls Tryd.prog 39 #[.pointer (some ⟨v, 0, none⟩), .int .i64 z, .agg #[.int .i64 (q : Int), .slice A n c]] w fun e w' => ∃ f, e = .returned f ∧ CloP w' B v z q t f ∧ Below w.heap.size w w' := by
  have hmf : ∀ (fn : Fn) (first cap : Array Value) (w : World), (Instr.makeFunc fn first cap).run Tryd.prog w = .ok (.func fn first cap) w := fun _ _ _ _ => rfl
  have HO := Lib.hid hO
  clear hO
  go_enter Tryd.func39, Tryd.ntmps39
  go_wp2
  go_ret
  have hb1 := (Below.refl w.heap.size w).alloc (Nat.le_refl _) (.cells #[.pointer (some ⟨v, 0, none⟩)] 27)
  have hb2 := hb1.alloc (by simp) (.cells #[.int .i64 z] 3)
  have hb3 := hb2.alloc hb2.size (.cells #[.int .i64 (q : Int), .slice A n c] 68)
  have h1 := ((Row.new w 27 #[.pointer (some ⟨v, 0, none⟩)]).alloc (.cells #[.int .i64 z] 3)).alloc (.cells #[.int .i64 (q : Int), .slice A n c] 68)
  have h2 := (Row.new (w.alloc (.cells #[.pointer (some ⟨v, 0, none⟩)] 27)) 3 #[.int .i64 z]).alloc (.cells #[.int .i64 (q : Int), .slice A n c] 68)
  have h3 := Row.new ((w.alloc (.cells #[.pointer (some ⟨v, 0, none⟩)] 27)).alloc (.cells #[.int .i64 z] 3)) 68 #[.int .i64 (q : Int), .slice A n c]
  exact ⟨_, rfl, ⟨_, _, _, A, n, c, rfl, hB, Nat.le_trans hB (by omega), Nat.le_trans hB (by omega), h1, by simpa using h2, by simpa using h3, HO.out.below hb3⟩, hb3⟩
/-! a list of steps -/
abbrev vDown : Array Value := #[.pointer none, .int .i64 0, .slice none 0 0, .slice none 0 0, .bool true]
theorem Tryd.agg70 : AggType Tryd.prog 70 5 := ⟨_, Tryd.underlying70, rfl, by kernel_rfl⟩
theorem vDown_one : vDown.all (·.oneCell') = true := by simp [vDown, Value.oneCell']
theorem vDown_size : vDown.size = 5 := rfl
theorem wpList_storeDown {ops : Array Oper} {rest : List Oper} {op : Oper} {a : Act} {w : World} {Q : Exit → Act → World → Prop} (hgd : op.guard = none) (x y : Operand) (ho : op.op = .store 70 x y)
    (v : Nat) (hx : a.eval x = .pointer (some ⟨v, 0, none⟩)) (hy : a.eval y = .agg vDown) (hr : ∃ cs, Row w v 70 cs ∧ cs.size = 5)
    (h : ∀ w', Row w' v 70 vDown → Only v w w' → wpList Tryd.prog ops Q rest (a.put op.dst undef) w') : wpList Tryd.prog ops Q (op :: rest) a w := by
  obtain ⟨cs, hr, hs⟩ := hr
  exact wpList_store_row Tryd.agg70 hgd x y ho v vDown hx hy 70 cs hr vDown_size hs vDown_one h
set_option maxRecDepth 100000 in
set_option maxHeartbeats 2000000 in
theorem run_any (v n b c : Nat) (fs : Nat → Value) (I : Nat → World → Prop) (K : Int → World → Prop) (w : World) (hn : n ≤ 100) (h0 : I 0 w)
    (hc : ∀ k wr, k < n → I k wr → wr.cell? ⟨b, k, none⟩ = some (fs k))
    (hf : ∀ k, k < n → ∃ N us vs, fs k = .func (.func N) us vs ∧ (∀ xs w, (callFunc N xs).run Tryd.prog w = .ok (.enter N xs) w) ∧ ∀ wr, I k wr → Calls Tryd.prog N (us ++ vs) wr fun e w' => ∃ x, e = .returned (.int .i64 x) ∧ (x = 0 → I (k + 1) w') ∧ (x ≠ 0 → K x w'))
    (hd : ∀ wr, K 100 wr → ∃ cs, Row wr v 70 cs ∧ cs.size = 5) :
    Calls Tryd.prog 32 #[.pointer (some ⟨v, 0, none⟩), .slice (some ⟨b, 0, none⟩) n c] w fun e w' => (e = .returned (.int .i64 0) ∧ I n w') ∨ ∃ x w1, x ≠ 0 ∧ e = .returned (.int .i64 x) ∧ K x w1 ∧ ((x ≠ 100 ∧ w1 = w') ∨ (x = 100 ∧ Row w' v 70 vDown ∧ Only v w1 w')) := by
  have HC := Lib.hid hc
  have HF := Lib.hid hf
  have HD := Lib.hid hd
  have HI := Lib.hid h0
  clear hc hf hd h0
  go_enter Tryd.func32, Tryd.ntmps32
  go_wp2_with fail
  go_loopw [10] (fun i wr => ∃ k : Nat, k ≤ n ∧ i = .int .i64 (k : Int) ∧ Hid (I k wr)) (fun i _ => n - (intOf i).toNat)
  case atStart => exact ⟨0, Nat.zero_le _, rfl, HI⟩
  case round =>
    obtain ⟨k, hk, rfl, HIk⟩ := hrel
    clear HI
    by_cases hlt : k < n
    · have hcell := HC.out k wr hlt HIk.out
      obtain ⟨N, us, vs, hfk, hen, hcl⟩ := HF.out k hlt
      rw [hfk] at hcell
      have HCl := Lib.hid (hcl wr HIk.out)
      clear hcl hfk HC HF HIk
      go_wp2_with (first
        | ((with_reducible refine HCl.out.mono ?_); rintro e1 w1 ⟨x, rfl, hx0, hxK⟩; have HX0 := Lib.hid hx0; have HXK := Lib.hid hxK; have HRW : Hid ((x == 100) = true → ∃ cs, Row w1 v 70 cs ∧ cs.size = 5) := Lib.hid (fun e => (have e2 : x = 100 := eq_of_beq e; HD.out w1 (e2 ▸ hxK (by omega)))); clear hx0 hxK)
        | ((with_reducible refine wpList_storeDown rfl (.tmp 20) (.tmp 19) rfl v rfl rfl (HRW.out (by assumption)) ?_); intro w9 hr9 ho9; have HR9 := Lib.hid hr9; clear hr9))
      · have hx : (x == 100) = true := by assumption
        obtain rfl : x = 100 := eq_of_beq hx
        go_ret
        exact .inr ⟨100, w1, by omega, rfl, HXK.out (by omega), .inr ⟨rfl, HR9.out, ho9⟩⟩
      · have h1 : (x == 100) = false := by assumption
        have h2 : (x != 0) = true := by assumption
        go_ret
        exact .inr ⟨x, w1, by simpa using h2, rfl, HXK.out (by simpa using h2), .inl ⟨by simpa using h1, rfl⟩⟩
      · have h2 : (x != 0) = false := by assumption
        exact ⟨⟨k + 1, by omega, by simp, Lib.hid (HX0.out (by simpa using h2))⟩, by simp [intOf]; omega⟩
    · obtain rfl : k = n := by omega
      clear HC HF
      go_wp2_with fail
      go_ret
      exact .inl ⟨rfl, HIk.out⟩
theorem en49 : ∀ xs w, (callFunc 49 xs).run Tryd.prog w = .ok (.enter 49 xs) w := fun _ _ => by kernel_rfl
theorem en34 : ∀ xs w, (callFunc 34 xs).run Tryd.prog w = .ok (.enter 34 xs) w := fun _ _ => by kernel_rfl
theorem en54 : ∀ xs w, (callFunc 54 xs).run Tryd.prog w = .ok (.enter 54 xs) w := fun _ _ => by kernel_rfl
theorem en57 : ∀ xs w, (callFunc 57 xs).run Tryd.prog w = .ok (.enter 57 xs) w := fun _ _ => by kernel_rfl
theorem en58 : ∀ xs w, (callFunc 58 xs).run Tryd.prog w = .ok (.enter 58 xs) w := fun _ _ => by kernel_rfl
end Go.Proofs.YtgiobcpljbpmiaaDoor
