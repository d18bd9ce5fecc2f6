/-
  A list of calls that came in, and both ledgers side by side: an Append, a leaf, a head, the proof of a place, of a beginning.
-/
import Derived.Test.YtbpbpdaohganaaaDoorLedL
import Derived.Deep.Strs
import Derived.Deep.Matrix
import Derived.ProofKit
import Derived.ChangeOld
namespace Go.Proofs.YtbpbpdaohganaaaDoor
open Go.ChangeShapes Go.WideShapes Go.ChangeAt Go.RowKit
/-- a call's cells -/
def askC (ki ai an : Int) (T : Option Addr) (m c : Nat) : Array Value := #[.int .i64 ki, .int .i64 ai, .int .i64 an, .slice T m c]
abbrev ask0 : Array Value := #[.int .i64 0, .int .i64 0, .int .i64 0, .slice none 0 0]
theorem askC_size (ki ai an : Int) (T : Option Addr) (m c : Nat) : (askC ki ai an T m c).size = 4 := rfl
theorem askC_one (ki ai an : Int) (T : Option Addr) (m c : Nat) : (askC ki ai an T m c).all (·.oneCell') = true := by simp [askC, Value.oneCell']
theorem Tryd.aggAsk : AggType Tryd.prog 33 4 := ⟨_, Tryd.underlying33, rfl, by kernel_rfl⟩
/-- a list of calls, as it reads -/
def Asks (w : World) (A : Option Addr) (n : Nat) : Prop :=
  ∀ k, k < n → ∃ (b off : Nat) (ki ai an : Int) (T : Option Addr) (m c : Nat) (l : List UInt8), A = some ⟨b, off, none⟩ ∧ b < w.heap.size ∧ w.rangeAt b (off + 4 * k) (askC ki ai an T m c).toList ∧ Bs w T m l ∧ m ≤ c
theorem open_bsC {H : Type} {enc : TypeId × Value → H} {W : World} {fuel : Nat} {cs : List Value} {x : DataW H × List MemPlace}
    (hf : DataW.trod enc Tryd.prog W 0 (fun _ => true) true fuel 31 cs = some x) : ∃ (a0 : Option Addr) (len cap : Nat) (l : List UInt8), cs = [.slice a0 len cap] ∧ Bs W a0 len l ∧ len ≤ cap := by
  rcases open_ints Tryd.underlying31 Tryd.underlying5 (by kernel_rfl) hf with ⟨hcs, _⟩ | ⟨x, l, c, zs, hcs, _, hl, hm, hz, hx, hcell, hwz⟩
  · exact ⟨none, 0, 0, [], hcs, Bs.nil _ _, Nat.le_refl _⟩
  · have hz' : zs.length = c := by simpa using hz
    exact ⟨_, _, _, _, hcs, Bs.of_ints hl hz' hcell hwz, hl⟩
theorem list4 {α : Type} : ∀ (l : List α), l.length = 4 → ∃ a b c d, l = [a, b, c, d]
  | [a, b, c, d], _ => ⟨a, b, c, d, rfl⟩
theorem trod_struct4 {H : Type} {enc : TypeId × Value → H} {W : World} {t : TypeId} {f0 f1 f2 f3 : Field} {fuel : Nat} {cs : List Value} {x : DataW H × List MemPlace} (ht : Tryd.prog.underlying t = some (.struct #[f0, f1, f2, f3]))
    (h : DataW.trod enc Tryd.prog W 0 (fun _ => true) true fuel t cs = some x) : ∃ y0 y1 y2 y3 n, DataW.trod enc Tryd.prog W 0 (fun _ => true) true n f0.type ((cs.drop f0.offset).take (Tryd.prog.cellsOf f0.type)) = some y0 ∧
      DataW.trod enc Tryd.prog W 0 (fun _ => true) true n f1.type ((cs.drop f1.offset).take (Tryd.prog.cellsOf f1.type)) = some y1 ∧ DataW.trod enc Tryd.prog W 0 (fun _ => true) true n f2.type ((cs.drop f2.offset).take (Tryd.prog.cellsOf f2.type)) = some y2 ∧
      DataW.trod enc Tryd.prog W 0 (fun _ => true) true n f3.type ((cs.drop f3.offset).take (Tryd.prog.cellsOf f3.type)) = some y3 := by
  obtain ⟨xs, n, _, rfl, hl, hlen, hf⟩ := DataW.trod_struct ht h
  match xs, hlen with
  | [y0, y1, y2, y3], _ => exact ⟨y0, y1, y2, y3, n, by simpa using hf 0 f0 rfl, by simpa using hf 1 f1 rfl, by simpa using hf 2 f2 rfl, by simpa using hf 3 f3 rfl⟩
set_option maxRecDepth 100000 in
theorem ask_parts {H : Type} {enc : TypeId × Value → H} {W : World} {fuel : Nat} {cs : List Value} {x : DataW H × List MemPlace} (hl : cs.length = 4)
    (h : DataW.trod enc Tryd.prog W 0 (fun _ => true) true fuel 33 cs = some x) : ∃ (ki ai an : Int) (T : Option Addr) (m c : Nat) (l : List UInt8), cs = (askC ki ai an T m c).toList ∧ Bs W T m l ∧ m ≤ c := by
  have c3 : Tryd.prog.cellsOf 3 = 1 := by kernel_rfl
  have c31 : Tryd.prog.cellsOf 31 = 1 := by kernel_rfl
  obtain ⟨y0, y1, y2, y3, n, t0, t1, t2, t3⟩ := trod_struct4 Tryd.underlying33 h
  obtain ⟨v0, v1, v2, v3, rfl⟩ := list4 cs hl
  have g0 : DataW.trod enc Tryd.prog W 0 (fun _ => true) true n 3 [v0] = some y0 := by rw [c3] at t0; exact t0
  have g1 : DataW.trod enc Tryd.prog W 0 (fun _ => true) true n 3 [v1] = some y1 := by rw [c3] at t1; exact t1
  have g2 : DataW.trod enc Tryd.prog W 0 (fun _ => true) true n 3 [v2] = some y2 := by rw [c3] at t2; exact t2
  have g3 : DataW.trod enc Tryd.prog W 0 (fun _ => true) true n 31 [v3] = some y3 := by rw [c31] at t3; exact t3
  obtain ⟨i, hi, _, _⟩ := DataW.trod_int Tryd.underlying3 g0
  obtain ⟨j, hj, _, _⟩ := DataW.trod_int Tryd.underlying3 g1
  obtain ⟨k, hk, _, _⟩ := DataW.trod_int Tryd.underlying3 g2
  obtain ⟨T, m, c, l, e1, hT, hT2⟩ := open_bsC g3
  simp only [List.cons.injEq, and_true] at hi hj hk e1
  subst hi hj hk e1
  exact ⟨i, j, k, T, m, c, l, rfl, hT, hT2⟩
set_option maxRecDepth 100000 in
theorem open_asks {H : Type} {enc : TypeId × Value → H} {W : World} {base : Nat} {v : Value} {d : DataW H} {p : List MemPlace} (hv : Value.okWide Tryd.prog W .any base 22 v)
    (h : DataW.Trod enc Tryd.prog W 0 (fun _ => true) true 22 v d p) : ∃ (a0 : Option Addr) (len cap : Nat), v = .slice a0 len cap ∧ Asks W a0 len := by
  obtain ⟨a0, len, cap, rfl⟩ := okWide_slice Tryd.underlying22 hv
  obtain ⟨fuel, hf⟩ := h
  have c33 : Tryd.prog.cellsOf 33 = 4 := by kernel_rfl
  rcases Deep.open_slice Tryd.underlying22 hf with ⟨hcs, _⟩ | ⟨a, len', cap', m, n, D, Pl, hcs, _, hl, _, hmm, _, hel⟩
  · simp [Value.cells] at hcs
    obtain ⟨rfl, rfl, rfl⟩ := hcs
    exact ⟨_, _, _, rfl, fun k hk => absurd hk (Nat.not_lt_zero _)⟩
  · simp [Value.cells] at hcs
    obtain ⟨rfl, rfl, rfl⟩ := hcs
    simp only [if_true] at hmm
    subst hmm
    refine ⟨_, _, _, rfl, fun k hk => ?_⟩
    obtain ⟨b, off, spot⟩ := a
    have hspot : spot = none := by
      obtain ⟨cs0, p1, _⟩ := hel 0 (by omega)
      rw [c33] at p1
      obtain ⟨_, hl0, hc0⟩ := World.cells?_some p1
      have z := hc0 0 (by omega)
      rw [List.getElem?_eq_getElem (by omega)] at z
      simpa [Addr.add] using World.cell?_spot z
    subst hspot
    obtain ⟨cs', h1, h2⟩ := hel k (by omega)
    rw [c33] at h1
    obtain ⟨_, hlen, hcell⟩ := World.cells?_some h1
    obtain ⟨ki, ai, an, T, m1, c1, l, rfl, hT, hT2⟩ := ask_parts hlen h2
    have hr : W.rangeAt b (off + 4 * k) (askC ki ai an T m1 c1).toList := fun j u hu => by
      have hj : j < 4 := by have := (List.getElem?_eq_some_iff.1 hu).1; simpa [askC] using this
      have q := hcell j hj
      rw [Addr.add_mid, Addr.add_mid, hu, Nat.mul_comm k 4] at q
      exact q
    have q0 := hr 0 _ rfl
    exact ⟨b, off, ki, ai, an, T, m1, c1, l, rfl, World.block_lt_of_cell? W _ q0, hr, hT, hT2⟩
theorem run_indexK (b off n c k : Nat) (z : Int) (hz : z = k) (hk : k < n) (w : World) : (Instr.indexAt 22 (.slice (some ⟨b, off, none⟩) n c) (.int .i64 z)).run Tryd.prog w = .ok (.pointer (some ⟨b, off + 4 * k, none⟩)) w := by
  subst hz
  have h1 : (0 : Int) ≤ (k : Int) ∧ (k : Int) < (n : Int) := by omega
  simp [Instr.indexAt, asIntOf, run_underlying Tryd.underlying22, h1, Addr.add_mid, hk, Nat.mul_comm]
theorem wpList_indexK {ops : Array Oper} {rest : List Oper} {o : Oper} {a : Act} {w : World} {Q : Exit → Act → World → Prop} (hgd : o.guard = none) (x y : Operand) (ho : o.op = .indexAddr 22 x y) (b off n c k at' : Nat) (z : Int)
    (hx : a.eval x = .slice (some ⟨b, off, none⟩) n c) (hy : a.eval y = .int .i64 z) (hz : z = k) (hk : k < n) (hat : off + 4 * k = at')
    (h : wpList Tryd.prog ops Q rest (a.put o.dst (.pointer (some ⟨b, at', none⟩))) w) : wpList Tryd.prog ops Q (o :: rest) a w :=
  wpList_plain hgd fun _ hK => by
    subst hat
    unfold Oper.wp execOp
    simp only [ho, hx, hy, Sem.run_bind, run_indexK b off n c k z hz hk, Result.andThen_ok]
    exact hK _ _ h
theorem wpList_loadK {ops : Array Oper} {rest : List Oper} {o : Oper} {a : Act} {w : World} {Q : Exit → Act → World → Prop} (hgd : o.guard = none) (x : Operand) (ho : o.op = .load 33 x) (b off : Nat) (ki ai an : Int) (T : Option Addr) (m c : Nat)
    (hx : a.eval x = .pointer (some ⟨b, off, none⟩)) (hc : w.rangeAt b off (askC ki ai an T m c).toList)
    (h : wpList Tryd.prog ops Q rest (a.put o.dst (.agg (askC ki ai an T m c))) w) : wpList Tryd.prog ops Q (o :: rest) a w :=
  wpList_load_mid hgd 33 x ho b off hx _ _ hc Tryd.underlying33 rfl (by show (Tryd.prog.info? 33).map (·.size) = some 4; kernel_rfl) h
theorem yields_len27 {ops : Array Oper} {S : World → Prop} {o : Oper} {a : Act} (hw : Region.wanted o (yielded ops a.tmps) = true) (x : Operand) (ho : o.op = .call { callee := .builtin .len, args := #[x], argTypes := #[27] }) (A : Option Addr) (n c : Nat)
    (hx : a.eval x = .slice A n c) : YieldsIf Tryd.prog ops S o (.int .i64 (n : Int)) a :=
  .inl ⟨hw, fun w _ => by
    unfold execOp
    simp [ho, resolve, invoke, builtin, hx, Builtin.len_, run_underlying Tryd.underlying27]
    rfl⟩
set_option maxRecDepth 100000 in
theorem yields_loadL {ops : Array Oper} {S : World → Prop} {o : Oper} {a : Act} (hw : Region.wanted o (yielded ops a.tmps) = true) (x : Operand) (ho : o.op = .load 27 x) (b k : Nat) (v : Value)
    (hx : a.eval x = .pointer (some ⟨b, k, none⟩)) (hS : ∀ w, S w → w.cell? ⟨b, k, none⟩ = some v) : YieldsIf Tryd.prog ops S o v a :=
  .inl ⟨hw, fun w h => by
    have hc := hS w h
    unfold execOp
    simp only [ho, hx]
    go_simp⟩
theorem Grew.refl {w : World} {g n : Nat} {F : Nat → Prop} {L : List (List UInt8)} (h : Led w g F n L) : Grew w g n F L w := ⟨⟨F, fun _ q => .inl q, h⟩, Off.of_below (Below.refl _ _)⟩
theorem GrewM.refl {w : World} {g n : Nat} {F : Nat → Prop} {L : List (List UInt8)} (h : LedM w g F n L) : GrewM w g n F L w := ⟨⟨F, fun _ q => .inl q, h⟩, Off.of_below (Below.refl _ _)⟩
theorem map_digs (L : List (List UInt8)) : Digs (L.map leafL) := fun d hd => by simp only [List.mem_map] at hd; obtain ⟨l, _, rfl⟩ := hd; exact leafL_length l
/-- an Append by both -/
theorem app_pair (g gm N m : Nat) (L : List (List UInt8)) (l : List UInt8) (hN : N ≤ 60) (hl : l.length = m) (hL : ∀ x ∈ L, x.length ≤ 4096) : ∃ (p E : Int) (N' : Nat) (L' : List (List UInt8)), N' ≤ N + 1 ∧ (∀ x ∈ L', x.length ≤ 4096) ∧
    (∀ A c F w, Led w g F N L → Bs w A m l → (∀ b off, A = some ⟨b, off, none⟩ → ¬ F b) → m ≤ c → Tab 1 w → ¬ F 1 → Calls Tryd.prog 12 #[.pointer (some ⟨g, 0, none⟩), .slice A m c] w fun e w' => e = .returned (.tuple #[.int .i64 p, .int .i64 E]) ∧ Grew w g N' F L' w') ∧
    (∀ A c F w, LedM w gm F N L → Bs w A m l → (∀ w', Off F w w' → Bs w' A m l) → First w → Tab 4 w → ¬ F 0 → ¬ F 4 → Calls Tryd.prog 14 #[.pointer (some ⟨gm, 0, none⟩), .slice A m c] w fun e w' => e = .returned (.tuple #[.int .i64 p, .int .i64 E]) ∧ GrewM w gm N' F L' w') := by
  rcases Nat.lt_or_ge 4096 m with h | h
  · exact ⟨0, 42, N, L, by omega, hL, fun A c F w hh _ _ _ _ _ => (App_long g m c A w h).mono fun e w' ⟨q1, q2⟩ => by subst q2; exact ⟨q1, Grew.refl hh⟩, fun A c F w hh _ _ _ _ _ _ => (MApp_long gm m c A w h).mono fun e w' ⟨q1, q2⟩ => by subst q2; exact ⟨q1, GrewM.refl hh⟩⟩
  · exact ⟨N, 0, N + 1, L ++ [l], Nat.le_refl _, fun x hx => by rcases List.mem_append.1 hx with q | q; exact hL x q; simp at q; subst q; omega, fun A c F w hh hB hA hmc hT hT1 => App_ok g N m c A F L l w hh hB hA hmc h (by omega) hT hT1, fun A c F w hh hB hA hF hT hT0 hT4 => MApp_ok gm N m c A F L l w hh hB hA h (by omega) hF hT hT0 hT4⟩
/-- a leaf of both -/
theorem leaf_pair (g gm N : Nat) (z : Int) (L : List (List UInt8)) (hlen : L.length = N) (hL : ∀ x ∈ L, x.length ≤ 4096) : ∃ (m : Nat) (l : List UInt8) (E : Int), m ≤ 4096 ∧
    (∀ F w, Led w g F N L → Calls Tryd.prog 15 #[.pointer (some ⟨g, 0, none⟩), .int .i64 z] w fun e w' => ∃ A c, e = .returned (.tuple #[.slice A m c, .int .i64 E]) ∧ Bs w' A m l ∧ Below w.heap.size w w') ∧
    (∀ F w, LedM w gm F N L → Calls Tryd.prog 16 #[.pointer (some ⟨gm, 0, none⟩), .int .i64 z] w fun e w' => ∃ A c, e = .returned (.tuple #[.slice A m c, .int .i64 E]) ∧ Bs w A m l ∧ w = w') := by
  by_cases h : z < 0 ∨ (N : Int) ≤ z
  · refine ⟨0, [], 1, by omega, fun F w hh => (LLeaf_no g N z F L w hh h).mono ?_, fun F w hh => (MLeaf_no gm N z F L w hh h).mono ?_⟩
    · rintro e w' ⟨A, c, rfl, _, ho, hb⟩
      exact ⟨A, c, rfl, ho.bs, hb⟩
    · rintro e w' ⟨rfl, rfl⟩
      exact ⟨none, 0, rfl, Bs.nil _ _, rfl⟩
  · obtain ⟨k, rfl⟩ := Int.eq_ofNat_of_zero_le (show 0 ≤ z by omega)
    have hk : k < L.length := by omega
    have hx := List.getElem?_eq_getElem hk
    have hle := hL _ (List.getElem_mem hk)
    generalize L[k] = l at hx hle
    refine ⟨l.length, l, 0, hle, fun F w hh => (LLeaf_ok g N k l F L w hh hx (by omega)).mono ?_, fun F w hh => (MLeaf_ok gm N k l F L w hh hx).mono ?_⟩
    · rintro e w' ⟨A, c, rfl, _, ho, hb⟩
      exact ⟨A, c, rfl, ho.bs, hb⟩
    · rintro e w' ⟨A, c, rfl, hB, rfl⟩
      exact ⟨A, c, rfl, hB, rfl⟩
/-- a head of both -/
theorem head_pair (g gm N : Nat) (z : Int) (L : List (List UInt8)) (hN : N ≤ 1024) : ∃ (n : Int) (d : List UInt8) (E : Int), d.length = 32 ∧
    (∀ F w, Led w g F N L → Tab 1 w → Calls Tryd.prog 18 #[.pointer (some ⟨g, 0, none⟩), .int .i64 z] w (HeadR w n d E)) ∧
    (∀ F w, LedM w gm F N L → First w → Tab 4 w → Calls Tryd.prog 19 #[.pointer (some ⟨gm, 0, none⟩), .int .i64 z] w (HeadR w n d E)) := by
  by_cases h : z < 0 ∨ (N : Int) < z
  · exact ⟨0, zero32, 1, zero32_length, fun F w hh _ => Head_no g N z F L w hh h, fun F w hh _ _ => MHead_no gm N z F L w hh h⟩
  · obtain ⟨k, rfl⟩ := Int.eq_ofNat_of_zero_le (show 0 ≤ z by omega)
    exact ⟨k, _, 0, rootL_length _ ((map_digs L).take k), fun F w hh hT => Head_ok g N k F L w hh (by omega) (by omega) hT, fun F w hh hF hT => MHead_ok gm N k F L w hh (by omega) hN hF hT⟩
/-- the proof of a place, of both -/
theorem inc_pair (g gm N : Nat) (i z : Int) (L : List (List UInt8)) (hN : N ≤ 1024) : ∃ (P : List (List UInt8)) (E : Int), P.length ≤ 20 ∧
    (∀ F w, Led w g F N L → Tab 1 w → Calls Tryd.prog 20 #[.pointer (some ⟨g, 0, none⟩), .int .i64 i, .int .i64 z] w (NewD w P E)) ∧
    (∀ F w, LedM w gm F N L → First w → Tab 4 w → Calls Tryd.prog 21 #[.pointer (some ⟨gm, 0, none⟩), .int .i64 i, .int .i64 z] w (NewD w P E)) := by
  by_cases h : z < 0 ∨ (N : Int) < z
  · exact ⟨[], 1, by simp, fun F w hh _ => LInclude_no g N i z F L w hh h, fun F w hh _ _ => MInclude_no gm N i z F L w hh h⟩
  · obtain ⟨k, rfl⟩ := Int.eq_ofNat_of_zero_le (show 0 ≤ z by omega)
    exact ⟨_, _, incI_length _ i (by rw [List.length_take]; omega), fun F w hh hT => LInclude_ok g N k i F L w hh (by omega) (by omega) hT, fun F w hh hF hT => MInclude_ok gm N k i F L w hh (by omega) hN hF hT⟩
/-- the proof of a beginning, of both -/
theorem con_pair (g gm N : Nat) (i z : Int) (L : List (List UInt8)) (hN : N ≤ 1024) : ∃ (P : List (List UInt8)) (E : Int), P.length ≤ 20 ∧
    (∀ F w, Led w g F N L → Tab 1 w → Calls Tryd.prog 23 #[.pointer (some ⟨g, 0, none⟩), .int .i64 i, .int .i64 z] w (NewD w P E)) ∧
    (∀ F w, LedM w gm F N L → First w → Tab 4 w → Calls Tryd.prog 24 #[.pointer (some ⟨gm, 0, none⟩), .int .i64 i, .int .i64 z] w (NewD w P E)) := by
  by_cases h : z < 0 ∨ (N : Int) < z
  · exact ⟨[], 1, by simp, fun F w hh _ => LConsist_no g N i z F L w hh h, fun F w hh _ _ => MConsist_no gm N i z F L w hh h⟩
  · obtain ⟨k, rfl⟩ := Int.eq_ofNat_of_zero_le (show 0 ≤ z by omega)
    exact ⟨_, _, conI_length _ i (by rw [List.length_take]; omega), fun F w hh hT => LConsist_ok g N k i F L w hh (by omega) (by omega) hT, fun F w hh hF hT => MConsist_ok gm N k i F L w hh (by omega) hN hF hT⟩
theorem zeroK : (Tryd.prog.info? 33).map (fun i => (i.zero, i.size)) = some (some (.agg ask0), 4) := by kernel_rfl
theorem run_allocK (w : World) : (Instr.alloc 33 true (.tuple #[])).run Tryd.prog w = .ok (.pointer (some ⟨w.heap.size, 0, none⟩)) (w.alloc (.cells ask0 33)) := by
  have hz := (zero_of_info zeroK).1 w
  simp [Instr.alloc, hz, newVar, newRow, Value.cells]
theorem wpList_allocK {ops : Array Oper} {rest : List Oper} {o : Oper} {a : Act} {w : World} {Q : Exit → Act → World → Prop} (hgd : o.guard = none) (ho : o.op = .alloc 33)
    (h : ∀ g w', g = w.heap.size → Row w' g 33 ask0 → Below w.heap.size w w' → wpList Tryd.prog ops Q rest (a.put o.dst (.pointer (some ⟨g, 0, none⟩))) w') : wpList Tryd.prog ops Q (o :: rest) a w := by
  refine wpList_plain hgd fun K hK => ?_
  unfold Oper.wp execOp
  simp only [ho, Sem.run_bind, run_allocK, Result.andThen_ok]
  exact hK _ _ (h _ _ rfl (Row.new w 33 ask0) ((Below.refl _ _).alloc (Nat.le_refl _) _))
theorem ask0_size : ask0.size = 4 := rfl
theorem ask_cells {w : World} {g : Nat} {ki ai an : Int} {T : Option Addr} {m c : Nat} (h : Row w g 33 (askC ki ai an T m c)) : w.cell? ⟨g, 0, none⟩ = some (.int .i64 ki) ∧ w.cell? ⟨g, 1, none⟩ = some (.int .i64 ai) ∧ w.cell? ⟨g, 2, none⟩ = some (.int .i64 an) ∧ w.cell? ⟨g, 3, none⟩ = some (.slice T m c) :=
  ⟨h.cell 0, h.cell 1, h.cell 2, h.cell 3⟩
end Go.Proofs.YtbpbpdaohganaaaDoor
