/-
  A list of calls that came in; more than is played (Long); a tape behind calls (played).
-/
import Derived.Test.YtgiobcpljbpmiaaDoorVltO
namespace Go.Proofs.YtgiobcpljbpmiaaDoor
open Go.ChangeShapes Go.WideShapes Go.ChangeAt Go.RowKit
/-- a call, as it reads -/
structure Cl where
  kind : Int
  b : List UInt8
  kept : List Int
def clC (ki : Int) (T : Option Addr) (m c : Nat) (I : Option Addr) (p d : Nat) : Array Value := #[.int .i64 ki, .slice T m c, .slice I p d]
abbrev cl0 : Array Value := #[.int .i64 0, .slice none 0 0, .slice none 0 0]
theorem clC_size (ki : Int) (T : Option Addr) (m c : Nat) (I : Option Addr) (p d : Nat) : (clC ki T m c I p d).size = 3 := rfl
theorem cl0_size : cl0.size = 3 := rfl
theorem clC_one (ki : Int) (T : Option Addr) (m c : Nat) (I : Option Addr) (p d : Nat) : (clC ki T m c I p d).all (·.oneCell') = true := by simp [clC, Value.oneCell']
theorem Tryd.agg39 : AggType Tryd.prog 39 3 := ⟨_, Tryd.underlying39, rfl, by kernel_rfl⟩
/-- a list of calls in memory -/
def Cls (w : World) (A : Option Addr) (n : Nat) (L : List Cl) : Prop :=
  L.length = n ∧ ∀ k x, L[k]? = some x → ∃ (b off : Nat) (T : Option Addr) (m c : Nat) (I : Option Addr) (p d : Nat), A = some ⟨b, off, none⟩ ∧ b < w.heap.size ∧ w.rangeAt b (off + 3 * k) (clC x.kind T m c I p d).toList ∧ Bs w T m x.b ∧ m ≤ c ∧ Is w I p x.kept
theorem Cls.nil (w : World) (A : Option Addr) : Cls w A 0 [] := ⟨rfl, fun k x h => by simp at h⟩
theorem Cls.get {w : World} {A : Option Addr} {n k : Nat} {L : List Cl} (h : Cls w A n L) (hk : k < n) : ∃ (x : Cl) (b off : Nat) (T : Option Addr) (m c : Nat) (I : Option Addr) (p d : Nat), L[k]? = some x ∧ A = some ⟨b, off, none⟩ ∧ b < w.heap.size ∧ w.rangeAt b (off + 3 * k) (clC x.kind T m c I p d).toList ∧ Bs w T m x.b ∧ m ≤ c ∧ Is w I p x.kept := by
  have hl : k < L.length := by rw [h.1]; exact hk
  obtain ⟨b, off, T, m, c, I, p, d, q⟩ := h.2 k L[k] (List.getElem?_eq_getElem hl)
  exact ⟨L[k], b, off, T, m, c, I, p, d, List.getElem?_eq_getElem hl, q⟩
theorem Cls.below {w w' : World} {A : Option Addr} {n : Nat} {L : List Cl} (h : Cls w A n L) (hb : Below w.heap.size w w') : Cls w' A n L :=
  ⟨h.1, fun k x hx => by
    obtain ⟨b, off, T, m, c, I, p, d, q1, q2, q3, q4, q5, q6⟩ := h.2 k x hx
    exact ⟨b, off, T, m, c, I, p, d, q1, Nat.lt_of_lt_of_le q2 hb.size, fun j v hv => (hb.cell (p := ⟨b, off + 3 * k + j, none⟩) q2).trans (q3 j v hv), q4.below hb, q5, q6.below hb⟩⟩
theorem open_isC {H : Type} {enc : TypeId × Value → H} {W : World} {fuel : Nat} {cs : List Value} {x : DataW H × List MemPlace}
    (hf : DataW.trod enc Tryd.prog W 0 (fun _ => true) true fuel 37 cs = some x) : ∃ (a0 : Option Addr) (len cap : Nat) (zs : List Int), cs = [.slice a0 len cap] ∧ Is W a0 len zs := by
  rcases open_ints Tryd.underlying37 Tryd.underlying3 (by kernel_rfl) hf with ⟨hcs, _⟩ | ⟨x, l, cap, zs, hcs, _, hl, hm, hz, hx, hcell, hwz⟩
  · exact ⟨none, 0, 0, [], hcs, Is.nil _ _⟩
  · have hz' : zs.length = cap := by simpa using hz
    refine ⟨_, _, _, zs.take l, hcs, by rw [List.length_take]; omega, fun k z hk => ?_⟩
    rw [List.getElem?_take] at hk
    split at hk
    · rename_i hkl
      have hkz : k < zs.length := by omega
      have e2 : zs.getD k 0 = z := by rw [List.getD_eq_getElem?_getD, hk]; rfl
      have h0 := hcell 0 (by omega)
      have hc := hcell k hkz
      rw [e2] at hc
      have hw := bounds_i64 (hwz z (List.mem_of_getElem? hk))
      obtain ⟨b, off, spot⟩ := x
      have hspot : spot = none := by simpa [Addr.add] using World.cell?_spot h0
      subst hspot
      rw [Addr.add_mid] at hc
      exact ⟨b, off, rfl, World.block_lt_of_cell? W _ hc, hc, by have := hw.1; omega, by have := hw.2; omega⟩
    · cases hk
theorem list3 {α : Type} : ∀ (l : List α), l.length = 3 → ∃ a b c, l = [a, b, c]
  | [a, b, c], _ => ⟨a, b, c, rfl⟩
theorem trod_struct3 {H : Type} {enc : TypeId × Value → H} {W : World} {t : TypeId} {f0 f1 f2 : Field} {fuel : Nat} {cs : List Value} {x : DataW H × List MemPlace} (ht : Tryd.prog.underlying t = some (.struct #[f0, f1, f2]))
    (h : DataW.trod enc Tryd.prog W 0 (fun _ => true) true fuel t cs = some x) : ∃ y0 y1 y2 n, DataW.trod enc Tryd.prog W 0 (fun _ => true) true n f0.type ((cs.drop f0.offset).take (Tryd.prog.cellsOf f0.type)) = some y0 ∧
      DataW.trod enc Tryd.prog W 0 (fun _ => true) true n f1.type ((cs.drop f1.offset).take (Tryd.prog.cellsOf f1.type)) = some y1 ∧ DataW.trod enc Tryd.prog W 0 (fun _ => true) true n f2.type ((cs.drop f2.offset).take (Tryd.prog.cellsOf f2.type)) = some y2 := by
  obtain ⟨xs, n, _, rfl, hl, hlen, hf⟩ := DataW.trod_struct ht h
  match xs, hlen with
  | [y0, y1, y2], _ => exact ⟨y0, y1, y2, n, by simpa using hf 0 f0 rfl, by simpa using hf 1 f1 rfl, by simpa using hf 2 f2 rfl⟩
set_option maxRecDepth 100000 in
theorem cl_parts {H : Type} {enc : TypeId × Value → H} {W : World} {fuel : Nat} {cs : List Value} {x : DataW H × List MemPlace} (hl : cs.length = 3)
    (h : DataW.trod enc Tryd.prog W 0 (fun _ => true) true fuel 39 cs = some x) : ∃ (y : Cl) (T : Option Addr) (m c : Nat) (I : Option Addr) (p d : Nat), cs = (clC y.kind T m c I p d).toList ∧ Bs W T m y.b ∧ m ≤ c ∧ Is W I p y.kept := by
  have c3 : Tryd.prog.cellsOf 3 = 1 := by kernel_rfl
  have c32 : Tryd.prog.cellsOf 32 = 1 := by kernel_rfl
  have c37 : Tryd.prog.cellsOf 37 = 1 := by kernel_rfl
  obtain ⟨y0, y1, y2, n, t0, t1, t2⟩ := trod_struct3 Tryd.underlying39 h
  obtain ⟨v0, v1, v2, rfl⟩ := list3 cs hl
  have g0 : DataW.trod enc Tryd.prog W 0 (fun _ => true) true n 3 [v0] = some y0 := by rw [c3] at t0; exact t0
  have g1 : DataW.trod enc Tryd.prog W 0 (fun _ => true) true n 32 [v1] = some y1 := by rw [c32] at t1; exact t1
  have g2 : DataW.trod enc Tryd.prog W 0 (fun _ => true) true n 37 [v2] = some y2 := by rw [c37] at t2; exact t2
  obtain ⟨i, hi, _, _⟩ := DataW.trod_int Tryd.underlying3 g0
  obtain ⟨T, m, c, l, e1, hT, hT2⟩ := open_bsC g1
  obtain ⟨I, p, d, zs, e2, hI⟩ := open_isC g2
  simp only [List.cons.injEq, and_true] at hi e1 e2
  subst hi e1 e2
  exact ⟨⟨i, l, zs⟩, T, m, c, I, p, d, rfl, hT, hT2, hI⟩
set_option maxRecDepth 100000 in
theorem open_cls {H : Type} {enc : TypeId × Value → H} {W : World} {base : Nat} {v : Value} {d : DataW H} {p : List MemPlace} (hv : Value.okWide Tryd.prog W .any base 22 v)
    (h : DataW.Trod enc Tryd.prog W 0 (fun _ => true) true 22 v d p) : ∃ (a0 : Option Addr) (len cap : Nat) (L : List Cl), v = .slice a0 len cap ∧ Cls W a0 len L := by
  obtain ⟨a0, len, cap, rfl⟩ := okWide_slice Tryd.underlying22 hv
  obtain ⟨fuel, hf⟩ := h
  have c39 : Tryd.prog.cellsOf 39 = 3 := by kernel_rfl
  rcases Deep.open_slice Tryd.underlying22 hf with ⟨hcs, _⟩ | ⟨a, len', cap', m, n, D, Pl, hcs, _, hl, _, hmm, _, hel⟩
  · simp [Value.cells] at hcs
    obtain ⟨rfl, rfl, rfl⟩ := hcs
    exact ⟨_, _, _, [], rfl, Cls.nil _ _⟩
  · simp [Value.cells] at hcs
    obtain ⟨rfl, rfl, rfl⟩ := hcs
    simp only [if_true] at hmm
    subst hmm
    obtain ⟨b, off, spot⟩ := a
    have hone : ∀ k, k < len → spot = none ∧ ∃ (y : Cl) (T : Option Addr) (m c : Nat) (I : Option Addr) (p d : Nat), W.rangeAt b (off + 3 * k) (clC y.kind T m c I p d).toList ∧ Bs W T m y.b ∧ m ≤ c ∧ Is W I p y.kept := fun k hk => by
      have hspot : spot = none := by
        obtain ⟨cs0, p1, _⟩ := hel 0 (by omega)
        rw [c39] at p1
        obtain ⟨_, hl0, hc0⟩ := World.cells?_some p1
        have z := hc0 0 (by omega)
        rw [List.getElem?_eq_getElem (by omega)] at z
        simpa [Addr.add] using World.cell?_spot z
      subst hspot
      obtain ⟨cs', h1, h2⟩ := hel k (by omega)
      rw [c39] at h1
      obtain ⟨_, hlen, hcell⟩ := World.cells?_some h1
      obtain ⟨y, T, m1, c1, I, p1, d1, rfl, hT, hT2, hI⟩ := cl_parts hlen h2
      refine ⟨rfl, y, T, m1, c1, I, p1, d1, fun j u hu => ?_, hT, hT2, hI⟩
      have hj : j < 3 := by have := (List.getElem?_eq_some_iff.1 hu).1; simpa [clC] using this
      have q := hcell j hj
      rw [Addr.add_mid, Addr.add_mid, hu, Nat.mul_comm k 3] at q
      exact q
    refine ⟨_, _, _, (List.range len).map fun k => if hk : k < len then Classical.choose (hone k hk).2 else ⟨0, [], []⟩, rfl, by simp, fun k x hx => ?_⟩
    have hk : k < len := by have := (List.getElem?_eq_some_iff.1 hx).1; simpa using this
    have hx' : x = Classical.choose (hone k hk).2 := by
      rw [List.getElem?_map, List.getElem?_range hk] at hx
      simp only [Option.map_some, Option.some.injEq, dif_pos hk] at hx
      exact hx.symm
    obtain ⟨T, m, c, I, p, d, q1, q2⟩ := Classical.choose_spec (hone k hk).2
    rw [← hx'] at q1 q2
    have hspot := (hone k hk).1
    subst hspot
    exact ⟨b, off, T, m, c, I, p, d, rfl, World.block_lt_of_cell? W _ (q1 0 _ rfl), q1, q2⟩
theorem run_indexK (b off n c k : Nat) (z : Int) (hz : z = k) (hk : k < n) (w : World) : (Instr.indexAt 22 (.slice (some ⟨b, off, none⟩) n c) (.int .i64 z)).run Tryd.prog w = .ok (.pointer (some ⟨b, off + 3 * k, none⟩)) w := by
  subst hz
  have h1 : (0 : Int) ≤ (k : Int) ∧ (k : Int) < (n : Int) := by omega
  simp [Instr.indexAt, asIntOf, run_underlying Tryd.underlying22, h1, Addr.add_mid, hk, Nat.mul_comm]
theorem wpList_indexK {ops : Array Oper} {rest : List Oper} {o : Oper} {a : Act} {w : World} {Q : Exit → Act → World → Prop} (hgd : Region.wanted o (yielded ops a.tmps) = true) (x y : Operand) (ho : o.op = .indexAddr 22 x y) (b off n c k at' : Nat) (z : Int)
    (hx : a.eval x = .slice (some ⟨b, off, none⟩) n c) (hy : a.eval y = .int .i64 z) (hz : z = k) (hk : k < n) (hat : off + 3 * k = at')
    (h : wpList Tryd.prog ops Q rest (a.put o.dst (.pointer (some ⟨b, at', none⟩))) w) : wpList Tryd.prog ops Q (o :: rest) a w :=
  wpList_of hgd fun _ hK => by
    subst hat
    unfold Oper.wp execOp
    simp only [ho, hx, hy, Sem.run_bind, run_indexK b off n c k z hz hk, Result.andThen_ok]
    exact hK _ _ h
theorem wpList_loadK {ops : Array Oper} {rest : List Oper} {o : Oper} {a : Act} {w : World} {Q : Exit → Act → World → Prop} (hgd : o.guard = none) (x : Operand) (ho : o.op = .load 39 x) (b off : Nat) (ki : Int) (T : Option Addr) (m c : Nat) (I : Option Addr) (p d : Nat)
    (hx : a.eval x = .pointer (some ⟨b, off, none⟩)) (hc : w.rangeAt b off (clC ki T m c I p d).toList)
    (h : wpList Tryd.prog ops Q rest (a.put o.dst (.agg (clC ki T m c I p d))) w) : wpList Tryd.prog ops Q (o :: rest) a w :=
  wpList_load_mid hgd 39 x ho b off hx _ _ hc Tryd.underlying39 rfl (by show (Tryd.prog.info? 39).map (·.size) = some 3; kernel_rfl) h
/-- more than is played? -/
def longC (L : List Cl) : Bool := decide (40 < L.length) || L.any fun x => decide (500 < x.b.length) || decide (10 < x.kept.length)
theorem longC_no {L : List Cl} (h : longC L = false) : L.length ≤ 40 ∧ ∀ x ∈ L, x.b.length ≤ 500 ∧ x.kept.length ≤ 10 := by
  unfold longC at h
  simp only [Bool.or_eq_false_iff, decide_eq_false_iff_not, List.any_eq_false, decide_eq_true_eq, Bool.or_eq_true, not_or] at h
  exact ⟨by omega, fun x hx => by have := h.2 x hx; omega⟩
set_option maxRecDepth 100000 in
set_option maxHeartbeats 1000000 in
theorem Long_any (A : Option Addr) (n c : Nat) (L : List Cl) (w : World) (h : Cls w A n L) : Calls Tryd.prog 10 #[.slice A n c] w fun e w' => e = .returned (.bool (longC L)) ∧ w = w' := by
  have HL := Lib.hid h.1
  by_cases h60 : 40 < n
  · have HQ := Lib.hid (show longC L = true by unfold longC; rw [HL.out]; simp [h60])
    have i0 : (40 : Int) < (n : Int) := by omega
    rw [HQ.out]
    clear h h60
    go_enter Tryd.func10, Tryd.ntmps10
    go_wp2
    go_ret
    exact ⟨rfl, rfl⟩
  · have HC := Lib.hid h
    have i0 : ¬ (40 : Int) < (n : Int) := by omega
    clear h
    go_enter Tryd.func10, Tryd.ntmps10
    go_wp2
    go_loop [3] (fun x => ∃ k : Nat, k ≤ n ∧ x = .int .i64 (k : Int) ∧ Hid (∀ j y, j < k → L[j]? = some y → y.b.length ≤ 500 ∧ y.kept.length ≤ 10)) (fun x => n - (intOf x).toNat)
    case atStart => exact ⟨0, Nat.zero_le _, rfl, Lib.hid (fun j y hj => absurd hj (Nat.not_lt_zero _))⟩
    case round =>
      obtain ⟨k, hk, rfl, HK⟩ := hrel
      by_cases hlt : k < n
      · obtain ⟨x, b, off, T, m, c1, I, p, d, hx, rfl, hb, hr, hB, _, hI⟩ := HC.out.get hlt
        have c3 : w.cell? ⟨b, off + 3 * k + 1, none⟩ = some (.slice T m c1) := hr 1 _ rfl
        have c4 : w.cell? ⟨b, off + 3 * k + 2, none⟩ = some (.slice I p d) := hr 2 _ rfl
        have hm : x.b.length = m := hB.1
        have hp : x.kept.length = p := hI.1
        have HX := Lib.hid hx
        clear hr hB hI hx
        by_cases h5 : 500 < m
        · have HQ := Lib.hid (show longC L = true by
            unfold longC
            rw [Bool.or_eq_true, List.any_eq_true]
            exact .inr ⟨x, List.mem_of_getElem? HX.out, by simp; omega⟩)
          have i5 : (500 : Int) < (m : Int) := by omega
          clear hm hp h5
          go_wp2_with (with_reducible refine wpList_indexK (by with_unfolding_all rfl) (.tmp 13) (.tmp 14) rfl b off n c k _ _ rfl rfl rfl hlt rfl ?_)
          go_ret
          rw [HQ.out]; exact ⟨rfl, rfl⟩
        · have i5 : ¬ (500 : Int) < (m : Int) := by omega
          by_cases h10 : 10 < p
          · have HQ := Lib.hid (show longC L = true by
              unfold longC
              rw [Bool.or_eq_true, List.any_eq_true]
              exact .inr ⟨x, List.mem_of_getElem? HX.out, by simp; omega⟩)
            have i10 : (10 : Int) < (p : Int) := by omega
            clear hm hp h5 h10
            go_wp2_with (first
              | (with_reducible refine wpList_indexK (by with_unfolding_all rfl) (.tmp 13) (.tmp 14) rfl b off n c k _ _ rfl rfl rfl hlt rfl ?_)
              | (with_reducible refine wpList_indexK (by with_unfolding_all rfl) (.tmp 21) (.tmp 22) rfl b off n c k _ _ rfl rfl rfl hlt rfl ?_))
            go_ret
            rw [HQ.out]; exact ⟨rfl, rfl⟩
          · have i10 : ¬ (10 : Int) < (p : Int) := by omega
            have HM := Lib.hid (And.intro hm hp)
            have H5 := Lib.hid (And.intro h5 h10)
            clear hm hp h5 h10
            go_wp2_with (first
              | (with_reducible refine wpList_indexK (by with_unfolding_all rfl) (.tmp 13) (.tmp 14) rfl b off n c k _ _ rfl rfl rfl hlt rfl ?_)
              | (with_reducible refine wpList_indexK (by with_unfolding_all rfl) (.tmp 21) (.tmp 22) rfl b off n c k _ _ rfl rfl rfl hlt rfl ?_))
            go_round
            case rel => exact ⟨k + 1, by omega, by go_num, Lib.hid fun j y hj hy => by
              by_cases hjk : j = k
              · subst hjk
                rw [HX.out] at hy
                injection hy with hy
                subst hy
                have := HM.out
                have := H5.out
                omega
              · exact HK.out j y (by omega) hy⟩
            case measure => simp [intOf]; omega
      · have HQ := Lib.hid (show longC L = false by
          unfold longC
          rw [Bool.or_eq_false_iff]
          refine ⟨by simp [HL.out]; omega, ?_⟩
          rw [List.any_eq_false]
          intro x hx
          obtain ⟨j, hj⟩ := List.getElem?_of_mem hx
          have := HK.out j x (by have := (List.getElem?_eq_some_iff.1 hj).1; have := HL.out; omega) hj
          simp; omega)
        go_wp2
        go_ret
        rw [HQ.out]; exact ⟨rfl, rfl⟩
end Go.Proofs.YtgiobcpljbpmiaaDoor
