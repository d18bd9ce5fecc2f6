/-
  What came in: a signature, a list of things to do.
-/
import Derived.Test.YtfelmdndjdaniaaDoorKeyG
import Derived.Deep.Strs
namespace Go.Proofs.YtfelmdndjdaniaaDoor
open Go.RowKit Go.ChangeShapes Go.WideShapes Go.ChangeAt
set_option maxRecDepth 100000 in
theorem open_dsC {H : Type} {enc : TypeId × Value → H} {W : World} {fuel : Nat} {cs : List Value} {x : DataW H × List MemPlace}
    (hf : DataW.trod enc Tryd.prog W 0 (fun _ => true) true fuel 42 cs = some x) : ∃ (a0 : Option Addr) (len cap : Nat) (L : List (List UInt8)), cs = [.slice a0 len cap] ∧ Ds W a0 len L ∧ len ≤ cap := by
  rcases Deep.open_slice Tryd.under24 hf with ⟨hcs, _⟩ | ⟨a, len, cap, m, n, D, Pl, hcs, _, hl, _, hmm, _, hel⟩
  · exact ⟨none, 0, 0, [], hcs, Ds.nil _ _, Nat.le_refl _⟩
  · refine (?_ : ∃ (a0 : Option Addr) (len : Nat) (cap : Nat) (L : List (List UInt8)), cs = [.slice a0 len cap] ∧ Ds W a0 len L ∧ len ≤ cap)
    subst hcs
    simp only [if_true] at hmm
    subst hmm
    have c23 : Tryd.prog.cellsOf 23 = 32 := by kernel_rfl
    rw [c23] at hel
    by_cases h0 : len = 0
    · subst h0; exact ⟨_, _, _, [], rfl, Ds.nil _ _, hl⟩
    obtain ⟨b, off, spot⟩ := a
    have hspot : spot = none := by
      obtain ⟨cs', h1, h2⟩ := hel 0 (by omega)
      obtain ⟨l, hl32, rfl⟩ := bytes_of_trod h2
      obtain ⟨_, _, hcell⟩ := World.cells?_some h1
      have hq := hcell 0 (by omega)
      rw [List.getElem?_map, List.getElem?_eq_getElem (by omega)] at hq
      simpa [Addr.add] using World.cell?_spot hq
    subst hspot
    have key : ∀ k, k ≤ len → ∃ L : List (List UInt8), L.length = k ∧ Digs L ∧ ∀ j x, (flat L)[j]? = some x → b < W.heap.size ∧ W.cell? ⟨b, off + j, none⟩ = some (bcell x) := by
      intro k
      induction k with
      | zero => exact fun _ => ⟨[], rfl, Digs.nil, fun j x hj => by simp [flat] at hj⟩
      | succ k ih =>
        intro hk
        obtain ⟨L, hL, hD, hc⟩ := ih (by omega)
        obtain ⟨cs', h1, h2⟩ := hel k (by omega)
        obtain ⟨l, hl32, rfl⟩ := bytes_of_trod h2
        obtain ⟨_, _, hcell⟩ := World.cells?_some h1
        have hfl : (flat L).length = 32 * k := by rw [flat_length hD, hL]
        refine ⟨L ++ [l], by simp [hL], hD.app (fun d hd => by simp at hd; subst hd; exact hl32), fun j x hj => ?_⟩
        rw [flat_app, show flat [l] = l by simp [flat]] at hj
        by_cases hlt : j < 32 * k
        · rw [List.getElem?_append_left (by omega)] at hj
          exact hc j x hj
        · obtain ⟨q, rfl⟩ : ∃ q, j = 32 * k + q := ⟨j - 32 * k, by omega⟩
          rw [List.getElem?_append_right (by omega), hfl, Nat.add_sub_cancel_left] at hj
          have hj2 : q < 32 := by have := (List.getElem?_eq_some_iff.1 hj).1; rw [hl32] at this; exact this
          have hq := hcell q hj2
          rw [List.getElem?_map, hj, Addr.add_mid, Addr.add_mid, Nat.mul_comm k 32, Nat.add_assoc] at hq
          exact ⟨World.block_lt_of_cell? W _ hq, hq⟩
    obtain ⟨L, hL, hD, hc⟩ := key len (Nat.le_refl _)
    refine ⟨_, _, _, L, rfl, ⟨hL, hD, by rw [flat_length hD, hL], fun j x hj => ?_⟩, hl⟩
    obtain ⟨hb, hcell⟩ := hc j x hj
    exact ⟨b, off, rfl, hb, hcell⟩
theorem open_bsC {H : Type} {enc : TypeId × Value → H} {W : World} {fuel : Nat} {cs : List Value} {x : DataW H × List MemPlace}
    (hf : DataW.trod enc Tryd.prog W 0 (fun _ => true) true fuel 37 cs = some x) : ∃ (a0 : Option Addr) (len cap : Nat) (l : List UInt8), cs = [.slice a0 len cap] ∧ Bs W a0 len l ∧ len ≤ cap := by
  rcases open_ints Tryd.underlying37 Tryd.underlying5 (by kernel_rfl) hf with ⟨hcs, _⟩ | ⟨x, l, c, zs, hcs, _, hl, hm, hz, hx, hcell, hwz⟩
  · exact ⟨none, 0, 0, [], hcs, Bs.nil _ _, Nat.le_refl _⟩
  · have hz' : zs.length = c := by simpa using hz
    exact ⟨_, _, _, _, hcs, Bs.of_ints hl hz' hcell hwz, hl⟩
theorem list3 {α : Type} : ∀ (l : List α), l.length = 3 → ∃ a b c, l = [a, b, c]
  | [a, b, c], _ => ⟨a, b, c, rfl⟩
theorem wf_i64' {i : Int} (h : (Lit.int .i64 i).wf = true) : -9223372036854775808 ≤ i ∧ i < 9223372036854775808 := by
  simp [Lit.wf, IntKind.min, IntKind.max, IntKind.signed, IntKind.bits] at h; omega
set_option maxRecDepth 100000 in
theorem open_sig {H : Type} {enc : TypeId × Value → H} {W : World} {base : Nat} {v : Value} {d : DataW H} {p : List MemPlace} (hv : Value.okWide Tryd.prog W .any base 44 v)
    (h : DataW.Trod enc Tryd.prog W 0 (fun _ => true) true 44 v d p) : ∃ (i : Int) (A : Option Addr) (n c : Nat) (O : List (List UInt8)) (B : Option Addr) (m e : Nat) (P : List (List UInt8)),
      v = .agg (sigC i A n c B m e) ∧ (-9223372036854775808 ≤ i ∧ i < 9223372036854775808) ∧ (Ds W A n O ∧ n ≤ c) ∧ (Ds W B m P ∧ m ≤ e) := by
  obtain ⟨cs, rfl, hsz⟩ := okWide_struct Tryd.underlying44 hv
  obtain ⟨fuel, hf⟩ := h
  have c3 : Tryd.prog.cellsOf 3 = 1 := by kernel_rfl
  have c42 : Tryd.prog.cellsOf 42 = 1 := by kernel_rfl
  have c44 : Tryd.prog.cellsOf 44 = 3 := by kernel_rfl
  obtain ⟨y0, y1, y2, n, _, hl, h0, h1, h2⟩ := Deep.trod_struct3 Tryd.underlying44 hf
  obtain ⟨v0, v1, v2, hcs⟩ := list3 cs.toList (by rw [← c44, ← hsz]; simp)
  obtain rfl : cs = #[v0, v1, v2] := by cases cs; simpa using hcs
  have g0 : DataW.trod enc Tryd.prog W 0 (fun _ => true) true n 3 [v0] = some y0 := by rw [c3] at h0; exact h0
  have g1 : DataW.trod enc Tryd.prog W 0 (fun _ => true) true n 42 [v1] = some y1 := by rw [c42] at h1; exact h1
  have g2 : DataW.trod enc Tryd.prog W 0 (fun _ => true) true n 42 [v2] = some y2 := by rw [c42] at h2; exact h2
  obtain ⟨i, hi, _, hwf⟩ := DataW.trod_int Tryd.underlying3 g0
  obtain ⟨A, m1, k1, O, e1, hO, hO2⟩ := open_dsC g1
  obtain ⟨B, m2, k2, P, e2, hP, hP2⟩ := open_dsC g2
  simp only [List.cons.injEq, and_true] at hi e1 e2
  subst hi e1 e2
  exact ⟨i, A, m1, k1, O, B, m2, k2, P, rfl, wf_i64' hwf, ⟨hO, hO2⟩, ⟨hP, hP2⟩⟩
/-- a list of things to do, as it reads -/
def Dos (w : World) (A : Option Addr) (n : Nat) : Prop :=
  ∀ k, k < n → ∃ (b off : Nat) (ki nn : Int) (T : Option Addr) (m c : Nat) (l : List UInt8), A = some ⟨b, off, none⟩ ∧ b < w.heap.size ∧ w.cell? ⟨b, off + 3 * k, none⟩ = some (.int .i64 ki) ∧ w.cell? ⟨b, off + 3 * k + 1, none⟩ = some (.int .i64 nn) ∧
    w.cell? ⟨b, off + 3 * k + 2, none⟩ = some (.slice T m c) ∧ Bs w T m l ∧ m ≤ c
set_option maxRecDepth 100000 in
theorem open_dos {H : Type} {enc : TypeId × Value → H} {W : World} {base : Nat} {v : Value} {d : DataW H} {p : List MemPlace} (hv : Value.okWide Tryd.prog W .any base 36 v)
    (h : DataW.Trod enc Tryd.prog W 0 (fun _ => true) true 36 v d p) : ∃ (a0 : Option Addr) (len cap : Nat), v = .slice a0 len cap ∧ Dos W a0 len := by
  obtain ⟨a0, len, cap, rfl⟩ := okWide_slice Tryd.underlying36 hv
  obtain ⟨fuel, hf⟩ := h
  have c3 : Tryd.prog.cellsOf 3 = 1 := by kernel_rfl
  have c37 : Tryd.prog.cellsOf 37 = 1 := by kernel_rfl
  have c39 : Tryd.prog.cellsOf 39 = 3 := by kernel_rfl
  rcases Deep.open_slice Tryd.underlying36 hf with ⟨hcs, _⟩ | ⟨a, len', cap', m, n, D, Pl, hcs, _, hl, _, hmm, _, hel⟩
  · simp [Value.cells] at hcs
    obtain ⟨rfl, rfl, rfl⟩ := hcs
    exact ⟨_, _, _, rfl, fun k hk => absurd hk (Nat.not_lt_zero _)⟩
  · simp [Value.cells] at hcs
    obtain ⟨rfl, rfl, rfl⟩ := hcs
    simp only [if_true] at hmm
    subst hmm
    refine ⟨_, _, _, rfl, fun k hk => ?_⟩
    obtain ⟨b, off, spot⟩ := a
    have hspot : spot = none := by
      obtain ⟨cs0, p1, _⟩ := hel 0 (by omega)
      rw [c39] at p1
      obtain ⟨_, hl0, hc0⟩ := World.cells?_some p1
      have z := hc0 0 (by omega)
      rw [List.getElem?_eq_getElem (by omega)] at z
      simpa [Addr.add] using World.cell?_spot z
    subst hspot
    obtain ⟨cs', h1, h2⟩ := hel k (by omega)
    rw [c39] at h1
    obtain ⟨_, hlen, hcell⟩ := World.cells?_some h1
    obtain ⟨y0, y1, y2, n', _, _, t0, t1, t2⟩ := Deep.trod_struct3 Tryd.underlying39 h2
    obtain ⟨v0, v1, v2, rfl⟩ := list3 cs' hlen
    have g0 : DataW.trod enc Tryd.prog W 0 (fun _ => true) true n' 3 [v0] = some y0 := by rw [c3] at t0; exact t0
    have g1 : DataW.trod enc Tryd.prog W 0 (fun _ => true) true n' 3 [v1] = some y1 := by rw [c3] at t1; exact t1
    have g2 : DataW.trod enc Tryd.prog W 0 (fun _ => true) true n' 37 [v2] = some y2 := by rw [c37] at t2; exact t2
    obtain ⟨i, hi, _, _⟩ := DataW.trod_int Tryd.underlying3 g0
    obtain ⟨j, hj, _, _⟩ := DataW.trod_int Tryd.underlying3 g1
    obtain ⟨T, m1, k1, l, e1, hT, hT2⟩ := open_bsC g2
    simp only [List.cons.injEq, and_true] at hi hj e1
    subst hi hj e1
    have q0 := hcell 0 (by omega)
    have q1 := hcell 1 (by omega)
    have q2 := hcell 2 (by omega)
    rw [Addr.add_mid, Addr.add_mid, Nat.mul_comm k 3] at q0 q1 q2
    exact ⟨b, off, i, j, T, m1, k1, l, rfl, World.block_lt_of_cell? W _ q0, q0, q1, q2, hT, hT2⟩
end Go.Proofs.YtfelmdndjdaniaaDoor
