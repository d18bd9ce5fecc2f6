/-
  The document's Append and Cut.
-/
import Derived.Test.YtpnllbadalcnaaaRefC
namespace Go.Proofs.Ytpnllbadalcnaaa
open Go.RowKit
def DidM (w : World) (g : Nat) (F : Nat → Nat → Prop) (r : Tp × Int) (e : Ending) (w' : World) : Prop := e = .returned (.int .i64 r.2) ∧ GrowM w g F r.1 w'
theorem TapM.grew {w w' : World} {g : Nat} {F : Nat → Nat → Prop} {S : Tp} (h : TapM w' g F S) (ho : Off (· = g) w w') : GrowM w g F S w' := ⟨⟨F, fun _ _ q => .inl q, h⟩, ho.mono (fun _ q => .inl q)⟩
theorem madd_grow {w w4 w5 : World} {S : Tp} {g i n c c5 : Nat} {F : Nat → Nat → Prop} {x : Stp} {A A5 : Option Addr} (h : TapM w g F S) (hi : i < 4) (hcell : w.cell? ⟨g, 2 * i + 1, none⟩ = some (.slice A n c)) (hb4 : Below w.heap.size w w4) (hg5 : w4.grownBy w5 (Value.slice A n c).ownBlock)
    (h5 : OwnS Try.stR w5 (.slice A5 (n + 1) c5) (n + 1) ((S.f i).opn ++ [x])) (hf5 : (Value.slice A5 (n + 1) c5).ownBlock = (Value.slice A n c).ownBlock ∨ (Value.slice A5 (n + 1) c5).ownBlock = some w4.heap.size) :
    ∃ cs, Row w5 g 41 cs ∧ 2 * i + 1 < cs.size ∧ GrowM w g F (S.add i x) (w5.setCell ⟨g, 2 * i + 1, none⟩ (.slice A5 (n + 1) c5)) := by
  obtain ⟨cs, hr, hs, h12, h13, h4⟩ := h.row
  obtain ⟨A1, n1, c1, A2, m, c2, h1, h2, hO, hS, hF1, hF2⟩ := h4 i hi
  have e := (hr.cell (2 * i + 1)).symm.trans hcell
  rw [h2] at e
  injection e with e
  injection e with e1 e2 e3
  subst e1 e2 e3
  have hgl := hr.lt
  have hng : ¬ OB (.slice A2 m c2) g := ownsRow_far hS hr (by decide)
  have hr5 : Row w5 g 41 cs := (hg5.block g (Nat.lt_of_lt_of_le hgl hb4.size) (fun e => hng e.symm)).trans ((hb4.block g hgl).trans hr)
  have o5 : Off (OB (.slice A2 m c2)) w w5 := (Off.of_below (F := OB (.slice A2 m c2)) hb4).trans (Off.grown (F := OB (.slice A2 m c2)) hg5 (fun b q => q)) (fun x q => .inl q)
  have hn5 : ∀ b, OB (.slice A5 (m + 1) c5) b → b ≠ g := fun b q e => ownsRow_far h5 hr5 (by decide) (by rw [← e]; exact q)
  have hnA : ∀ b, OB (.slice A5 (m + 1) c5) b → OB (.slice A2 m c2) b ∨ w.heap.size ≤ b := fun b q => by
    rcases hf5 with e | e
    · exact .inl (e.symm.trans q)
    · have e2 : some _ = some b := e.symm.trans q
      injection e2 with e2
      have := hb4.size
      right; omega
  refine ⟨cs, hr5, by omega, h.put hr (hr5.set _ _) (by rw [Array.size_setIfInBounds]; exact hs) ?_ ?_ h.fz hi ?_ ((o5.mono (F' := fun b => b = g ∨ F i b) (fun b q => .inr (hF2 b q))).trans (Off.setCell (F := fun b => b = g ∨ F i b) w5 g (2 * i + 1) (.slice A5 (m + 1) c5) (.inl rfl)) (fun x q => .inl q)) ⟨A1, n1, c1, A5, m + 1, c5, ?_, ?_, ?_, ?_, fun b q => .inl (hF1 b q), fun b q => (hnA b q).imp (hF2 b) id⟩⟩
  · rw [Array.getElem?_setIfInBounds, if_neg (by omega)]; exact h12
  · rw [Array.getElem?_setIfInBounds, if_neg (by omega)]; exact h13
  · intro j hj hji k hk
    rw [Array.getElem?_setIfInBounds, if_neg (by omega)]
  · rw [Array.getElem?_setIfInBounds, if_neg (by omega)]; exact h1
  · rw [Array.getElem?_setIfInBounds, if_pos rfl, if_pos (by omega)]
  · refine hO.keep (fun b q => ?_)
    have hbg : b ≠ g := fun e => h.off i b (hF1 b q) e
    rw [Below.heap_setCell _ _ _ _ hbg]
    exact o5.block b (hO.lt b q).2 (fun q2 => ownsRow_apart hO hS (by decide) q q2)
  · exact h5.keep (fun b q => Below.heap_setCell _ _ _ _ (hn5 b q))
theorem yields_indexB {ops : Array Oper} {S : World → Prop} {o : Oper} {a : Act} (hw : Region.wanted o (yielded ops a.tmps) = true) (x y : Operand) (ho : o.op = .indexAddr 29 x y) (b off n c k : Nat)
    (hx : a.eval x = .slice (some ⟨b, off, none⟩) n c) (hy : a.eval y = .int .i64 (k : Int)) (hk : k < n) : YieldsIf Try.prog ops S o (.pointer (some ⟨b, off + k, none⟩)) a :=
  .inl ⟨hw, fun w _ => by
    have h1 : (0 : Int) ≤ (k : Int) ∧ (k : Int) < (n : Int) := by omega
    unfold execOp
    simp [ho, hx, hy, Instr.indexAt, asIntOf, run_underlying Try.underlying29, Addr.add_mid, hk]⟩
theorem yields_byte {ops : Array Oper} {S : World → Prop} {o : Oper} {a : Act} (hw : Region.wanted o (yielded ops a.tmps) = true) (x : Operand) (ho : o.op = .load 5 x) (g k : Nat) (v : Value)
    (hx : a.eval x = .pointer (some ⟨g, k, none⟩)) (hS : ∀ w, S w → w.cell? ⟨g, k, none⟩ = some v) : YieldsIf Try.prog ops S o v a :=
  .inl ⟨hw, fun w h => by
    have hc := hS w h
    unfold execOp
    simp only [ho, hx]
    go_simp⟩
set_option maxRecDepth 100000 in
theorem yields_bApp {ops : Array Oper} {S : World → Prop} {o : Oper} {a : Act} (hw : Region.wanted o (yielded ops a.tmps) = true) (x : Operand) (ho : o.op = .build 80 #[(0, x), (1, .const (.int .i64 (-1)))]) (b : UInt8)
    (hx : a.eval x = .int .u8 (b.toNat : Int)) : YieldsIf Try.prog ops S o (.agg (stpR (.app b)).toArray) a :=
  .inl ⟨hw, fun w _ => by
    unfold execOp
    simp only [ho, List.map_toArray, List.map_cons, List.map_nil, hx]
    go_simp
    rfl⟩
set_option maxRecDepth 100000 in
theorem yields_bCut {ops : Array Oper} {S : World → Prop} {o : Oper} {a : Act} (hw : Region.wanted o (yielded ops a.tmps) = true) (x : Operand) (ho : o.op = .build 80 #[(0, .const (.int .u8 0)), (1, x)]) (n : Nat)
    (hx : a.eval x = .int .i64 (n : Int)) : YieldsIf Try.prog ops S o (.agg (stpR (.cut n)).toArray) a :=
  .inl ⟨hw, fun w _ => by
    unfold execOp
    simp only [ho, List.map_toArray, List.map_cons, List.map_nil, hx]
    go_simp
    rfl⟩
end Go.Proofs.Ytpnllbadalcnaaa
