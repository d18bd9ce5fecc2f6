/-
  The contracts of layer 1's calls, each in one form for all inputs: bits.Word, bits.Number, bits.Bytes and the document's own; the copy of bytes that a law hands in.
-/
import Derived.Test.YtiidcnjhjojhoaaDoorBits
import Derived.Test.YtiidcnjhjojhoaaDoorSame
import Derived.Test.YtiidcnjhjojhoaaDoorBytes
namespace Go.Proofs.YtiidcnjhjojhoaaDoor
open Go.RowKit
def wordE (l : List UInt8) (p : Int) : Int := if 0 ≤ p ∧ p + 4 ≤ l.length then 0 else 1
def wordV (l : List UInt8) (p : Int) : Int := if 0 ≤ p ∧ p + 4 ≤ l.length then (num ((l.drop p.toNat).take 4) : Int) else 0
def numE (l : List UInt8) : Int := if l.length ≤ 8 then 0 else 1
def numV (l : List UInt8) : Int := if l.length ≤ 8 then (num l : Int) else 0
def bytesE (W : Int) : Int := if 0 ≤ W ∧ W ≤ 8 then 0 else 1
def bytesL (N W : Int) : List UInt8 := if 0 ≤ W ∧ W ≤ 8 then bytesOf N.toNat W.toNat else []
theorem bytesL_length (N W : Int) : (bytesL N W).length ≤ 8 := by
  unfold bytesL; split
  · rw [bytesOf_length]; omega
  · simp
theorem numV_lt (l : List UInt8) : 0 ≤ numV l ∧ numV l < 18446744073709551616 := by
  unfold numV; split
  · rename_i h
    have := num_lt' l 8 h
    omega
  · omega

theorem Word_any (A : Option Addr) (n c : Nat) (l : List UInt8) (p : Int) (w : World) (h : Bs w A n l) (hc : n ≤ c) (hn : n ≤ 140737488355328) :
    Calls Tryd.prog 43 #[.slice A n c, .int .i64 p] w fun e w' => e = .returned (.tuple #[.int .u32 (wordV l p), .int .i64 (wordE l p)]) ∧ w = w' := by
  unfold wordV wordE
  rw [h.1]
  by_cases hp : 0 ≤ p ∧ p + 4 ≤ n
  · rw [if_pos hp, if_pos hp]; exact Word_ok A n c l p w h hc hp.1 hp.2 hn
  · rw [if_neg hp, if_neg hp]; exact Word_no A n c p w (by omega) hn
theorem RefWord_any (A : Option Addr) (n c : Nat) (l : List UInt8) (p : Int) (w : World) (h : Bs w A n l) (hn : n ≤ 140737488355328) :
    Calls Tryd.prog 48 #[.slice A n c, .int .i64 p] w fun e w' => e = .returned (.tuple #[.int .u32 (wordV l p), .int .i64 (wordE l p)]) ∧ ∃ m, w' = w.drewN m := by
  unfold wordV wordE
  rw [h.1]
  by_cases hp : 0 ≤ p ∧ p + 4 ≤ n
  · rw [if_pos hp, if_pos hp]; exact RefWord_ok A n c l p w h hp.1 hp.2 hn
  · rw [if_neg hp, if_neg hp]; exact (RefWord_no A n c p w (by omega) hn).mono fun e w' ⟨he, hw⟩ => ⟨he, 0, hw ▸ rfl⟩
/-- a slice of bytes in new memory, and an error's number -/
def NewBytesE (w : World) (t : TypeId) (l : List UInt8) (E : Int) (e : Ending) (w' : World) : Prop :=
  ∃ A n c, e = .returned (.tuple #[.slice A n c, .int .i64 E]) ∧ Bs w' A n l ∧ n ≤ c ∧ Below w.heap.size w w' ∧ Own w' w.heap.size t (.slice A n c) n l
theorem Bytes_any (N W : Int) (w : World) (h0 : 0 ≤ N) (hN : N < 18446744073709551616) :
    Calls Tryd.prog 46 #[.int .u64 N, .int .i64 W] w (NewBytesE w 5 (bytesL N W) (bytesE W)) := by
  unfold bytesL bytesE
  by_cases hp : 0 ≤ W ∧ W ≤ 8
  · rw [if_pos hp, if_pos hp]
    obtain ⟨n, rfl⟩ := Int.eq_ofNat_of_zero_le h0
    obtain ⟨k, rfl⟩ := Int.eq_ofNat_of_zero_le hp.1
    exact (Bytes_ok n k w (by omega) (by omega)).mono fun e w' ⟨A, c, he, ho, hb⟩ => by
      obtain ⟨A', c', hv, hc⟩ := ho.form
      injection hv with h1 h2 h3
      subst h1 h3
      exact ⟨A, k, c, he, ho.bs, hc, hb, ho⟩
  · rw [if_neg hp, if_neg hp]
    exact (Bytes_no N W w (by omega)).mono fun e w' ⟨he, hw⟩ => by
      subst hw
      exact ⟨none, 0, 0, he, Bs.nil _ _, Nat.le_refl _, Below.refl _ _, Own.nil _ _ _⟩
theorem RefBytes_any (N W : Int) (w : World) (h0 : 0 ≤ N) (hN : N < 18446744073709551616) :
    Calls Tryd.prog 47 #[.int .u64 N, .int .i64 W] w (NewBytesE w 5 (bytesL N W) (bytesE W)) := by
  unfold bytesL bytesE
  by_cases hp : 0 ≤ W ∧ W ≤ 8
  · rw [if_pos hp, if_pos hp]
    obtain ⟨n, rfl⟩ := Int.eq_ofNat_of_zero_le h0
    obtain ⟨k, rfl⟩ := Int.eq_ofNat_of_zero_le hp.1
    exact (RefBytes_ok n k w (by omega) (by omega)).mono fun e w' ⟨A, c, he, ho, hb⟩ => by
      obtain ⟨A', c', hv, hc⟩ := ho.form
      injection hv with h1 h2 h3
      subst h1 h3
      exact ⟨A, k, c, he, ho.bs, hc, hb, ho⟩
  · rw [if_neg hp, if_neg hp]
    exact (RefBytes_no N W w (by omega)).mono fun e w' ⟨he, hw⟩ => by
      subst hw
      exact ⟨none, 0, 0, he, Bs.nil _ _, Nat.le_refl _, Below.refl _ _, Own.nil _ _ _⟩
theorem below_drewN {B : Nat} {a w : World} (h : Below B a w) (n : Nat) : Below B a (w.drewN n) := ⟨h.os, h.tape, h.output, h.size, h.block⟩
theorem empty_new (w : World) (t : TypeId) : Own (w.alloc (.cells #[] t)) w.heap.size t (.slice (some ⟨w.heap.size, 0, none⟩) 0 0) 0 [] :=
  (Row.new w t #[]).own (Nat.le_refl _) rfl rfl (by omega) fun j x h => by simp at h
/-- a literal of bytes -/
theorem lit_new (w : World) (t : TypeId) (cs : Array Value) (n : Nat) (l : List UInt8) (hl : l.length = n) (hs : cs.size = n) (hc : ∀ (j : Nat) (x : UInt8), l[j]? = some x → cs[j]? = some (.int .u8 (x.toNat : Int))) (hn : n ≤ 65536) :
    Bs (w.alloc (.cells cs t)) (some ⟨w.heap.size, 0, none⟩) n l :=
  ((Row.new w t cs).own (Nat.le_refl _) hl hs (by omega) hc).bs
/-- append([]byte{}, x...): a copy in new memory -/
theorem wpList_copy {P : Program} {t e : TypeId} (T : ByteTypes P t e) {w : World} {ops : Array Oper} {rest : List Oper} {o : Oper} {a : Act} {Q : Exit → Act → World → Prop} (hgd : o.guard = none) (s x : Operand)
    (ho : o.op = .call { callee := .builtin .append, args := #[s, x], argTypes := #[t, t] })
    (hs : a.eval s = .slice (some ⟨w.heap.size, 0, none⟩) 0 0)
    (A : Option Addr) (m c : Nat) (l : List UInt8) (hx : a.eval x = .slice A m c) (hr : Bs w A m l) (hb : m ≤ 140737488355328)
    (h : ∀ A' c' w', Bs w' A' m l → m ≤ c' → Below w.heap.size w w' → Own w' w.heap.size e (.slice A' m c') m l → wpList P ops Q rest (a.put o.dst (.slice A' m c')) w') :
    wpList P ops Q (o :: rest) a (w.alloc (.cells #[] e)) := by
  have hbel0 : Below w.heap.size w (w.alloc (.cells #[] e)) := (Below.refl _ _).alloc (Nat.le_refl _) _
  refine wpList_app T hgd s x ho w.heap.size _ 0 [] hs (empty_new w e) A m c l hx (hr.below hbel0) (by omega) (by simp) ?_
  intro A' c' w' hown hbel _
  rw [Nat.zero_add] at hown ⊢
  obtain ⟨A2, c2, hv, hc⟩ := hown.form
  injection hv with h1 h2 h3
  subst h1 h3
  exact h A' c' w' (by simpa using hown.bs) hc (hbel0.trans hbel) (by simpa using hown)
end Go.Proofs.YtiidcnjhjojhoaaDoor
